/- The walks of chrysalisref08's skip and mark: their contracts. No condition but those that each states. -/
import Derived.Test.YtcfmjnhagpmnpaaDoorLxRB
import Derived.Test.YtcfmjnhagpmnpaaDoorLxM
import Derived.Test.YtcfmjnhagpmnpaaDoorStill
namespace Go.Proofs.YtcfmjnhagpmnpaaDoor.Lx
open Go.RowKit Dk

theorem from_cons (s : ByteArray) (a : Nat) (h : a < s.size) : ∃ c r, from' s a = c :: r ∧ from' s (a + 1) = r := by
  obtain ⟨c, r, h1, h2, h3⟩ := from_split s a 0 (by omega)
  rw [List.drop_zero] at h1
  refine ⟨c, r, h1, ?_⟩
  rw [← from_drop, h1]; rfl
theorem from_end (s : ByteArray) : from' s s.size = [] := List.eq_nil_of_length_eq_zero (by rw [from_length]; omega)

theorem skipT (c : UInt8) (r : List UInt8) : skipN true (c :: r) = skipN (decide (c.toNat ≠ 10)) r + 1 := by rw [skipN]
theorem skipF (c : UInt8) (r : List UInt8) : skipN false (c :: r) = if c.toNat = 35 then skipN true r + 1 else if isB c then skipN false r + 1 else 0 := by rw [skipN]

set_option maxHeartbeats 2000000 in
theorem rskip_any (s : ByteArray) (a : Nat) (w : World) (ha : a ≤ s.size) (hs : s.size ≤ 2 ^ 40) :
    Calls Tryd.prog 24 #[.string s, .int .i64 (a : Int)] w fun e w' => e = .returned (.int .i64 ((a + skipN false (from' s a) : Nat) : Int)) ∧ w = w' := by
  go_enter Tryd.func24, Tryd.ntmps24
  go_wp2
  go_loopw [1] (fun va wr => ∃ b : Nat, b ≤ s.size ∧ va = .int .i64 (b : Int) ∧ w = wr ∧ Hid (a + skipN false (from' s a) = b + skipN false (from' s b))) (fun va _ => s.size - (intOf va).toNat)
  case atStart => exact ⟨a, ha, rfl, rfl, Lib.hid rfl⟩
  case round =>
    obtain ⟨b, hb, rfl, rfl, hS⟩ := hrel
    by_cases hlt : b < s.size
    · obtain ⟨c, r, hl, hl1⟩ := from_cons s b hlt
      have hix := fun W => byte_at (P := Tryd.prog) s b c r hl 9 Tryd.underlying9 W
      have hlt' : (b : Int) < (s.size : Int) := by omega
      have CB := Lib.hid (fun W => rblank_any (c.toNat : Int) W)
      have hS' := hS.out
      rw [hl, skipF] at hS'
      by_cases h35 : c.toNat = 35
      · have v1 : ((c.toNat : Int) == 35) = true := by rw [h35]; rfl
        rw [show rB (c.toNat : Int) = false by rw [h35]; rfl] at CB
        have HI : Hid (a + skipN false (from' s a) = b + skipN true (from' s b)) := Lib.hid (by
          rw [hS', if_pos h35, hl, skipT, show decide (c.toNat ≠ 10) = true by rw [h35]; rfl])
        have H35 : Hid (from' s b = c :: r ∧ c.toNat = 35) := Lib.hid ⟨hl, h35⟩
        generalize (c.toNat : Int) = x at *
        clear hS' hS h35 hl hl1
        go_wp2_with (go_at_call 37; refine (CB.out _).mono ?_; rintro e w' ⟨rfl, rfl⟩)
        go_loopw [1] (fun va wr => ∃ d : Nat, b ≤ d ∧ d ≤ s.size ∧ va = .int .i64 (d : Int) ∧ w = wr ∧ Hid (a + skipN false (from' s a) = d + skipN true (from' s d))) (fun va _ => s.size - (intOf va).toNat)
        case atStart => exact ⟨b, Nat.le_refl _, hb, rfl, rfl, HI⟩
        case round =>
          clear hix hlt' v1 HI CB
          obtain ⟨d, hbd, hd, rfl, rfl, hT⟩ := hrel
          by_cases hlt2 : d < s.size
          · obtain ⟨y, q, hq, hq1⟩ := from_cons s d hlt2
            have hix := fun W => byte_at (P := Tryd.prog) s d y q hq 9 Tryd.underlying9 W
            have hlt' : (d : Int) < (s.size : Int) := by omega
            have hT' := hT.out
            rw [hq, skipT] at hT'
            by_cases h10 : y.toNat = 10
            · have v2 : ((y.toNat : Int) == 10) = true := by rw [h10]; rfl
              have v3 : ((y.toNat : Int) != 10) = false := by rw [h10]; rfl
              have HN : Hid (a + skipN false (from' s a) = d + skipN false (from' s d)) := Lib.hid (by
                rw [hT', hq, skipF, if_neg (by omega), if_pos (by unfold isB rB; rw [h10]; rfl), show decide (y.toNat ≠ 10) = false by rw [h10]; rfl])
              have HGT : Hid (b < d) := Lib.hid (by
                rcases Nat.lt_or_ge b d with h | h
                · exact h
                · have : b = d := by omega
                  subst this
                  have h1 := H35.out.1
                  rw [hq] at h1
                  have := (List.cons.inj h1).1
                  rw [this] at h10
                  have := H35.out.2
                  omega)
              generalize (y.toNat : Int) = x2 at *
              clear hT' hT h10 hq hq1
              go_wp2
              go_roundw
              case rel => exact ⟨d, hd, rfl, by trivial, HN⟩
              case measure => simp [intOf]; have := HGT.out; omega
            · have v2 : ((y.toNat : Int) == 10) = false := by simp; omega
              have v3 : ((y.toNat : Int) != 10) = true := by simp; omega
              have HN : Hid (a + skipN false (from' s a) = (d + 1) + skipN true (from' s (d + 1))) := Lib.hid (by
                rw [hT', hq1, show decide (y.toNat ≠ 10) = true by simpa using h10]; omega)
              generalize (y.toNat : Int) = x2 at *
              clear hT' hT h10 hq hq1
              go_wp2
              go_roundw
              case rel => exact ⟨d + 1, by omega, by omega, by go_num, by trivial, HN⟩
              case measure => simp [intOf]; omega
          · obtain rfl : d = s.size := by omega
            have hge : ¬((s.size : Int)) < (s.size : Int) := by omega
            have HN : Hid (a + skipN false (from' s a) = s.size + skipN false (from' s s.size)) := Lib.hid (by rw [hT.out, from_end]; rfl)
            clear hT
            go_wp2
            go_roundw
            case rel => exact ⟨s.size, Nat.le_refl _, rfl, by trivial, HN⟩
            case measure => simp [intOf]; omega
      · have v1 : ((c.toNat : Int) == 35) = false := by simp; omega
        rw [if_neg h35] at hS'
        cases hbk : isB c with
        | true =>
          have k1 : rB (c.toNat : Int) = true := hbk
          rw [k1] at CB
          have HN : Hid (a + skipN false (from' s a) = (b + 1) + skipN false (from' s (b + 1))) := Lib.hid (by rw [hS', hbk, if_pos rfl, hl1]; omega)
          generalize (c.toNat : Int) = x at *
          clear hS' hS h35 hl hl1 k1 hbk
          go_wp2_with (go_at_call 37; refine (CB.out _).mono ?_; rintro e w' ⟨rfl, rfl⟩)
          go_roundw
          case rel => exact ⟨b + 1, by omega, by go_num, by trivial, HN⟩
          case measure => simp [intOf]; omega
        | false =>
          have k1 : rB (c.toNat : Int) = false := hbk
          rw [k1] at CB
          have HN : Hid (a + skipN false (from' s a) = b) := Lib.hid (by rw [hS', hbk, if_neg Bool.false_ne_true]; rfl)
          generalize (c.toNat : Int) = x at *
          clear hS' hS h35 hl hl1 k1 hbk
          go_wp2_with (go_at_call 37; refine (CB.out _).mono ?_; rintro e w' ⟨rfl, rfl⟩)
          go_ret
          exact ⟨by first | (rw [HN.out]; rfl) | (rw [← Int.natCast_add, HN.out]; rfl), rfl⟩
    · obtain rfl : b = s.size := by omega
      have HN : Hid (a + skipN false (from' s a) = s.size) := Lib.hid (by rw [hS.out, from_end]; rfl)
      have hge : ¬((s.size : Int)) < (s.size : Int) := by omega
      clear hS
      go_wp2
      go_ret
      exact ⟨by first | (rw [HN.out]; rfl) | (rw [← Int.natCast_add, HN.out]; rfl), rfl⟩

end Go.Proofs.YtcfmjnhagpmnpaaDoor.Lx
