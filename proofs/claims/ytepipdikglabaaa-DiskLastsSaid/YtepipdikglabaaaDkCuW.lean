/- The walk of DiskCuts: it returns true. No condition but those that each states. -/
import Derived.Test.YtepipdikglabaaaDkK
import Derived.Deep.Grids
namespace Go.Proofs.Ytepipdikglabaaa.Dk
open Go.RowKit

/-- Behind i operations, of which the one behind n is to be cut. -/
structure CutSt (S : DS) (n m i : Nat) : Prop where
  run : i ≤ n → S.on = true ∧ S.next = some (n - i, m) ∧ S.ops = i
  off : n < i → S.on = false ∧ S.ops = n + 1
  len : S.L.length = 16
  few : S.c ≤ i

theorem step_more {S : DS} {k m : Nat} (h : S.next = some (k + 1, m)) : S.step = (S.tick.plan k m, true) := by unfold DS.step; rw [h]
theorem step_cut {S : DS} {m : Nat} (h : S.next = some (0, m)) : S.step = (({ S.tick with next := none } : DS).lose m, false) := by unfold DS.step; rw [h]

theorem lose_len (S : DS) (m : Nat) : (S.lose m).L.length = S.L.length := stl_length _ _ _ _
theorem settled_len (S : DS) (m : Nat) : (S.settled m).L.length = S.L.length := stl_length _ _ _ _

theorem CutSt.write_lt {S : DS} {n m i : Nat} (h : CutSt S n m i) (hi : i < n) (a : Nat) (s : Bytes) : errOf (S.write a s).2 = 0 ∧ CutSt (S.write a s).1 n m (i + 1) := by
  obtain ⟨h1, h2, h3⟩ := h.run (Nat.le_of_lt hi)
  obtain ⟨k, hk⟩ : ∃ k, n - i = k + 1 := ⟨n - i - 1, by omega⟩
  rw [hk] at h2
  have e : S.write a s = ((S.put a s).tick.plan k m, true) := step_more (S := S.put a s) h2
  rw [e]
  refine ⟨rfl, fun _ => ⟨h1, ?_, ?_⟩, fun h' => by omega, h.len, ?_⟩
  · show some (k, m) = some (n - (i + 1), m); congr 2; omega
  · show S.ops + 1 = i + 1; omega
  · show S.c + 1 ≤ i + 1; have := h.few; omega

theorem CutSt.write_eq {S : DS} {n m : Nat} (h : CutSt S n m n) (a : Nat) (s : Bytes) : errOf (S.write a s).2 = 7 ∧ CutSt (S.write a s).1 n m (n + 1) := by
  obtain ⟨h1, h2, h3⟩ := h.run (Nat.le_refl n)
  rw [Nat.sub_self] at h2
  have e : S.write a s = (({ (S.put a s).tick with next := none } : DS).lose m, false) := step_cut (S := S.put a s) h2
  rw [e]
  refine ⟨rfl, fun h' => by omega, fun _ => ⟨rfl, ?_⟩, ?_, ?_⟩
  · show S.ops + 1 = n + 1; omega
  · rw [lose_len]; exact h.len
  · show S.c + 1 ≤ n + 1; have := h.few; omega

theorem CutSt.sync_lt {S : DS} {n m i : Nat} (h : CutSt S n m i) (hi : i < n) : errOf S.sync.2 = 0 ∧ CutSt S.sync.1 n m (i + 1) := by
  obtain ⟨h1, h2, h3⟩ := h.run (Nat.le_of_lt hi)
  obtain ⟨k, hk⟩ : ∃ k, n - i = k + 1 := ⟨n - i - 1, by omega⟩
  rw [hk] at h2
  have e : S.sync = ((S.tick.plan k m).settled allM, true) := by unfold DS.sync; rw [step_more h2]; rfl
  rw [e]
  refine ⟨rfl, fun _ => ⟨h1, ?_, ?_⟩, fun h' => by omega, ?_, ?_⟩
  · show some (k, m) = some (n - (i + 1), m); congr 2; omega
  · show S.ops + 1 = i + 1; omega
  · rw [settled_len]; exact h.len
  · show S.c ≤ i + 1; have := h.few; omega

theorem CutSt.sync_eq {S : DS} {n m : Nat} (h : CutSt S n m n) : errOf S.sync.2 = 7 ∧ CutSt S.sync.1 n m (n + 1) := by
  obtain ⟨h1, h2, h3⟩ := h.run (Nat.le_refl n)
  rw [Nat.sub_self] at h2
  have e : S.sync = (({ S.tick with next := none } : DS).lose m, false) := by unfold DS.sync; rw [step_cut h2]; rfl
  rw [e]
  refine ⟨rfl, fun h' => by omega, fun _ => ⟨rfl, ?_⟩, ?_, ?_⟩
  · show S.ops + 1 = n + 1; omega
  · rw [lose_len]; exact h.len
  · show S.c ≤ n + 1; have := h.few; omega

theorem CutSt.later {S : DS} {n m i : Nat} (h : CutSt S n m i) (hi : n < i) : CutSt S n m (i + 1) :=
  ⟨fun h' => by omega, fun _ => h.off hi, h.len, Nat.le_succ_of_le h.few⟩

/-- What a round's operation answers, and what is then. -/
def cutErr (n i : Nat) : Int := if i < n then 0 else 7

/-- A write of the round. -/
theorem cut_write {w0 : World} {F : Nat → Prop} {g : Nat} {S : DS} {n m i : Nat} (h : CutSt S n m i) (a : Nat) (ha : a < 16) (hi : i ≤ 100) (hn : n ≤ 100) (s : Bytes) (hs : s.length = 64) (w : World) (hD : Dk w0 w F g S) :
    Calls Try.prog 18 #[.pointer (some ⟨g, 0, none⟩), .int .i64 (a : Int), .string (strOf s)] w fun e w' => e = .returned (.int .i64 (cutErr n i)) ∧ ∃ T, Dk w0 w' F g T ∧ CutSt T n m (i + 1) := by
  have hc := h.few
  by_cases hlt : i < n
  · obtain ⟨h1, h2, h3⟩ := h.run (Nat.le_of_lt hlt)
    obtain ⟨e1, e2⟩ := h.write_lt hlt a s
    refine (dk_write a s w hD h1 (by rw [h.len]; exact ha) hs (by omega) (by omega)).mono fun _ _ ⟨he, hd, _⟩ => ⟨?_, _, hd, e2⟩
    rw [he, e1]; unfold cutErr; rw [if_pos hlt]
  · have ec : cutErr n i = 7 := by unfold cutErr; rw [if_neg hlt]
    rw [ec]
    by_cases heq : i = n
    · subst heq
      obtain ⟨h1, h2, h3⟩ := h.run (Nat.le_refl i)
      obtain ⟨e1, e2⟩ := h.write_eq a s
      exact (dk_write a s w hD h1 (by rw [h.len]; exact ha) hs (by omega) (by omega)).mono fun _ _ ⟨he, hd, _⟩ => ⟨by rw [he, e1], _, hd, e2⟩
    · obtain ⟨h1, h2⟩ := h.off (by omega)
      exact (write_off F g S a (strOf s) w hD.here h1).mono fun _ _ ⟨he, hw⟩ => ⟨he, S, hw ▸ hD, h.later (by omega)⟩

theorem cut_sync {w0 : World} {F : Nat → Prop} {g : Nat} {S : DS} {n m i : Nat} (h : CutSt S n m i) (hi : i ≤ 100) (hn : n ≤ 100) (w : World) (hD : Dk w0 w F g S) :
    Calls Try.prog 19 #[.pointer (some ⟨g, 0, none⟩)] w fun e w' => e = .returned (.int .i64 (cutErr n i)) ∧ ∃ T, Dk w0 w' F g T ∧ CutSt T n m (i + 1) := by
  have hc := h.few
  by_cases hlt : i < n
  · obtain ⟨h1, h2, h3⟩ := h.run (Nat.le_of_lt hlt)
    obtain ⟨e1, e2⟩ := h.sync_lt hlt
    refine (dk_sync w hD h1 (by omega) (by omega)).mono fun _ _ ⟨he, hd, _⟩ => ⟨?_, _, hd, e2⟩
    rw [he, e1]; unfold cutErr; rw [if_pos hlt]
  · have ec : cutErr n i = 7 := by unfold cutErr; rw [if_neg hlt]
    rw [ec]
    by_cases heq : i = n
    · subst heq
      obtain ⟨h1, h2, h3⟩ := h.run (Nat.le_refl i)
      obtain ⟨e1, e2⟩ := h.sync_eq
      exact (dk_sync w hD h1 (by omega) (by omega)).mono fun _ _ ⟨he, hd, _⟩ => ⟨by rw [he, e1], _, hd, e2⟩
    · obtain ⟨h1, h2⟩ := h.off (by omega)
      exact (sync_off F g S w hD.here h1).mono fun _ _ ⟨he, hw⟩ => ⟨he, S, hw ▸ hD, h.later (by omega)⟩

theorem CutSt.on_is {S : DS} {n m i : Nat} (h : CutSt S n m (i + 1)) : S.on = decide (i < n) := by
  by_cases hlt : i < n
  · rw [(h.run hlt).1, decide_eq_true hlt]
  · rw [(h.off (by omega)).1, decide_eq_false hlt]
theorem CutSt.ops_is {S : DS} {n m i : Nat} (h : CutSt S n m (i + 1)) : S.ops = min (i + 1) (n + 1) := by
  by_cases hlt : i < n
  · rw [(h.run hlt).2.2]; omega
  · rw [(h.off (by omega)).2]; omega

theorem cut_new (n m : Nat) : CutSt ((new 16).plan n m) n m 0 := ⟨fun _ => ⟨rfl, rfl, rfl⟩, fun h => by omega, by simp [new, DS.plan], Nat.zero_le _⟩

set_option maxHeartbeats 4000000 in
set_option maxRecDepth 100000 in
theorem cuts_any (k m b off len cap : Nat) (hk : k < 256) (hm : m < 2 ^ 64) (B : Nat → Bool) (w : World) (hl : len ≤ maxLen) (hb : b < w.heap.size) (hc : ∀ j, j < len → w.cell? ⟨b, off + j, none⟩ = some (.bool (B j))) :
    Calls Try.prog 5 #[.int .u8 (k : Int), .slice (some ⟨b, off, none⟩) len cap, .int .u64 (m : Int)] w fun e w' => e = .returned (.bool true) ∧ Below w.heap.size w w' := by
  have HC := Lib.hid hc
  clear hc
  unfold maxLen at hl
  have hk0 : (k : Int) < 256 := by omega
  obtain ⟨n, hn⟩ : ∃ n, n = k % 30 := ⟨_, rfl⟩
  have hn30 : n < 30 := by omega
  have C1 := fun W (h : Dk w W (fun k => w.heap.size ≤ k) (w.heap.size + 2) (new 16)) => dk_cut n m W h (by omega) hm
  have en : ((n : Nat) : Int) = (k : Int) % 30 := by rw [hn]; simp
  rw [en] at C1
  have c1 := Lib.hid C1
  have EN := Lib.hid en
  clear C1 en hn
  go_enter Try.func5, Try.ntmps5
  go_wp2_with fail
  refine (new_dk 16 (by decide) (by decide) w).mono ?_
  rintro e w1 ⟨rfl, hb1⟩
  have H1 := Lib.hid hb1
  clear hb1
  go_wp2_with fail
  refine (c1.out w1 H1.out).mono ?_
  rintro e w2 ⟨rfl, hb2, _⟩
  have H2 := Lib.hid hb2
  clear hb2
  rw [← EN.out]
  go_wp2_with fail
  clear c1
  have CA : ∀ W, Calls Try.prog 17 #[.int .u8 1] W fun e w' => e = .returned (.string (strOf (fullB 1))) ∧ Below W.heap.size W w' := full_any 1
  have ca := Lib.hid CA
  clear CA
  have hn0 : (n : Int) < 30 := by omega
  go_loopw [10] (fun vi wr => ∃ (i : Nat) (S : DS), i ≤ 40 ∧ vi = .int .i64 i ∧ Hid (Dk w wr (fun k => w.heap.size ≤ k) (w.heap.size + 2) S ∧ CutSt S n m i)) (fun vi _ => 40 - (intOf vi).toNat)
  case atStart => exact ⟨0, _, Nat.zero_le _, rfl, H2.out, cut_new n m⟩
  case round =>
    clear H2 H1 EN
    obtain ⟨i, S, hi, rfl, hI⟩ := hrel
    by_cases hlen : i < len
    · by_cases h40 : i < 40
      · have cb : wr.cell? ⟨b, off + i, none⟩ = some (.bool (B i)) := (hI.out.1.below.cell (p := ⟨b, off + i, none⟩) hb).trans (HC.out i hlen)
        have z0 : (0 : Int) ≤ (i : Int) := by omega
        have z1 : (i : Int) < (len : Int) := by omega
        have z2 : (i : Int) < 40 := by omega
        have em : ((i % 16 : Nat) : Int) = (i : Int) % 16 := by simp
        have CW := fun W (h : Dk w W (fun k => w.heap.size ≤ k) (w.heap.size + 2) S) => cut_write hI.out.2 (i % 16) (by omega) (by omega) (by omega) (fullB 1) (fullB_length 1) W h
        rw [em] at CW
        have cw := Lib.hid CW
        have CS := cut_sync hI.out.2 (by omega) (by omega) wr hI.out.1
        have cs := Lib.hid CS
        clear CW CS em
        generalize strOf (fullB 1) = A at *
        by_cases hin : i < n
        · have t1 : decide ((i : Int) < (n : Int)) = true := decide_eq_true (by omega)
          have t1' : decide (i < n) = true := decide_eq_true hin
          have e0 : cutErr n i = 0 := by unfold cutErr; rw [if_pos hin]
          have E0 := Lib.hid e0
          clear e0
          cases hB : B i with
          | false =>
            rw [hB] at cb
            go_wp2_with fail
            have c := cs.out
            rw [E0.out] at c
            refine c.mono ?_
            clear c
            rintro e w5 ⟨rfl, T, hd, hct⟩
            have HD5 := Lib.hid hd
            have HT := Lib.hid hct
            have CO := on_at w5 hd.here
            rw [hct.on_is, t1'] at CO
            have CP := ops_at w5 hd.here
            rw [hct.ops_is] at CP
            have co := Lib.hid CO
            have cp := Lib.hid CP
            clear hd hct CO CP
            go_wp2_with (first
              | (go_at_call 12; refine co.out.mono ?_; rintro e w' ⟨rfl, rfl⟩)
              | (go_at_call 13; refine cp.out.mono ?_; rintro e w' ⟨rfl, rfl⟩))
            go_roundw
            case rel => exact ⟨i + 1, T, by omega, by go_num, HD5.out, HT.out⟩
            case measure => simp [intOf]; omega
          | true =>
            rw [hB] at cb
            go_wp2_with fail
            refine (ca.out _).mono ?_
            rintro e wf ⟨rfl, hb⟩
            have HF := Lib.hid (hI.out.1.later hb)
            clear hb
            go_wp2_with fail
            have c := cw.out _ HF.out
            rw [E0.out] at c
            refine c.mono ?_
            clear c
            rintro e w5 ⟨rfl, T, hd, hct⟩
            have HD5 := Lib.hid hd
            have HT := Lib.hid hct
            have CO := on_at w5 hd.here
            rw [hct.on_is, t1'] at CO
            have CP := ops_at w5 hd.here
            rw [hct.ops_is] at CP
            have co := Lib.hid CO
            have cp := Lib.hid CP
            clear hd hct CO CP
            go_wp2_with (first
              | (go_at_call 12; refine co.out.mono ?_; rintro e w' ⟨rfl, rfl⟩)
              | (go_at_call 13; refine cp.out.mono ?_; rintro e w' ⟨rfl, rfl⟩))
            go_roundw
            case rel => exact ⟨i + 1, T, by omega, by go_num, HD5.out, HT.out⟩
            case measure => simp [intOf]; omega
        · have t1 : decide ((i : Int) < (n : Int)) = false := decide_eq_false (by omega)
          have t1' : decide (i < n) = false := decide_eq_false hin
          have e0 : cutErr n i = 7 := by unfold cutErr; rw [if_neg hin]
          have E0 := Lib.hid e0
          clear e0
          cases hB : B i with
          | false =>
            rw [hB] at cb
            go_wp2_with fail
            have c := cs.out
            rw [E0.out] at c
            refine c.mono ?_
            clear c
            rintro e w5 ⟨rfl, T, hd, hct⟩
            have HD5 := Lib.hid hd
            have HT := Lib.hid hct
            have CO := on_at w5 hd.here
            rw [hct.on_is, t1'] at CO
            have CP := ops_at w5 hd.here
            rw [hct.ops_is] at CP
            have co := Lib.hid CO
            have cp := Lib.hid CP
            clear hd hct CO CP
            go_wp2_with (first
              | (go_at_call 12; refine co.out.mono ?_; rintro e w' ⟨rfl, rfl⟩)
              | (go_at_call 13; refine cp.out.mono ?_; rintro e w' ⟨rfl, rfl⟩))
            go_roundw
            case rel => exact ⟨i + 1, T, by omega, by go_num, HD5.out, HT.out⟩
            case measure => simp [intOf]; omega
          | true =>
            rw [hB] at cb
            go_wp2_with fail
            refine (ca.out _).mono ?_
            rintro e wf ⟨rfl, hb⟩
            have HF := Lib.hid (hI.out.1.later hb)
            clear hb
            go_wp2_with fail
            have c := cw.out _ HF.out
            rw [E0.out] at c
            refine c.mono ?_
            clear c
            rintro e w5 ⟨rfl, T, hd, hct⟩
            have HD5 := Lib.hid hd
            have HT := Lib.hid hct
            have CO := on_at w5 hd.here
            rw [hct.on_is, t1'] at CO
            have CP := ops_at w5 hd.here
            rw [hct.ops_is] at CP
            have co := Lib.hid CO
            have cp := Lib.hid CP
            clear hd hct CO CP
            go_wp2_with (first
              | (go_at_call 12; refine co.out.mono ?_; rintro e w' ⟨rfl, rfl⟩)
              | (go_at_call 13; refine cp.out.mono ?_; rintro e w' ⟨rfl, rfl⟩))
            go_roundw
            case rel => exact ⟨i + 1, T, by omega, by go_num, HD5.out, HT.out⟩
            case measure => simp [intOf]; omega
      · obtain rfl : i = 40 := by omega
        go_wp2_with fail
        refine (known4 wr).mono ?_
        rintro e wz ⟨rfl, hb⟩
        have HZ := Lib.hid (chain2 hI.out.1.below hb)
        clear hb
        go_wp2
        go_ret
        exact ⟨rfl, HZ.out⟩
    · have t0 : decide ((i : Int) < (len : Int)) = false := decide_eq_false (by omega)
      have t0' : decide (i < len) = false := decide_eq_false hlen
      go_wp2_with fail
      refine (known4 wr).mono ?_
      rintro e wz ⟨rfl, hb⟩
      have HZ := Lib.hid (chain2 hI.out.1.below hb)
      clear hb
      go_wp2
      go_ret
      exact ⟨rfl, HZ.out⟩

set_option maxHeartbeats 4000000 in
set_option maxRecDepth 100000 in
theorem cuts_none (k m cap : Nat) (pa : Option Addr) (hk : k < 256) (hm : m < 2 ^ 64) (w : World) :
    Calls Try.prog 5 #[.int .u8 (k : Int), .slice pa 0 cap, .int .u64 (m : Int)] w fun e w' => e = .returned (.bool true) ∧ Below w.heap.size w w' := by
  have hk0 : (k : Int) < 256 := by omega
  obtain ⟨n, hn⟩ : ∃ n, n = k % 30 := ⟨_, rfl⟩
  have hn30 : n < 30 := by omega
  have C1 := fun W (h : Dk w W (fun k => w.heap.size ≤ k) (w.heap.size + 2) (new 16)) => dk_cut n m W h (by omega) hm
  have en : ((n : Nat) : Int) = (k : Int) % 30 := by rw [hn]; simp
  rw [en] at C1
  have c1 := Lib.hid C1
  have EN := Lib.hid en
  clear C1 en hn
  go_enter Try.func5, Try.ntmps5
  go_wp2_with fail
  refine (new_dk 16 (by decide) (by decide) w).mono ?_
  rintro e w1 ⟨rfl, hb1⟩
  have H1 := Lib.hid hb1
  clear hb1
  go_wp2_with fail
  refine (c1.out w1 H1.out).mono ?_
  rintro e w2 ⟨rfl, hb2, _⟩
  have H2 := Lib.hid hb2
  clear hb2
  rw [← EN.out]
  go_wp2_with fail
  clear c1
  have CA : ∀ W, Calls Try.prog 17 #[.int .u8 1] W fun e w' => e = .returned (.string (strOf (fullB 1))) ∧ Below W.heap.size W w' := full_any 1
  have ca := Lib.hid CA
  clear CA
  have hn0 : (n : Int) < 30 := by omega
  clear ca hn0
  go_loop [10] (fun vi => vi = .int .i64 0) (fun _ => 0)
  case atStart => rfl
  case round =>
    obtain rfl := hrel
    go_wp2_with fail
    refine (known4 w2).mono ?_
    rintro e wz ⟨rfl, hb⟩
    have HZ := Lib.hid (chain2 H2.out.below hb)
    clear hb
    go_wp2
    go_ret
    exact ⟨rfl, HZ.out⟩

theorem bool_cells : Try.prog.cellsOf 4 = 1 := by kernel_rfl

/-- The same of the slice as it was read. -/
theorem cuts_raw {H : Type} {enc : TypeId × Value → H} (k : Int) (hk : (Lit.int .u8 k).wf = true) {w : World} {b0 : Nat} {v : Value} {d : DataW H} {p : List MemPlace}
    (hv : Value.okWide Try.prog w .any b0 52 v) (h : DataW.Trod enc Try.prog w 0 (fun _ => true) true 52 v d p) (m : Int) (hm : (Lit.int .u64 m).wf = true) :
    Calls Try.prog 5 #[.int .u8 k, v, .int .u64 m] w fun e w' => e = .returned (.bool true) ∧ Below w.heap.size w w' := by
  have k1 : 0 ≤ k ∧ k < 256 := by simp [Lit.wf, IntKind.min, IntKind.max, IntKind.signed, IntKind.bits] at hk; omega
  have m1 : 0 ≤ m ∧ m < 18446744073709551616 := by simp [Lit.wf, IntKind.min, IntKind.max, IntKind.signed, IntKind.bits] at hm; omega
  obtain ⟨kn, rfl⟩ := Int.eq_ofNat_of_zero_le k1.1
  obtain ⟨mn, rfl⟩ := Int.eq_ofNat_of_zero_le m1.1
  have hlt : ∀ x ∈ p, x.block < w.heap.size := by obtain ⟨n, hn⟩ := h; exact DataW.trod_lt n _ _ _ hn
  obtain ⟨a0, len, cap, rfl⟩ := WideShapes.okWide_slice Try.underlying52 hv
  obtain ⟨fuel, hf⟩ := h
  rcases Go.Deep.open_bools Try.underlying52 Try.underlying4 bool_cells hf with ⟨hcs, hx⟩ | ⟨a, len', cap', B, hcs, _, hl, hmx, hx, hcell⟩
  · simp [Value.cells] at hcs
    obtain ⟨rfl, rfl, rfl⟩ := hcs
    exact cuts_none kn mn 0 none (by omega) (by omega) w
  · simp [Value.cells] at hcs
    obtain ⟨rfl, rfl, rfl⟩ := hcs
    simp only [Prod.mk.injEq] at hx
    by_cases hl0 : len = 0
    · subst hl0
      exact cuts_none kn mn cap (some a) (by omega) (by omega) w
    · obtain ⟨b, off, spot⟩ := a
      have hspot : spot = none := by simpa [Addr.add] using World.cell?_spot (hcell 0 (by omega))
      subst hspot
      have hbW : b < w.heap.size := hlt (.cell b off) (by rw [hx.2]; exact MemPlace.mem_row.2 ⟨0, by omega, by simp⟩)
      refine cuts_any kn mn b off len cap (by omega) (by omega) B w (Nat.le_trans hl hmx) hbW (fun j hj => ?_)
      rw [← WideShapes.add_plain]; exact hcell j (by omega)

end Go.Proofs.Ytepipdikglabaaa.Dk
