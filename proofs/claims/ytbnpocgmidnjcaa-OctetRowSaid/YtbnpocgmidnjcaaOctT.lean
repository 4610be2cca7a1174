/- The walk of chrysalisref01.digit, chrysalisref01.value and chrysalisref01.Hex: their contracts. No condition but those that each states. -/
import Derived.Test.YtbnpocgmidnjcaaOctE
namespace Go.Proofs.Ytbnpocgmidnjcaa
open Go.RowKit

theorem digit_num : ∀ d : Fin 16, ((Lib.Hx.digit d.val).toNat : Int) = if d.val < 10 then 48 + (d.val : Int) else 97 + (d.val : Int) - 10 := by decide

set_option maxHeartbeats 400000 in
theorem rdigit_any (d : Nat) (w : World) (hd : d < 16) :
    Calls Try.prog 29 #[.int .i64 d] w fun e w' => e = .returned (.int .u8 ((Lib.Hx.digit d).toNat : Int)) ∧ w = w' := by
  have h := digit_num ⟨d, hd⟩
  have H := Lib.hid h
  clear h
  by_cases h10 : d < 10
  · go_enter Try.func29, Try.ntmps29
    go_wp2
    go_ret
    exact ⟨by rw [H.out, if_pos h10]; rfl, rfl⟩
  · go_enter Try.func29, Try.ntmps29
    go_wp2
    go_ret
    exact ⟨by rw [H.out, if_neg h10]; rfl, rfl⟩

set_option maxHeartbeats 400000 in
theorem rvalue_any (b : UInt8) (w : World) :
    Calls Try.prog 28 #[.int .u8 (b.toNat : Int)] w fun e w' => e = .returned (.int .i64 (hexVal b)) ∧ w = w' := by
  have hb := UInt8.toNat_lt b
  have HV : Hid (hexVal b = if 48 ≤ b.toNat ∧ b.toNat ≤ 57 then (b.toNat : Int) - 48 else if 97 ≤ b.toNat ∧ b.toNat ≤ 102 then (b.toNat : Int) - 97 + 10 else -1) := rfl
  generalize hexVal b = hv at *
  generalize b.toNat = x at *
  rcases (show x < 48 ∨ (48 ≤ x ∧ x ≤ 57) ∨ (58 ≤ x ∧ x < 97) ∨ (97 ≤ x ∧ x ≤ 102) ∨ 103 ≤ x by omega) with h | ⟨ha, hc⟩ | ⟨ha, hc⟩ | ⟨ha, hc⟩ | h
  all_goals
    go_enter Try.func28, Try.ntmps28
    go_wp2
    go_ret
    refine ⟨?_, rfl⟩
    rw [HV.out]
    first
      | (rw [if_pos (by omega)]; rfl)
      | (rw [if_neg (by omega), if_pos (by omega)]; rfl)
      | (rw [if_neg (by omega), if_neg (by omega)]; rfl)

theorem bv_encode_one (s : ByteArray) (j : Nat) (h : j < s.size) : bv (Lib.Hx.encode (s.data.toList.take (j + 1))) = (bv (Lib.Hx.encode (s.data.toList.take j)) ++ [.int .u8 ((Lib.Hx.digit (s[j].toNat / 16)).toNat : Int)]) ++ [.int .u8 ((Lib.Hx.digit (s[j].toNat % 16)).toNat : Int)] := by
  rw [bv_encode_succ s j h, List.append_assoc]; rfl

set_option maxHeartbeats 1000000 in
theorem rhex_any (s : ByteArray) (w : World) (hs : s.size ≤ 20000) :
    Calls Try.prog 21 #[.string s] w fun e w' => e = .returned (.string ⟨(Lib.Hx.encode s.data.toList).toArray⟩) ∧ Below w.heap.size w w' := by
  obtain ⟨i0, hi, hz0, hz1, hz2⟩ := info_parts Try.info5
  go_enter Try.func21, Try.ntmps21
  go_wp2
  go_loopw [3, 4] (fun v vi wr => ∃ j : Nat, j ≤ s.size ∧ vi = .int .i64 j ∧
      Hid (wr.ownsRow w.heap.size 5 1 v (2 * j) (bv (Lib.Hx.encode (s.data.toList.take j)))) ∧ Hid (Below w.heap.size w wr)) (fun _ vi _ => s.size - (intOf vi).toNat)
  case atStart => exact ⟨0, Nat.zero_le _, rfl, Lib.hid (by simpa [bv, Lib.Hx.encode] using World.ownsRow_nil w w.heap.size 5 1), Lib.hid (Below.refl _ _)⟩
  case round =>
    obtain ⟨j, hj, rfl, hown, hbel⟩ := hrel
    by_cases hlt : j < s.size
    · have HE := Lib.hid (bv_encode_one s j hlt)
      obtain ⟨x, hxs⟩ : ∃ x : Nat, x = s[j].toNat := ⟨_, rfl⟩
      have hb : x < 256 := by rw [hxs]; exact UInt8.toNat_lt _
      have hix : ∀ W : World, (Instr.index 9 (.string s) (.int .i64 (j : Int))).run Try.prog W = .ok (.int .u8 (x : Int)) W := fun W => by
        rw [hxs]; go_simp
      rw [← hxs] at HE
      clear hxs
      have hbs := hbel.out.size
      have c1 := Lib.hid (fun W => rdigit_any (x / 16) W (by omega))
      have c2 := Lib.hid (fun W => rdigit_any (x % 16) W (by omega))
      rw [show ((x / 16 : Nat) : Int) = (x : Int) / 16 by omega] at c1
      rw [show ((x % 16 : Nat) : Int) = (x : Int) % 16 by omega] at c2
      generalize ((Lib.Hx.digit (x / 16)).toNat : Int) = d1 at *
      generalize ((Lib.Hx.digit (x % 16)).toNat : Int) = d2 at *
      have N1 := Lib.hid (news_at wr #[.int .u8 d1] 5)
      go_wp2_with fail
      refine (c1.out _).mono ?_
      rintro e w1 ⟨rfl, rfl⟩
      go_wp2_with (at_builtin; refine wpList_append_own _ rfl (.tmp 11) (.tmp 18) 44 rfl w.heap.size 5 i0 (.int .u8 0) 1 1 Try.underlying44 hi hz0 hz1 hz2 rfl (by decide) _ _ _ rfl (hown.out.alloc _) ⟨wr.heap.size, 0, none⟩ 1 1 [.int .u8 d1] rfl rfl N1.out (by simp [Value.oneCell']) (by unfold maxLen; omega) (by omega) (by simp; omega) ?_; intro v2 w2 hown2 hgr2 _)
      have hb2 := Lib.hid (below_append hbel.out hbs hown.out hgr2)
      have ho2 := Lib.hid hown2
      clear hown2 hgr2 hown hbel N1
      have hbs2 := hb2.out.size
      have N2 := Lib.hid (news_at w2 #[.int .u8 d2] 5)
      refine (c2.out _).mono ?_
      rintro e w3 ⟨rfl, rfl⟩
      go_wp2_with (at_builtin; refine wpList_append_own _ rfl (.tmp 20) (.tmp 27) 44 rfl w.heap.size 5 i0 (.int .u8 0) 1 1 Try.underlying44 hi hz0 hz1 hz2 rfl (by decide) _ _ _ rfl (ho2.out.alloc _) ⟨w2.heap.size, 0, none⟩ 1 1 [.int .u8 d2] rfl rfl N2.out (by simp [Value.oneCell']) (by unfold maxLen; omega) (by omega) (by simp; omega) ?_; intro v3 w4 hown3 hgr3 _)
      have hb3 := Lib.hid (below_append hb2.out hbs2 ho2.out hgr3)
      have ho3 := Lib.hid hown3
      clear hown3 hgr3
      go_wp2
      go_roundw
      case rel => exact ⟨j + 1, by omega, by go_num, Lib.hid (by rw [HE.out]; exact ho3.out), hb3⟩
      case measure => simp [intOf]; omega
    · obtain rfl : j = s.size := by omega
      have hl : 2 * s.size = (Lib.Hx.encode (s.data.toList.take s.size)).length := by rw [Lib.Hx.encode_length]; simp
      have hown' := hown.out
      rw [hl] at hown'
      have g := run_convert_owned (P := Try.prog) (src := 44) (dst := 9) Try.underlying44 Try.underlying5 Try.underlying9 hown'
      clear hown' hl
      go_wp2
      go_ret
      exact ⟨by rw [List.take_of_length_le (by simp)]; rfl, hbel.out⟩

end Go.Proofs.Ytbnpocgmidnjcaa
