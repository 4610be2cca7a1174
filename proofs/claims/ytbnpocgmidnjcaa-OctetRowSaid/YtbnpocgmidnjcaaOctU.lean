/- The walk of chrysalisref01.Unhex: its contract. No condition but those that it states. -/
import Derived.Test.YtbnpocgmidnjcaaOctT
import Derived.Deep.AppendLies
import Derived.Deep.RegionLaw
namespace Go.Proofs.Ytbnpocgmidnjcaa
open Go.RowKit

theorem unhex_row (l : List UInt8) (k m : Nat) (hk : l.length = 2 * k) (hm : m < k) (hx : isHex l = true) (h0 : 2 * m < l.length) (h1 : 2 * m + 1 < l.length) :
    bv ((unhexL l).take (m + 1)) = bv ((unhexL l).take m) ++ [.int .u8 (16 * hexVal l[2 * m] + hexVal l[2 * m + 1])] := by
  have hm' : m < (unhexL l).length := by rw [unhexL_length]; omega
  have hx' : isHex (l.take l.length) = true := by rw [List.take_length]; exact hx
  have a := isHex_at l l.length (2 * m) (by omega) (Nat.le_refl _) hx'
  have b := isHex_at l l.length (2 * m + 1) (by omega) (Nat.le_refl _) hx'
  rw [List.getD_eq_getElem?_getD, List.getElem?_eq_getElem h0] at a
  rw [List.getD_eq_getElem?_getD, List.getElem?_eq_getElem h1] at b
  simp only [Option.getD_some] at a b
  have c := hexVal_lt l[2 * m]
  have d := hexVal_lt l[2 * m + 1]
  rw [List.take_succ_eq_append_getElem hm', bv_append, unhexL_at l m hm' h1]
  congr 1
  simp only [bv, List.map_cons, List.map_nil]
  rw [UInt8.toNat_ofNat']
  congr 2
  omega

theorem index_nat (s : ByteArray) (j : Nat) (h : j < s.size) (W : World) : (Instr.index 9 (.string s) (.int .i64 (j : Int))).run Try.prog W = .ok (.int .u8 ((s.data.toList[j]'(by simpa using h)).toNat : Int)) W := by
  show _ = Result.ok (Value.int .u8 ((s[j]'h).toNat : Int)) W
  go_simp

set_option maxHeartbeats 2000000 in
theorem runhex_any (s : ByteArray) (w : World) (hs : s.size ≤ 20000) :
    Calls Try.prog 17 #[.string s] w fun e w' => e = .returned (unhexRes s.data.toList) ∧ Below w.heap.size w w' := by
  obtain ⟨i0, hi, hz0, hz1, hz2⟩ := info_parts Try.info5
  go_enter Try.func17, Try.ntmps17
  go_wp2
  go_loop [5] (fun vi => ∃ j : Nat, j ≤ s.size ∧ vi = .int .i64 j ∧ isHex (s.data.toList.take j) = true) (fun vi => s.size - (intOf vi).toNat)
  case atStart => exact ⟨0, Nat.zero_le _, rfl, by simp [isHex]⟩
  case round =>
    obtain ⟨j, hj, rfl, hhex⟩ := hrel
    have HH := Lib.hid hhex
    clear hhex
    by_cases hlt : j < s.size
    · have hl : j < s.data.toList.length := by simpa using hlt
      have hbl : s.data.toList[j] = s[j] := rfl
      have hix : ∀ W : World, (Instr.index 9 (.string s) (.int .i64 (j : Int))).run Try.prog W = .ok (.int .u8 (s[j].toNat : Int)) W := fun W => by go_simp
      by_cases hv : 0 ≤ hexVal s[j]
      · have HT := Lib.hid (isHex_take_succ s.data.toList j hl hv HH.out)
        have C := Lib.hid (fun W => rvalue_any s[j] W)
        have h15 := hexVal_lt s[j]
        generalize s[j] = b at *
        generalize hexVal b = hv' at *
        have hd : decide (hv' < 0) = false := by simp; omega
        clear hbl hl
        go_wp2_with (go_at_call 28; refine (C.out _).mono ?_; rintro e w' ⟨rfl, rfl⟩)
        go_round
        case rel => exact ⟨j + 1, by omega, by go_num, HT.out⟩
        case measure => simp [intOf]; omega
      · have HF := Lib.hid (unhexRes_no s.data.toList (isHex_not _ j hl (by rw [hbl]; omega)))
        have C := Lib.hid (fun W => rvalue_any s[j] W)
        have hv2 : hexVal s[j] < 0 := by omega
        generalize s[j] = b at *
        generalize hexVal b = hv' at *
        clear hbl hl
        go_wp2_with (go_at_call 28; refine (C.out _).mono ?_; rintro e w' ⟨rfl, rfl⟩)
        go_ret2
        exact ⟨by rw [HF.out]; rfl, Below.refl _ _⟩
    · obtain rfl : j = s.size := by omega
      have hl : s.data.toList.length = s.size := by simp
      have hx : isHex s.data.toList = true := by rw [← List.take_length (l := s.data.toList), hl]; exact HH.out
      by_cases ho : s.size % 2 = 1
      · have HF := Lib.hid (unhexRes_odd s.data.toList (by rw [hl]; exact ho))
        have hd : (((s.size : Int) % 2) == 1) = true := by rw [beq_iff_eq]; omega
        clear hl hx ho
        go_wp2
        go_ret2
        exact ⟨by rw [HF.out]; rfl, Below.refl _ _⟩
      · have HF := Lib.hid (unhexRes_yes s.data.toList (by rw [hl]; omega) hx)
        have hd : (((s.size : Int) % 2) == 1) = false := by simp; omega
        obtain ⟨k, hk⟩ : ∃ k, s.size = 2 * k := ⟨s.size / 2, by omega⟩
        have HX := Lib.hid hx
        have HK := Lib.hid hk
        have HL := Lib.hid hl
        clear hl hx ho hk
        go_wp2
        clear hd
        go_loopw [4, 6] (fun v vi wr => ∃ m : Nat, m ≤ k ∧ vi = .int .i64 (2 * (m : Int)) ∧ Hid (wr.ownsRow w.heap.size 5 1 v m (bv ((unhexL s.data.toList).take m))) ∧ Hid (Below w.heap.size w wr)) (fun _ vi _ => 2 * k - (intOf vi).toNat)
        case atStart => exact ⟨0, Nat.zero_le _, rfl, Lib.hid (by simpa [bv] using World.ownsRow_nil w w.heap.size 5 1), Lib.hid (Below.refl _ _)⟩
        case round =>
          obtain ⟨m, hm, rfl, hown, hbel⟩ := hrel
          have hbs := hbel.out.size
          have hk2 := HK.out
          by_cases hlt : m < k
          · have h0 : 2 * m < s.data.toList.length := by rw [HL.out]; omega
            have h1 : 2 * m + 1 < s.data.toList.length := by rw [HL.out]; omega
            have HR := Lib.hid (unhex_row s.data.toList k m (by rw [HL.out]; exact hk2) hlt HX.out h0 h1)
            have hx' : isHex (s.data.toList.take s.data.toList.length) = true := by rw [List.take_length]; exact HX.out
            have a := isHex_at s.data.toList _ (2 * m) h0 (Nat.le_refl _) hx'
            have b := isHex_at s.data.toList _ (2 * m + 1) h1 (Nat.le_refl _) hx'
            rw [List.getD_eq_getElem?_getD, List.getElem?_eq_getElem h0] at a
            rw [List.getD_eq_getElem?_getD, List.getElem?_eq_getElem h1] at b
            simp only [Option.getD_some] at a b
            have c := hexVal_lt s.data.toList[2 * m]
            have d := hexVal_lt s.data.toList[2 * m + 1]
            have g1 : (2 * (m : Int)) < (s.size : Int) := by omega
            have g2 : (2 * (m : Int) + 1) < (s.size : Int) := by omega
            have i1 : ∀ W : World, (Instr.index 9 (.string s) (.int .i64 (2 * (m : Int)))).run Try.prog W = .ok (.int .u8 (s.data.toList[2 * m].toNat : Int)) W := fun W => by
              have := index_nat s (2 * m) (by omega) W
              rwa [show ((2 * m : Nat) : Int) = 2 * (m : Int) by omega] at this
            have i2 : ∀ W : World, (Instr.index 9 (.string s) (.int .i64 (2 * (m : Int) + 1))).run Try.prog W = .ok (.int .u8 (s.data.toList[2 * m + 1].toNat : Int)) W := fun W => by
              have := index_nat s (2 * m + 1) (by omega) W
              rwa [show ((2 * m + 1 : Nat) : Int) = 2 * (m : Int) + 1 by omega] at this
            generalize s.data.toList[2 * m] = b1 at *
            generalize s.data.toList[2 * m + 1] = b2 at *
            have N1 := Lib.hid (news_at wr #[.int .u8 (16 * hexVal b1 + hexVal b2)] 5)
            have s1 : IntKind.i64.wrap (2 * (m : Int) + 1) = 2 * (m : Int) + 1 := IntWalk.i64_in _ (by omega)
            have s2 : IntKind.i64.wrap (16 * hexVal b1) = 16 * hexVal b1 := IntWalk.i64_in _ (by omega)
            have s3 : IntKind.i64.wrap (16 * hexVal b1 + hexVal b2) = 16 * hexVal b1 + hexVal b2 := IntWalk.i64_in _ (by omega)
            have s4 : IntKind.u8.wrap (16 * hexVal b1 + hexVal b2) = 16 * hexVal b1 + hexVal b2 := wraps_u8 _ (by omega) (by omega)
            have t1 : m + 1 ≤ maxLen := by unfold maxLen; omega
            have t2 : (m + 1) * 1 ≤ 140737488355328 := by omega
            have t3 : ∀ o, w.heap.size ≤ (wr.alloc o).heap.size := fun o => by simp; omega
            have T1 := Lib.hid t1
            have T2 := Lib.hid t2
            have T3 := Lib.hid t3
            clear h0 h1 hx' hk2 t1 t2 t3
            go_wp2_with fail
            go_region_law (first
              | (refine step_append_lies _ (by rfl) (.tmp 28) (.tmp 41) 44 (by rfl) w.heap.size 5 i0 (.int .u8 0) 1 1 Try.underlying44 hi hz0 hz1 hz2 (by rfl) (by decide) u4 m (bv ((unhexL s.data.toList).take m)) (by rfl) (by exact hown.out.alloc _) ⟨wr.heap.size, 0, none⟩ 1 1 [.int .u8 (16 * hexVal b1 + hexVal b2)] (by rfl) (by rfl) (by exact N1.out) (by simp [Value.oneCell']) (by decide) T1.out T2.out (by exact T3.out _) (wr.heap.size + 1) (by simp) ?_; intro g cap w2 hown2 hgr2 hat2 hlt2)
              | (go_simp; go_at_call 28; refine (rvalue_any _ _).mono ?_; rintro e w' ⟨rfl, rfl⟩))
            all_goals
              have HW := Lib.hid hown2
              have HG := Lib.hid hgr2
              clear hown2 hgr2 hat2 hlt2 i1 i2 s1 s2 s3 s4
              go_wp2
              go_roundw
              case rel => exact ⟨m + 1, by omega, by go_num, Lib.hid (by rw [HR.out]; exact HW.out), Lib.hid (below_append_drew hbel.out hbs hown.out HG.out)⟩
              case measure => simp [intOf]; omega
          · obtain rfl : m = k := by omega
            have hl2 : m = ((unhexL s.data.toList).take m).length := by rw [List.length_take, unhexL_length, HL.out]; omega
            have g := run_convert_owned (P := Try.prog) (src := 44) (dst := 9) Try.underlying44 Try.underlying5 Try.underlying9 (l := (unhexL s.data.toList).take m) (by rw [← hl2]; exact hown.out)
            rw [List.take_of_length_le (by rw [unhexL_length, HL.out]; omega)] at g
            have hn : ¬ (2 * (m : Int) < (s.size : Int)) := by omega
            clear hl2 hk2
            go_wp2
            go_ret2
            exact ⟨by rw [HF.out]; rfl, hbel.out⟩

end Go.Proofs.Ytbnpocgmidnjcaa
