/- The walk of chrysalisref08.Quote: its contract. No condition but those that each states. -/
import Derived.Test.YtcfmjnhagpmnpaaDoorLxRF
namespace Go.Proofs.YtcfmjnhagpmnpaaDoor.Lx
open Go.RowKit Dk

theorem esc_more {T : List UInt8} {i : Nat} {c : UInt8} {r : List UInt8} (h : T.drop i = c :: r) : (T.take (i + 1)).flatMap escL = (T.take i).flatMap escL ++ escL c := by
  have hl : i < T.length := by
    have := congrArg List.length h
    rw [List.length_drop, List.length_cons] at this; omega
  have e2 := List.drop_eq_getElem_cons hl
  rw [h] at e2
  rw [List.take_succ_eq_append_getElem hl, List.flatMap_append, ← (List.cons.inj e2).1, List.flatMap_cons, List.flatMap_nil, List.append_nil]

set_option maxHeartbeats 4000000 in
set_option maxRecDepth 100000 in
theorem rquote_any (T : List UInt8) (w : World) (hs : T.length ≤ 2 ^ 40) :
    Calls Tryd.prog 17 #[.string (strOf T)] w fun e w' => e = .returned (.string (strOf (quoteL T))) ∧ Below w.heap.size w w' := by
  obtain ⟨i0, hi0, hy0, hy1, hy2⟩ := info_parts b_info3
  have hTs := strOf_size T
  have HFC : Hid (∀ i, i < T.length → ∃ c r, from' (strOf T) i = c :: r ∧ T.drop i = c :: r) := Lib.hid (fun i hi => by
    obtain ⟨c, r, h1, -⟩ := from_cons (strOf T) i (by omega)
    refine ⟨c, r, h1, ?_⟩
    unfold from' at h1
    rwa [strOf_toList] at h1)
  have HX0 : Hid (BX w (w.alloc (.cells #[.int .u8 34] 5)) (.slice (some ⟨w.heap.size, 0, none⟩) 1 1) [34]) := Lib.hid ⟨World.ownsRow_lit w #[.int .u8 34] 1 (Nat.le_refl _) (by unfold maxLen; omega) rfl, (Below.refl _ _).alloc (Nat.le_refl _) _⟩
  generalize hS : strOf T = s at *
  have HSS := Lib.hid hS
  clear hS
  go_enter Tryd.func17, Tryd.ntmps17
  go_wp2
  go_loopw [3, 4] (fun vo vi wr => ∃ (i : Nat) (pre : List UInt8), i ≤ T.length ∧ pre.length ≤ 1 + 2 * i ∧ vi = .int .i64 (i : Int) ∧ Hid (BX w wr vo pre) ∧ Hid (pre = 34 :: (T.take i).flatMap escL)) (fun _ vi _ => T.length - (intOf vi).toNat)
  case atStart => exact ⟨0, [34], Nat.zero_le _, by simp, rfl, HX0, Lib.hid (by simp)⟩
  case round =>
    clear HX0
    obtain ⟨i, pre, hi, hpre, rfl, hX, hS⟩ := hrel
    have hsz := hX.out.below.size
    by_cases hlt : i < T.length
    · obtain ⟨c, r, hl, hd⟩ := HFC.out i hlt
      have hix := fun W => byte_at (P := Tryd.prog) s i c r hl 9 Tryd.underlying9 W
      have hlt' : (i : Int) < (s.size : Int) := by omega
      have HM := Lib.hid (esc_more hd)
      clear hl hd
      by_cases h10 : c.toNat = 10
      · have v1 : ((c.toNat : Int) == 10) = true := by rw [h10]; rfl
        have HS : Hid (pre ++ [92, 110] = 34 :: (T.take (i + 1)).flatMap escL) := Lib.hid (by rw [HM.out, hS.out]; unfold escL; rw [if_pos h10]; rfl)
        have N1 := Lib.hid (news_at wr #[.int .u8 92, .int .u8 110] 5)
        clear h10 HM hS
        generalize (c.toNat : Int) = x at *
        go_wp2_with (refine wpList_append_lies _ rfl (.tmp 23) (.tmp 24) 40 rfl w.heap.size 5 i0 (.int .u8 0) 1 1 Tryd.underlying40 hi0 hy0 hy1 hy2 rfl (by decide) _ pre.length (bv pre) rfl (hX.out.row.alloc _) ⟨wr.heap.size, 0, none⟩ 2 2 [.int .u8 92, .int .u8 110] rfl rfl N1.out (by simp [Value.oneCell']) (by decide) (by unfold maxLen; omega) (by omega) (by simp; omega) (wr.heap.size + 1) (by simp) ?_; intro g cap W7 hrow hgr hgl hlt7; have HX2 := Lib.hid (hX.out.app2 (x := 92) (y := 110) hrow hgr); clear hrow hgr hgl hlt7)
        go_roundw
        case rel => exact ⟨i + 1, pre ++ [92, 110], by omega, by simp; omega, by go_num, HX2, HS⟩
        case measure => simp [intOf]; omega
      · have v1 : ((c.toNat : Int) == 10) = false := by simp; omega
        by_cases h34 : c.toNat = 34
        · have v2 : ((c.toNat : Int) == 34) = true := by rw [h34]; rfl
          have HS : Hid (pre ++ [92, c] = 34 :: (T.take (i + 1)).flatMap escL) := Lib.hid (by rw [HM.out, hS.out]; unfold escL; rw [if_neg h10, if_pos (.inl h34)]; rfl)
          have N1 := Lib.hid (news_at wr #[.int .u8 92, .int .u8 (c.toNat : Int)] 5)
          clear h10 h34 HM hS
          go_wp2_with (refine wpList_append_lies _ rfl (.tmp 29) (.tmp 33) 40 rfl w.heap.size 5 i0 (.int .u8 0) 1 1 Tryd.underlying40 hi0 hy0 hy1 hy2 rfl (by decide) _ pre.length (bv pre) rfl (hX.out.row.alloc _) ⟨wr.heap.size, 0, none⟩ 2 2 [.int .u8 92, .int .u8 (c.toNat : Int)] rfl rfl N1.out (by simp [Value.oneCell']) (by decide) (by unfold maxLen; omega) (by omega) (by simp; omega) (wr.heap.size + 1) (by simp) ?_; intro g cap W7 hrow hgr hgl hlt7; have HX2 := Lib.hid (hX.out.app2 (x := 92) (y := c) hrow hgr); clear hrow hgr hgl hlt7)
          go_roundw
          case rel => exact ⟨i + 1, pre ++ [92, c], by omega, by simp; omega, by go_num, HX2, HS⟩
          case measure => simp [intOf]; omega
        · have v2 : ((c.toNat : Int) == 34) = false := by simp; omega
          by_cases h92 : c.toNat = 92
          · have v3 : ((c.toNat : Int) == 92) = true := by rw [h92]; rfl
            have HS : Hid (pre ++ [92, c] = 34 :: (T.take (i + 1)).flatMap escL) := Lib.hid (by rw [HM.out, hS.out]; unfold escL; rw [if_neg h10, if_pos (.inr h92)]; rfl)
            have N1 := Lib.hid (news_at wr #[.int .u8 92, .int .u8 (c.toNat : Int)] 5)
            clear h10 h34 h92 HM hS
            go_wp2_with (refine wpList_append_lies _ rfl (.tmp 29) (.tmp 33) 40 rfl w.heap.size 5 i0 (.int .u8 0) 1 1 Tryd.underlying40 hi0 hy0 hy1 hy2 rfl (by decide) _ pre.length (bv pre) rfl (hX.out.row.alloc _) ⟨wr.heap.size, 0, none⟩ 2 2 [.int .u8 92, .int .u8 (c.toNat : Int)] rfl rfl N1.out (by simp [Value.oneCell']) (by decide) (by unfold maxLen; omega) (by omega) (by simp; omega) (wr.heap.size + 1) (by simp) ?_; intro g cap W7 hrow hgr hgl hlt7; have HX2 := Lib.hid (hX.out.app2 (x := 92) (y := c) hrow hgr); clear hrow hgr hgl hlt7)
            go_roundw
            case rel => exact ⟨i + 1, pre ++ [92, c], by omega, by simp; omega, by go_num, HX2, HS⟩
            case measure => simp [intOf]; omega
          · have v3 : ((c.toNat : Int) == 92) = false := by simp; omega
            have HS : Hid (pre ++ [c] = 34 :: (T.take (i + 1)).flatMap escL) := Lib.hid (by rw [HM.out, hS.out, esc_plain h10 h34 h92]; rfl)
            have N1 := Lib.hid (news_at wr #[.int .u8 (c.toNat : Int)] 5)
            clear h10 h34 h92 HM hS
            go_wp2_with (refine wpList_append_lies _ rfl (.tmp 15) (.tmp 19) 40 rfl w.heap.size 5 i0 (.int .u8 0) 1 1 Tryd.underlying40 hi0 hy0 hy1 hy2 rfl (by decide) _ pre.length (bv pre) rfl (hX.out.row.alloc _) ⟨wr.heap.size, 0, none⟩ 1 1 [.int .u8 (c.toNat : Int)] rfl rfl N1.out (by simp [Value.oneCell']) (by decide) (by unfold maxLen; omega) (by omega) (by simp; omega) (wr.heap.size + 1) (by simp) ?_; intro g cap W7 hrow hgr hgl hlt7; have HX2 := Lib.hid (hX.out.app1 (x := c) hrow hgr); clear hrow hgr hgl hlt7)
            go_roundw
            case rel => exact ⟨i + 1, pre ++ [c], by omega, by simp; omega, by go_num, HX2, HS⟩
            case measure => simp [intOf]; omega
    · obtain rfl : i = T.length := by omega
      have hS' := hS.out
      rw [List.take_of_length_le (Nat.le_refl _)] at hS'
      have HS : Hid (pre ++ [34] = quoteL T) := Lib.hid (by rw [hS']; rfl)
      have N1 := Lib.hid (news_at wr #[.int .u8 34] 5)
      have hge : ¬((T.length : Int)) < (s.size : Int) := by omega
      clear hS hS' hlt hi
      go_wp2_with (refine wpList_append_lies _ rfl (.tmp 35) (.tmp 36) 40 rfl w.heap.size 5 i0 (.int .u8 0) 1 1 Tryd.underlying40 hi0 hy0 hy1 hy2 rfl (by decide) _ pre.length (bv pre) rfl (hX.out.row.alloc _) ⟨wr.heap.size, 0, none⟩ 1 1 [.int .u8 34] rfl rfl N1.out (by simp [Value.oneCell']) (by decide) (by unfold maxLen; omega) (by omega) (by simp; omega) (wr.heap.size + 1) (by simp) ?_; intro g cap W7 hrow hgr hgl hlt7; have HX2 := Lib.hid (hX.out.app1 (x := 34) hrow hgr); clear hrow hgr hgl hlt7; have g2 := run_convert_owned (P := Tryd.prog) (src := 40) (dst := 9) Tryd.underlying40 Tryd.underlying5 Tryd.underlying9 HX2.out.row)
      go_ret
      exact ⟨by rw [← HS.out]; rfl, HX2.out.below⟩

end Go.Proofs.YtcfmjnhagpmnpaaDoor.Lx
