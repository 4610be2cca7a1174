/- The walk of the document's Shape, an op each, the first half: its contract. No condition but those that each states. -/
import Derived.Test.YtmljjpdodcpohaaDoorInE
namespace Go.Proofs.YtmljjpdodcpohaaDoor.In
open Go.RowKit Dk

theorem rs_0 (w : World) : Calls Tryd.prog 15 #[.int .i64 0] w fun e w' => e = .returned (.string ⟨#[110, 45, 45]⟩) ∧ Below w.heap.size w w' := by
  have NM : Hid (Calls Tryd.prog 17 #[.int .i64 0] w fun e w' => e = .returned (.string ⟨#[116, 105, 99, 107]⟩) ∧ Below w.heap.size w w') := Lib.hid (rname_any 0 w)
  go_enter Tryd.func15, Tryd.ntmps15
  go_wp2_with (go_at_call 17; refine NM.out.mono ?_; rintro e w1 ⟨rfl, hb⟩)
  go_ret
  exact ⟨rfl, hb⟩

theorem rs_1 (w : World) : Calls Tryd.prog 15 #[.int .i64 1] w fun e w' => e = .returned (.string ⟨#[114, 45, 45]⟩) ∧ Below w.heap.size w w' := by
  have NM : Hid (Calls Tryd.prog 17 #[.int .i64 1] w fun e w' => e = .returned (.string ⟨#[110, 105, 108]⟩) ∧ Below w.heap.size w w') := Lib.hid (rname_any 1 w)
  go_enter Tryd.func15, Tryd.ntmps15
  go_wp2_with (go_at_call 17; refine NM.out.mono ?_; rintro e w1 ⟨rfl, hb⟩)
  go_ret
  exact ⟨rfl, hb⟩

theorem rs_2 (w : World) : Calls Tryd.prog 15 #[.int .i64 2] w fun e w' => e = .returned (.string ⟨#[114, 119]⟩) ∧ Below w.heap.size w w' := by
  have NM : Hid (Calls Tryd.prog 17 #[.int .i64 2] w fun e w' => e = .returned (.string ⟨#[99, 111, 110, 115, 116]⟩) ∧ Below w.heap.size w w') := Lib.hid (rname_any 2 w)
  go_enter Tryd.func15, Tryd.ntmps15
  go_wp2_with (go_at_call 17; refine NM.out.mono ?_; rintro e w1 ⟨rfl, hb⟩)
  go_ret
  exact ⟨rfl, hb⟩

theorem rs_3 (w : World) : Calls Tryd.prog 15 #[.int .i64 3] w fun e w' => e = .returned (.string ⟨#[114, 114, 45]⟩) ∧ Below w.heap.size w w' := by
  have NM : Hid (Calls Tryd.prog 17 #[.int .i64 3] w fun e w' => e = .returned (.string ⟨#[109, 111, 118, 101]⟩) ∧ Below w.heap.size w w') := Lib.hid (rname_any 3 w)
  go_enter Tryd.func15, Tryd.ntmps15
  go_wp2_with (go_at_call 17; refine NM.out.mono ?_; rintro e w1 ⟨rfl, hb⟩)
  go_ret
  exact ⟨rfl, hb⟩

theorem rs_4 (w : World) : Calls Tryd.prog 15 #[.int .i64 4] w fun e w' => e = .returned (.string ⟨#[114, 45, 45]⟩) ∧ Below w.heap.size w w' := by
  have NM : Hid (Calls Tryd.prog 17 #[.int .i64 4] w fun e w' => e = .returned (.string ⟨#[98, 111, 120]⟩) ∧ Below w.heap.size w w') := Lib.hid (rname_any 4 w)
  go_enter Tryd.func15, Tryd.ntmps15
  go_wp2_with (go_at_call 17; refine NM.out.mono ?_; rintro e w1 ⟨rfl, hb⟩)
  go_ret
  exact ⟨rfl, hb⟩

theorem rs_5 (w : World) : Calls Tryd.prog 15 #[.int .i64 5] w fun e w' => e = .returned (.string ⟨#[114, 114, 45]⟩) ∧ Below w.heap.size w w' := by
  have NM : Hid (Calls Tryd.prog 17 #[.int .i64 5] w fun e w' => e = .returned (.string ⟨#[103, 101, 116]⟩) ∧ Below w.heap.size w w') := Lib.hid (rname_any 5 w)
  go_enter Tryd.func15, Tryd.ntmps15
  go_wp2_with (go_at_call 17; refine NM.out.mono ?_; rintro e w1 ⟨rfl, hb⟩)
  go_ret
  exact ⟨rfl, hb⟩

theorem rs_6 (w : World) : Calls Tryd.prog 15 #[.int .i64 6] w fun e w' => e = .returned (.string ⟨#[114, 114, 45]⟩) ∧ Below w.heap.size w w' := by
  have NM : Hid (Calls Tryd.prog 17 #[.int .i64 6] w fun e w' => e = .returned (.string ⟨#[115, 101, 116]⟩) ∧ Below w.heap.size w w') := Lib.hid (rname_any 6 w)
  go_enter Tryd.func15, Tryd.ntmps15
  go_wp2_with (go_at_call 17; refine NM.out.mono ?_; rintro e w1 ⟨rfl, hb⟩)
  go_ret
  exact ⟨rfl, hb⟩

theorem rs_7 (w : World) : Calls Tryd.prog 15 #[.int .i64 7] w fun e w' => e = .returned (.string ⟨#[114, 117, 45]⟩) ∧ Below w.heap.size w w' := by
  have NM : Hid (Calls Tryd.prog 17 #[.int .i64 7] w fun e w' => e = .returned (.string ⟨#[117, 112]⟩) ∧ Below w.heap.size w w') := Lib.hid (rname_any 7 w)
  go_enter Tryd.func15, Tryd.ntmps15
  go_wp2_with (go_at_call 17; refine NM.out.mono ?_; rintro e w1 ⟨rfl, hb⟩)
  go_ret
  exact ⟨rfl, hb⟩

theorem rs_8 (w : World) : Calls Tryd.prog 15 #[.int .i64 8] w fun e w' => e = .returned (.string ⟨#[117, 114, 45]⟩) ∧ Below w.heap.size w w' := by
  have NM : Hid (Calls Tryd.prog 17 #[.int .i64 8] w fun e w' => e = .returned (.string ⟨#[117, 112, 115, 101, 116]⟩) ∧ Below w.heap.size w w') := Lib.hid (rname_any 8 w)
  go_enter Tryd.func15, Tryd.ntmps15
  go_wp2_with (go_at_call 17; refine NM.out.mono ?_; rintro e w1 ⟨rfl, hb⟩)
  go_ret
  exact ⟨rfl, hb⟩

theorem rs_9 (w : World) : Calls Tryd.prog 15 #[.int .i64 9] w fun e w' => e = .returned (.string ⟨#[114, 114, 114]⟩) ∧ Below w.heap.size w w' := by
  have NM : Hid (Calls Tryd.prog 17 #[.int .i64 9] w fun e w' => e = .returned (.string ⟨#[97, 100, 100]⟩) ∧ Below w.heap.size w w') := Lib.hid (rname_any 9 w)
  go_enter Tryd.func15, Tryd.ntmps15
  go_wp2_with (go_at_call 17; refine NM.out.mono ?_; rintro e w1 ⟨rfl, hb⟩)
  go_ret
  exact ⟨rfl, hb⟩

theorem rs_10 (w : World) : Calls Tryd.prog 15 #[.int .i64 10] w fun e w' => e = .returned (.string ⟨#[114, 114, 114]⟩) ∧ Below w.heap.size w w' := by
  have NM : Hid (Calls Tryd.prog 17 #[.int .i64 10] w fun e w' => e = .returned (.string ⟨#[115, 117, 98]⟩) ∧ Below w.heap.size w w') := Lib.hid (rname_any 10 w)
  go_enter Tryd.func15, Tryd.ntmps15
  go_wp2_with (go_at_call 17; refine NM.out.mono ?_; rintro e w1 ⟨rfl, hb⟩)
  go_ret
  exact ⟨rfl, hb⟩

theorem rs_11 (w : World) : Calls Tryd.prog 15 #[.int .i64 11] w fun e w' => e = .returned (.string ⟨#[114, 114, 114]⟩) ∧ Below w.heap.size w w' := by
  have NM : Hid (Calls Tryd.prog 17 #[.int .i64 11] w fun e w' => e = .returned (.string ⟨#[109, 117, 108]⟩) ∧ Below w.heap.size w w') := Lib.hid (rname_any 11 w)
  go_enter Tryd.func15, Tryd.ntmps15
  go_wp2_with (go_at_call 17; refine NM.out.mono ?_; rintro e w1 ⟨rfl, hb⟩)
  go_ret
  exact ⟨rfl, hb⟩

theorem rs_12 (w : World) : Calls Tryd.prog 15 #[.int .i64 12] w fun e w' => e = .returned (.string ⟨#[114, 114, 114]⟩) ∧ Below w.heap.size w w' := by
  have NM : Hid (Calls Tryd.prog 17 #[.int .i64 12] w fun e w' => e = .returned (.string ⟨#[100, 105, 118]⟩) ∧ Below w.heap.size w w') := Lib.hid (rname_any 12 w)
  go_enter Tryd.func15, Tryd.ntmps15
  go_wp2_with (go_at_call 17; refine NM.out.mono ?_; rintro e w1 ⟨rfl, hb⟩)
  go_ret
  exact ⟨rfl, hb⟩

theorem rs_13 (w : World) : Calls Tryd.prog 15 #[.int .i64 13] w fun e w' => e = .returned (.string ⟨#[114, 114, 114]⟩) ∧ Below w.heap.size w w' := by
  have NM : Hid (Calls Tryd.prog 17 #[.int .i64 13] w fun e w' => e = .returned (.string ⟨#[114, 101, 109]⟩) ∧ Below w.heap.size w w') := Lib.hid (rname_any 13 w)
  go_enter Tryd.func15, Tryd.ntmps15
  go_wp2_with (go_at_call 17; refine NM.out.mono ?_; rintro e w1 ⟨rfl, hb⟩)
  go_ret
  exact ⟨rfl, hb⟩

theorem rs_14 (w : World) : Calls Tryd.prog 15 #[.int .i64 14] w fun e w' => e = .returned (.string ⟨#[114, 114, 114]⟩) ∧ Below w.heap.size w w' := by
  have NM : Hid (Calls Tryd.prog 17 #[.int .i64 14] w fun e w' => e = .returned (.string ⟨#[99, 97, 116]⟩) ∧ Below w.heap.size w w') := Lib.hid (rname_any 14 w)
  go_enter Tryd.func15, Tryd.ntmps15
  go_wp2_with (go_at_call 17; refine NM.out.mono ?_; rintro e w1 ⟨rfl, hb⟩)
  go_ret
  exact ⟨rfl, hb⟩

theorem rs_15 (w : World) : Calls Tryd.prog 15 #[.int .i64 15] w fun e w' => e = .returned (.string ⟨#[114, 114, 114]⟩) ∧ Below w.heap.size w w' := by
  have NM : Hid (Calls Tryd.prog 17 #[.int .i64 15] w fun e w' => e = .returned (.string ⟨#[101, 113]⟩) ∧ Below w.heap.size w w') := Lib.hid (rname_any 15 w)
  go_enter Tryd.func15, Tryd.ntmps15
  go_wp2_with (go_at_call 17; refine NM.out.mono ?_; rintro e w1 ⟨rfl, hb⟩)
  go_ret
  exact ⟨rfl, hb⟩

theorem rs_16 (w : World) : Calls Tryd.prog 15 #[.int .i64 16] w fun e w' => e = .returned (.string ⟨#[114, 114, 114]⟩) ∧ Below w.heap.size w w' := by
  have NM : Hid (Calls Tryd.prog 17 #[.int .i64 16] w fun e w' => e = .returned (.string ⟨#[110, 101]⟩) ∧ Below w.heap.size w w') := Lib.hid (rname_any 16 w)
  go_enter Tryd.func15, Tryd.ntmps15
  go_wp2_with (go_at_call 17; refine NM.out.mono ?_; rintro e w1 ⟨rfl, hb⟩)
  go_ret
  exact ⟨rfl, hb⟩

theorem rs_17 (w : World) : Calls Tryd.prog 15 #[.int .i64 17] w fun e w' => e = .returned (.string ⟨#[114, 114, 114]⟩) ∧ Below w.heap.size w w' := by
  have NM : Hid (Calls Tryd.prog 17 #[.int .i64 17] w fun e w' => e = .returned (.string ⟨#[108, 116]⟩) ∧ Below w.heap.size w w') := Lib.hid (rname_any 17 w)
  go_enter Tryd.func15, Tryd.ntmps15
  go_wp2_with (go_at_call 17; refine NM.out.mono ?_; rintro e w1 ⟨rfl, hb⟩)
  go_ret
  exact ⟨rfl, hb⟩

theorem rs_18 (w : World) : Calls Tryd.prog 15 #[.int .i64 18] w fun e w' => e = .returned (.string ⟨#[114, 114, 114]⟩) ∧ Below w.heap.size w w' := by
  have NM : Hid (Calls Tryd.prog 17 #[.int .i64 18] w fun e w' => e = .returned (.string ⟨#[108, 101]⟩) ∧ Below w.heap.size w w') := Lib.hid (rname_any 18 w)
  go_enter Tryd.func15, Tryd.ntmps15
  go_wp2_with (go_at_call 17; refine NM.out.mono ?_; rintro e w1 ⟨rfl, hb⟩)
  go_ret
  exact ⟨rfl, hb⟩

end Go.Proofs.YtmljjpdodcpohaaDoor.In
