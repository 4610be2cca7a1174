/- The walk of the document's Shape, an op each, the other half: its contract. A region that draws its order, whose first operations leave memory alone, walked step by step behind a name that is not unfolded: operations that their guard passes over go by one lemma. No condition but those that each states. -/
import Derived.Test.YtmloljfnnkfkjaaDoorMgAJ
import Derived.StillTailTactics
namespace Go.Proofs.YtmloljfnnkfkjaaDoor.In
open Go.RowKit Dk

theorem rs_19 (w : World) : Calls Tryd.prog 93 #[.int .i64 19] w fun e w' => e = .returned (.string ⟨#[114, 114, 45]⟩) ∧ Below w.heap.size w w' := by
  have NM : Hid (Calls Tryd.prog 104 #[.int .i64 19] w fun e w' => e = .returned (.string ⟨#[110, 101, 103]⟩) ∧ Below w.heap.size w w') := Lib.hid (rname_any 19 w)
  go_enter Tryd.func93, Tryd.ntmps93
  go_wp2_with (go_at_call 104; refine NM.out.mono ?_; rintro e w1 ⟨rfl, hb⟩)
  go_ret
  exact ⟨rfl, hb⟩

theorem rs_20 (w : World) : Calls Tryd.prog 93 #[.int .i64 20] w fun e w' => e = .returned (.string ⟨#[114, 114, 45]⟩) ∧ Below w.heap.size w w' := by
  have NM : Hid (Calls Tryd.prog 104 #[.int .i64 20] w fun e w' => e = .returned (.string ⟨#[110, 111, 116]⟩) ∧ Below w.heap.size w w') := Lib.hid (rname_any 20 w)
  go_enter Tryd.func93, Tryd.ntmps93
  go_wp2_with (go_at_call 104; refine NM.out.mono ?_; rintro e w1 ⟨rfl, hb⟩)
  go_ret
  exact ⟨rfl, hb⟩

theorem rs_21 (w : World) : Calls Tryd.prog 93 #[.int .i64 21] w fun e w' => e = .returned (.string ⟨#[114, 114, 45]⟩) ∧ Below w.heap.size w w' := by
  have NM : Hid (Calls Tryd.prog 104 #[.int .i64 21] w fun e w' => e = .returned (.string ⟨#[108, 101, 110]⟩) ∧ Below w.heap.size w w') := Lib.hid (rname_any 21 w)
  go_enter Tryd.func93, Tryd.ntmps93
  go_wp2_with (go_at_call 104; refine NM.out.mono ?_; rintro e w1 ⟨rfl, hb⟩)
  go_ret
  exact ⟨rfl, hb⟩

theorem rs_22 (w : World) : Calls Tryd.prog 93 #[.int .i64 22] w fun e w' => e = .returned (.string ⟨#[114, 45, 45]⟩) ∧ Below w.heap.size w w' := by
  have NM : Hid (Calls Tryd.prog 104 #[.int .i64 22] w fun e w' => e = .returned (.string ⟨#[116, 97, 98, 108, 101]⟩) ∧ Below w.heap.size w w') := Lib.hid (rname_any 22 w)
  go_enter Tryd.func93, Tryd.ntmps93
  go_wp2_with (go_at_call 104; refine NM.out.mono ?_; rintro e w1 ⟨rfl, hb⟩)
  go_ret
  exact ⟨rfl, hb⟩

theorem rs_23 (w : World) : Calls Tryd.prog 93 #[.int .i64 23] w fun e w' => e = .returned (.string ⟨#[114, 114, 114]⟩) ∧ Below w.heap.size w w' := by
  have NM : Hid (Calls Tryd.prog 104 #[.int .i64 23] w fun e w' => e = .returned (.string ⟨#[105, 110, 100, 101, 120]⟩) ∧ Below w.heap.size w w') := Lib.hid (rname_any 23 w)
  go_enter Tryd.func93, Tryd.ntmps93
  go_wp2_with (go_at_call 104; refine NM.out.mono ?_; rintro e w1 ⟨rfl, hb⟩)
  go_ret
  exact ⟨rfl, hb⟩

theorem rs_24 (w : World) : Calls Tryd.prog 93 #[.int .i64 24] w fun e w' => e = .returned (.string ⟨#[114, 114, 114]⟩) ∧ Below w.heap.size w w' := by
  have NM : Hid (Calls Tryd.prog 104 #[.int .i64 24] w fun e w' => e = .returned (.string ⟨#[115, 116, 111, 114, 101]⟩) ∧ Below w.heap.size w w') := Lib.hid (rname_any 24 w)
  go_enter Tryd.func93, Tryd.ntmps93
  go_wp2_with (go_at_call 104; refine NM.out.mono ?_; rintro e w1 ⟨rfl, hb⟩)
  go_ret
  exact ⟨rfl, hb⟩

theorem rs_25 (w : World) : Calls Tryd.prog 93 #[.int .i64 25] w fun e w' => e = .returned (.string ⟨#[45, 119]⟩) ∧ Below w.heap.size w w' := by
  have NM : Hid (Calls Tryd.prog 104 #[.int .i64 25] w fun e w' => e = .returned (.string ⟨#[106, 117, 109, 112]⟩) ∧ Below w.heap.size w w') := Lib.hid (rname_any 25 w)
  go_enter Tryd.func93, Tryd.ntmps93
  go_wp2_with (go_at_call 104; refine NM.out.mono ?_; rintro e w1 ⟨rfl, hb⟩)
  go_ret
  exact ⟨rfl, hb⟩

theorem rs_26 (w : World) : Calls Tryd.prog 93 #[.int .i64 26] w fun e w' => e = .returned (.string ⟨#[114, 119]⟩) ∧ Below w.heap.size w w' := by
  have NM : Hid (Calls Tryd.prog 104 #[.int .i64 26] w fun e w' => e = .returned (.string ⟨#[102, 97, 108, 115, 101]⟩) ∧ Below w.heap.size w w') := Lib.hid (rname_any 26 w)
  go_enter Tryd.func93, Tryd.ntmps93
  go_wp2_with (go_at_call 104; refine NM.out.mono ?_; rintro e w1 ⟨rfl, hb⟩)
  go_ret
  exact ⟨rfl, hb⟩

theorem rs_27 (w : World) : Calls Tryd.prog 93 #[.int .i64 27] w fun e w' => e = .returned (.string ⟨#[114, 119]⟩) ∧ Below w.heap.size w w' := by
  have NM : Hid (Calls Tryd.prog 104 #[.int .i64 27] w fun e w' => e = .returned (.string ⟨#[116, 114, 117, 101]⟩) ∧ Below w.heap.size w w') := Lib.hid (rname_any 27 w)
  go_enter Tryd.func93, Tryd.ntmps93
  go_wp2_with (go_at_call 104; refine NM.out.mono ?_; rintro e w1 ⟨rfl, hb⟩)
  go_ret
  exact ⟨rfl, hb⟩

theorem rs_28 (w : World) : Calls Tryd.prog 93 #[.int .i64 28] w fun e w' => e = .returned (.string ⟨#[114, 119]⟩) ∧ Below w.heap.size w w' := by
  have NM : Hid (Calls Tryd.prog 104 #[.int .i64 28] w fun e w' => e = .returned (.string ⟨#[102, 110]⟩) ∧ Below w.heap.size w w') := Lib.hid (rname_any 28 w)
  go_enter Tryd.func93, Tryd.ntmps93
  go_wp2_with (go_at_call 104; refine NM.out.mono ?_; rintro e w1 ⟨rfl, hb⟩)
  go_ret
  exact ⟨rfl, hb⟩

theorem rs_29 (w : World) : Calls Tryd.prog 93 #[.int .i64 29] w fun e w' => e = .returned (.string ⟨#[114, 114, 110]⟩) ∧ Below w.heap.size w w' := by
  have NM : Hid (Calls Tryd.prog 104 #[.int .i64 29] w fun e w' => e = .returned (.string ⟨#[99, 97, 108, 108]⟩) ∧ Below w.heap.size w w') := Lib.hid (rname_any 29 w)
  go_enter Tryd.func93, Tryd.ntmps93
  go_wp2_with (go_at_call 104; refine NM.out.mono ?_; rintro e w1 ⟨rfl, hb⟩)
  go_ret
  exact ⟨rfl, hb⟩

theorem rs_30 (w : World) : Calls Tryd.prog 93 #[.int .i64 30] w fun e w' => e = .returned (.string ⟨#[114, 114, 110]⟩) ∧ Below w.heap.size w w' := by
  have NM : Hid (Calls Tryd.prog 104 #[.int .i64 30] w fun e w' => e = .returned (.string ⟨#[111, 119, 110]⟩) ∧ Below w.heap.size w w') := Lib.hid (rname_any 30 w)
  go_enter Tryd.func93, Tryd.ntmps93
  go_wp2_with (go_at_call 104; refine NM.out.mono ?_; rintro e w1 ⟨rfl, hb⟩)
  go_ret
  exact ⟨rfl, hb⟩

theorem rs_31 (w : World) : Calls Tryd.prog 93 #[.int .i64 31] w fun e w' => e = .returned (.string ⟨#[114, 114, 110]⟩) ∧ Below w.heap.size w w' := by
  have NM : Hid (Calls Tryd.prog 104 #[.int .i64 31] w fun e w' => e = .returned (.string ⟨#[117, 115, 101]⟩) ∧ Below w.heap.size w w') := Lib.hid (rname_any 31 w)
  go_enter Tryd.func93, Tryd.ntmps93
  go_wp2_with (go_at_call 104; refine NM.out.mono ?_; rintro e w1 ⟨rfl, hb⟩)
  go_ret
  exact ⟨rfl, hb⟩

theorem rs_32 (w : World) : Calls Tryd.prog 93 #[.int .i64 32] w fun e w' => e = .returned (.string ⟨#[114, 114, 45]⟩) ∧ Below w.heap.size w w' := by
  have NM : Hid (Calls Tryd.prog 104 #[.int .i64 32] w fun e w' => e = .returned (.string ⟨#[115, 112, 97, 119, 110]⟩) ∧ Below w.heap.size w w') := Lib.hid (rname_any 32 w)
  go_enter Tryd.func93, Tryd.ntmps93
  go_wp2_with (go_at_call 104; refine NM.out.mono ?_; rintro e w1 ⟨rfl, hb⟩)
  go_ret
  exact ⟨rfl, hb⟩

theorem rs_33 (w : World) : Calls Tryd.prog 93 #[.int .i64 33] w fun e w' => e = .returned (.string ⟨#[114, 45, 45]⟩) ∧ Below w.heap.size w w' := by
  have NM : Hid (Calls Tryd.prog 104 #[.int .i64 33] w fun e w' => e = .returned (.string ⟨#[115, 116, 97, 116, 101]⟩) ∧ Below w.heap.size w w') := Lib.hid (rname_any 33 w)
  go_enter Tryd.func93, Tryd.ntmps93
  go_wp2_with (go_at_call 104; refine NM.out.mono ?_; rintro e w1 ⟨rfl, hb⟩)
  go_ret
  exact ⟨rfl, hb⟩

theorem rs_34 (w : World) : Calls Tryd.prog 93 #[.int .i64 34] w fun e w' => e = .returned (.string ⟨#[114, 45, 45]⟩) ∧ Below w.heap.size w w' := by
  have NM : Hid (Calls Tryd.prog 104 #[.int .i64 34] w fun e w' => e = .returned (.string ⟨#[112, 117, 116]⟩) ∧ Below w.heap.size w w') := Lib.hid (rname_any 34 w)
  go_enter Tryd.func93, Tryd.ntmps93
  go_wp2_with (go_at_call 104; refine NM.out.mono ?_; rintro e w1 ⟨rfl, hb⟩)
  go_ret
  exact ⟨rfl, hb⟩

theorem rs_35 (w : World) : Calls Tryd.prog 93 #[.int .i64 35] w fun e w' => e = .returned (.string ⟨#[114, 45, 45]⟩) ∧ Below w.heap.size w w' := by
  have NM : Hid (Calls Tryd.prog 104 #[.int .i64 35] w fun e w' => e = .returned (.string ⟨#[101, 109, 105, 116]⟩) ∧ Below w.heap.size w w') := Lib.hid (rname_any 35 w)
  go_enter Tryd.func93, Tryd.ntmps93
  go_wp2_with (go_at_call 104; refine NM.out.mono ?_; rintro e w1 ⟨rfl, hb⟩)
  go_ret
  exact ⟨rfl, hb⟩

theorem rs_36 (w : World) : Calls Tryd.prog 93 #[.int .i64 36] w fun e w' => e = .returned (.string ⟨#[110, 45, 45]⟩) ∧ Below w.heap.size w w' := by
  have NM : Hid (Calls Tryd.prog 104 #[.int .i64 36] w fun e w' => e = .returned (.string ⟨#[121, 105, 101, 108, 100]⟩) ∧ Below w.heap.size w w') := Lib.hid (rname_any 36 w)
  go_enter Tryd.func93, Tryd.ntmps93
  go_wp2_with (go_at_call 104; refine NM.out.mono ?_; rintro e w1 ⟨rfl, hb⟩)
  go_ret
  exact ⟨rfl, hb⟩

theorem rs_37 (w : World) : Calls Tryd.prog 93 #[.int .i64 37] w fun e w' => e = .returned (.string ⟨#[114, 45, 45]⟩) ∧ Below w.heap.size w w' := by
  have NM : Hid (Calls Tryd.prog 104 #[.int .i64 37] w fun e w' => e = .returned (.string ⟨#[114, 101, 116, 117, 114, 110]⟩) ∧ Below w.heap.size w w') := Lib.hid (rname_any 37 w)
  go_enter Tryd.func93, Tryd.ntmps93
  go_wp2_with (go_at_call 104; refine NM.out.mono ?_; rintro e w1 ⟨rfl, hb⟩)
  go_ret
  exact ⟨rfl, hb⟩

theorem rs_none (op : Int) (h : ¬(0 ≤ op ∧ op < 38)) (w : World) : Calls Tryd.prog 93 #[.int .i64 op] w fun e w' => e = .returned (.string ⟨#[]⟩) ∧ Below w.heap.size w w' := by
  have NM := Lib.hid (rname_any op w)
  rw [name_none h] at NM
  have NM2 : Hid (Calls Tryd.prog 104 #[.int .i64 op] w fun e w' => e = .returned (.string ⟨#[]⟩) ∧ Below w.heap.size w w') := Lib.hid NM.out
  clear NM h
  go_enter Tryd.func93, Tryd.ntmps93
  go_wp2_with (go_at_call 104; refine NM2.out.mono ?_; rintro e w1 ⟨rfl, hb⟩)
  go_ret
  exact ⟨rfl, hb⟩

theorem rshape_any (op : Int) (w : World) : Calls Tryd.prog 93 #[.int .i64 op] w fun e w' => e = .returned (.string (strOf (shapeL op))) ∧ Below w.heap.size w w' := by
  by_cases h : 0 ≤ op ∧ op < 38
  · obtain ⟨k, hk, rfl⟩ := op_cases h
    have hc : k = 0 ∨ k = 1 ∨ k = 2 ∨ k = 3 ∨ k = 4 ∨ k = 5 ∨ k = 6 ∨ k = 7 ∨ k = 8 ∨ k = 9 ∨ k = 10 ∨ k = 11 ∨ k = 12 ∨ k = 13 ∨ k = 14 ∨ k = 15 ∨ k = 16 ∨ k = 17 ∨ k = 18 ∨ k = 19 ∨ k = 20 ∨ k = 21 ∨ k = 22 ∨ k = 23 ∨ k = 24 ∨ k = 25 ∨ k = 26 ∨ k = 27 ∨ k = 28 ∨ k = 29 ∨ k = 30 ∨ k = 31 ∨ k = 32 ∨ k = 33 ∨ k = 34 ∨ k = 35 ∨ k = 36 ∨ k = 37 := by omega
    rcases hc with rfl | rfl | rfl | rfl | rfl | rfl | rfl | rfl | rfl | rfl | rfl | rfl | rfl | rfl | rfl | rfl | rfl | rfl | rfl | rfl | rfl | rfl | rfl | rfl | rfl | rfl | rfl | rfl | rfl | rfl | rfl | rfl | rfl | rfl | rfl | rfl | rfl | rfl
    · exact rs_0 w
    · exact rs_1 w
    · exact rs_2 w
    · exact rs_3 w
    · exact rs_4 w
    · exact rs_5 w
    · exact rs_6 w
    · exact rs_7 w
    · exact rs_8 w
    · exact rs_9 w
    · exact rs_10 w
    · exact rs_11 w
    · exact rs_12 w
    · exact rs_13 w
    · exact rs_14 w
    · exact rs_15 w
    · exact rs_16 w
    · exact rs_17 w
    · exact rs_18 w
    · exact rs_19 w
    · exact rs_20 w
    · exact rs_21 w
    · exact rs_22 w
    · exact rs_23 w
    · exact rs_24 w
    · exact rs_25 w
    · exact rs_26 w
    · exact rs_27 w
    · exact rs_28 w
    · exact rs_29 w
    · exact rs_30 w
    · exact rs_31 w
    · exact rs_32 w
    · exact rs_33 w
    · exact rs_34 w
    · exact rs_35 w
    · exact rs_36 w
    · exact rs_37 w
  · rw [shape_none h]
    exact rs_none op h w

end Go.Proofs.YtmloljfnnkfkjaaDoor.In

namespace Go.Proofs.YtmloljfnnkfkjaaDoor

section
variable {P : Program} {ops : Array Oper} {w : World} {Q : Act → Prop} {a : Act} {o : Oper} {rest : List Oper}

/-- The walk's goal, behind a name. -/
structure WS (P : Program) (ops : Array Oper) (w : World) (Q : Act → Prop) (l : List Oper) (a : Act) : Prop where
  out : wpStill P ops w Q l a

theorem ws_nil (h : Q a) : WS P ops w Q [] a := ⟨wpStill_nil h⟩

theorem ws_step (h : ∀ K : Act → Prop, (∀ a, WS P ops w Q rest a → K a) → if Region.wanted o (yielded ops a.tmps) then o.still P a w K else K (a.put o.dst undef)) : WS P ops w Q (o :: rest) a :=
  ⟨wpStill_step fun K hK => h K fun a h => hK a h.out⟩

theorem ws_skip (hw : Region.wanted o (yielded ops a.tmps) = false) (h : WS P ops w Q rest (a.put o.dst undef)) : WS P ops w Q (o :: rest) a :=
  ws_step fun K hK => by rw [if_neg (by rw [hw]; exact Bool.false_ne_true)]; exact hK _ h

end

end Go.Proofs.YtmloljfnnkfkjaaDoor

