/- The walk of chrysalislaw09.known: its contract. No condition but those that it states. -/
import Derived.Test.YtcfgngaabledpaaTrY
namespace Go.Proofs.Ytcfgngaabledpaa.Tr
open Go.RowKit Dk Lx

def knM : List Nd := [⟨1, 1, [109], 1, []⟩, ⟨3, 1, [102], 0, []⟩, ⟨5, 0, [], 0, []⟩]
def knO : List Nd := [⟨1, 1, [109], 1, []⟩, ⟨5, 0, [], 0, []⟩]
theorem knM_check : checkL knM = (0, 0) := by decide +kernel
theorem knO_check : checkL knO = (4, 0) := by decide +kernel
theorem knM_fit : Fit knM := by unfold Fit; decide +kernel
theorem knO_fit : Fit knO := by unfold Fit; decide +kernel
theorem knM_short : Short knM := by unfold Short; decide +kernel
theorem knO_short : Short knO := by unfold Short; decide +kernel
theorem knM_kids : kidsZ (kidsOf knM) 0 = [1] := by decide +kernel
theorem knM_end1 : endI (kidsOf knM) 1 = 3 := by decide +kernel
theorem knM_end3 : endI (kidsOf knM) 3 = -1 := by decide +kernel
theorem knM_dep : depI (kidsOf knM) = 3 := by decide +kernel
theorem knM_sub : (subL knM 1).length = 2 := by decide +kernel
theorem kn_ne : decide (knM = knO) = false := by decide +kernel

theorem nds_new (w : World) (ts : List Nd) (hf : Fit ts) (cs : Array Value) (t : TypeId) (n : Nat) (hn : n = ts.length) (hc : cs.toList = ncells ts) : Nds (w.alloc (.cells cs t)) (.slice (some ⟨w.heap.size, 0, none⟩) n n) ts := by
  subst hn
  refine ⟨_, _, rfl, Nat.le_refl _, hf, .inr ⟨_, _, rfl, by simp, ?_⟩⟩
  rw [← hc]
  have := range_new w cs.toList t
  rwa [Array.toArray_toList] at this

set_option maxHeartbeats 4000000 in
set_option maxRecDepth 100000 in
theorem known9 (w : World) : Calls Try.prog 10 #[] w fun e w' => e = .returned (.bool true) ∧ Below w.heap.size w w' := by
  have C1 : Hid (∀ W v, Nds W v knM → Calls Try.prog 11 #[v] W fun e w' => e = .returned (.tuple #[.int .i64 0, .int .i64 0]) ∧ Below W.heap.size W w') := Lib.hid (fun W v h => by
    have := check_any knM v W h (by decide) knM_short
    rwa [knM_check] at this)
  have C2 : Hid (∀ W v, Nds W v knO → Calls Try.prog 11 #[v] W fun e w' => e = .returned (.tuple #[.int .i64 4, .int .i64 0]) ∧ Below W.heap.size W w') := Lib.hid (fun W v h => by
    have := check_any knO v W h (by decide) knO_short
    rwa [knO_check] at this)
  have CK : Hid (∀ W v, Nds W v knM → Calls Try.prog 17 #[v, .int .i64 0] W fun e w' => ∃ u, e = .returned u ∧ IR W w' u [1]) := Lib.hid (fun W v h => by
    have := kids_any knM v 0 W h (by decide)
    unfold KidsOk at this
    rwa [knM_kids] at this)
  have E1 : Hid (∀ W v, Nds W v knM → Calls Try.prog 14 #[v, .int .i64 1] W fun e w' => e = .returned (.int .i64 3) ∧ W = w') := Lib.hid (fun W v h => by
    have := end_any knM v 1 W h (by decide)
    rwa [knM_end1] at this)
  have E3 : Hid (∀ W v, Nds W v knM → Calls Try.prog 14 #[v, .int .i64 3] W fun e w' => e = .returned (.int .i64 (-1)) ∧ W = w') := Lib.hid (fun W v h => by
    have := end_any knM v 3 W h (by decide)
    rwa [knM_end3] at this)
  have CD : Hid (∀ W v, Nds W v knM → Calls Try.prog 21 #[v] W fun e w' => e = .returned (.int .i64 3) ∧ Below W.heap.size W w') := Lib.hid (fun W v h => by
    have := depth_any knM v W h (by decide)
    rwa [knM_dep] at this)
  have X1 : Hid (∀ W, Calls Try.prog 23 #[.int .i64 18] W fun e w' => e = .returned (.bool true) ∧ w' = W) := Lib.hid (fun W => expr_any 18 W)
  have X2 : Hid (∀ W, Calls Try.prog 25 #[.int .i64 17] W fun e w' => e = .returned (.bool true) ∧ w' = W) := Lib.hid (fun W => stmt_any 17 W)
  have X3 : Hid (∀ W, Calls Try.prog 23 #[.int .i64 17] W fun e w' => e = .returned (.bool false) ∧ w' = W) := Lib.hid (fun W => expr_any 17 W)
  have CS : Hid (∀ W v, Nds W v knM → Calls Try.prog 13 #[v, .int .i64 1] W fun e w' => ∃ p c, e = .returned (.slice p 2 c) ∧ Below W.heap.size W w') := Lib.hid (fun W v h => (sub_any knM v 1 W h (by decide)).mono fun e w' ⟨u, he, hr⟩ => by
    obtain ⟨p, c, hu, -, -⟩ := own_form0 hr.row
    rw [knM_sub] at hu
    exact ⟨p, c, by rw [he, hu], hr.below⟩)
  have S1 : Hid (∀ W v, Nds W v knM → Calls Try.prog 27 #[v, v] W fun e w' => e = .returned (.bool true) ∧ Below W.heap.size W w') := Lib.hid (fun W v h => by
    have := same_any knM knM v v W h h (by decide) (by decide)
    rwa [decide_eq_true rfl] at this)
  have S2 : Hid (∀ W v u, Nds W v knM → Nds W u knO → Calls Try.prog 27 #[v, u] W fun e w' => e = .returned (.bool false) ∧ Below W.heap.size W w') := Lib.hid (fun W v u h k => by
    have := same_any knM knO v u W h k (by decide) (by decide)
    rwa [kn_ne] at this)
  go_enter Try.func10, Try.ntmps10
  go_wp2_with fail
  refine (C1.out _ _ (nds_new w knM knM_fit _ _ 3 rfl rfl)).mono ?_
  rintro e w1 ⟨rfl, hb1⟩
  have HM1 := Lib.hid ((nds_new w knM knM_fit _ _ 3 rfl rfl).later hb1)
  have HB1 := Lib.hid (((Below.refl w.heap.size w).alloc (Nat.le_refl _) _).trans (hb1.mono (by simp)))
  clear hb1
  generalize w.heap.size = b0 at HM1 ⊢
  go_wp2_with fail
  refine (C2.out _ _ (nds_new w1 knO knO_fit _ _ 2 rfl rfl)).mono ?_
  rintro e w2 ⟨rfl, hb2⟩
  have HO2 := Lib.hid ((nds_new w1 knO knO_fit _ _ 2 rfl rfl).later hb2)
  have HB12 := Lib.hid (((Below.refl w1.heap.size w1).alloc (Nat.le_refl _) _).trans (hb2.mono (by simp)))
  have HM2 := Lib.hid (HM1.out.later HB12.out)
  have HB2 := Lib.hid (HB1.out.trans (HB12.out.mono HB1.out.size))
  clear hb2 HM1 HB12 HB1
  generalize w1.heap.size = b1 at HO2 ⊢
  go_wp2_with fail
  refine (CK.out _ _ HM2.out).mono ?_
  rintro e w3 ⟨u, rfl, hr3⟩
  obtain ⟨g3, c3, rfl⟩ := own_form hr3.row (by decide)
  have HM3 := Lib.hid (HM2.out.later hr3.below)
  have HO3 := Lib.hid (HO2.out.later hr3.below)
  have HB3 := Lib.hid (HB2.out.trans (hr3.below.mono HB2.out.size))
  have c0 : w3.cell? ⟨g3, 0, none⟩ = some (.int .i64 1) := hr3.row.cellAt 0 (by decide)
  clear hr3 HM2 HO2 HB2
  go_wp2_with fail
  refine (E1.out _ _ HM3.out).mono ?_
  rintro e w4 ⟨rfl, rfl⟩
  go_wp2_with fail
  refine (E3.out _ _ HM3.out).mono ?_
  rintro e w4 ⟨rfl, rfl⟩
  go_wp2_with fail
  refine (CD.out _ _ HM3.out).mono ?_
  rintro e w4 ⟨rfl, hb4⟩
  have HM4 := Lib.hid (HM3.out.later hb4)
  have HO4 := Lib.hid (HO3.out.later hb4)
  have HB4 := Lib.hid (HB3.out.trans (hb4.mono HB3.out.size))
  clear hb4 c0 HM3 HO3 HB3
  go_wp2_with fail
  refine (X1.out _).mono ?_
  rintro e w' ⟨rfl, rfl⟩
  go_wp2_with fail
  refine (X2.out _).mono ?_
  rintro e w' ⟨rfl, rfl⟩
  go_wp2_with fail
  refine (X3.out _).mono ?_
  rintro e w' ⟨rfl, rfl⟩
  go_wp2_with fail
  refine (CS.out _ _ HM4.out).mono ?_
  rintro e w5 ⟨p5, c5, rfl, hb5⟩
  have HM5 := Lib.hid (HM4.out.later hb5)
  have HO5 := Lib.hid (HO4.out.later hb5)
  have HB5 := Lib.hid (HB4.out.trans (hb5.mono HB4.out.size))
  clear hb5 HM4 HO4 HB4
  go_wp2_with fail
  refine (S1.out _ _ HM5.out).mono ?_
  rintro e w6 ⟨rfl, hb6⟩
  have HM6 := Lib.hid (HM5.out.later hb6)
  have HO6 := Lib.hid (HO5.out.later hb6)
  have HB6 := Lib.hid (HB5.out.trans (hb6.mono HB5.out.size))
  clear hb6 HM5 HO5 HB5
  go_wp2_with fail
  refine (S2.out _ _ _ HM6.out HO6.out).mono ?_
  rintro e w7 ⟨rfl, hb7⟩
  have HB7 := Lib.hid (HB6.out.trans (hb7.mono HB6.out.size))
  clear hb7 HM6 HO6 HB6
  go_wp2
  go_ret
  exact ⟨rfl, HB7.out⟩

end Go.Proofs.Ytcfgngaabledpaa.Tr
