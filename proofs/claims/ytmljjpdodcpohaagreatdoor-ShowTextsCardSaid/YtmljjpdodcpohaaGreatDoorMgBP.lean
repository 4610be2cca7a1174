/- The walk of the document's fields, a kind; The walk of the document's fields, a kind; The walk of the document's fields, a kind; The walk of the document's fields, a kind; The walk of the document's fields, a kind. No condition but those that each states. -/
import Derived.Test.YtmljjpdodcpohaaGreatDoorMgBO
namespace Go.Proofs.YtmljjpdodcpohaaGreatDoor.Tr
open Lib (hid)
set_option maxRecDepth 100000
set_option maxHeartbeats 8000000
open Go.RowKit Dk Lx
theorem rf_3 (k d z : Int) (q s : List UInt8) (hk : k = 3 ∨ k = 4 ∨ k = 6 ∨ k = 7 ∨ k = 21) (hq : q.length ≤ 9000) (hs : s.length ≤ 9000) (w : World) :
    Calls Tryz.prog 63 #[.agg #[.int .i64 k, .int .i64 d, .string (strOf q), .int .i64 z, .string (strOf s)]] w fun e w' => e = .returned (.bool (isName q && ((([] : List UInt8) == []) && (s == []) && decide (z = 0)))) ∧ Below w.heap.size w w' := by
  have HB0 : Hid (Below w.heap.size w (w.alloc (.cells (Nd.cells ⟨k, d, q, z, s⟩).toArray 58))) := hid ((Below.refl _ _).alloc (Nat.le_refl _) _); have HX0 := hid (nb_new w ⟨k, d, q, z, s⟩ 58); have CA := hid (fun W => rname_any q W (by omega)); have CB := hid (fun W => rname_any s W (by omega)); have CC := hid (fun W => bare_any ⟨k, d, [], z, s⟩ W); obtain ⟨rb, hrb⟩ : ∃ rb, rb = ((([] : List UInt8) == []) && (s == []) && decide (z = 0)) := ⟨_, rfl⟩; have hsz := strOf_size s; have HIX := hid (n_info ⟨k, d, q, z, s⟩); have HIY := hid (n_info ⟨k, d, [], z, s⟩); have HAX := hid (n_infoA ⟨k, d, q, z, s⟩); have HLX := hid (n_all ⟨k, d, q, z, s⟩); rw [← hrb]; have HCC : Hid (∀ W, Calls Tryz.prog 102 #[.agg (Nd.cells ⟨k, d, [], z, s⟩).toArray] W fun e w' => e = .returned (.bool rb) ∧ Below W.heap.size W w') := hid (fun W => by rw [hrb]; exact CC.out W)
  clear CC; clear hrb; generalize isName q = bna at *; generalize isName s = bnb at *; obtain ⟨RV, hRV⟩ : ∃ RV, RV = (bna && rb) := ⟨_, rfl⟩; rw [← hRV]; have HRV := hid hRV; clear hRV; have m1 : (k == 1) = false := by rcases hk with rfl | rfl | rfl | rfl | rfl <;> decide
  have m2 : (k == 2) = false := by rcases hk with rfl | rfl | rfl | rfl | rfl <;> decide
  have hk' : (k == 3) = true ∨ ((k == 3) = false ∧ (k == 4) = true) ∨ ((k == 3) = false ∧ (k == 4) = false ∧ (k == 6) = true) ∨ ((k == 3) = false ∧ (k == 4) = false ∧ (k == 6) = false ∧ (k == 7) = true) ∨ ((k == 3) = false ∧ (k == 4) = false ∧ (k == 6) = false ∧ (k == 7) = false ∧ (k == 21) = true) := by rcases hk with rfl | rfl | rfl | rfl | rfl <;> decide
  clear hk; rcases hk' with m3 | ⟨m3, m4⟩ | ⟨m3, m4, m6⟩ | ⟨m3, m4, m6, m7⟩ | ⟨m3, m4, m6, m7, m21⟩
  all_goals
    go_enter Tryz.func63, Tryz.ntmps63
    go_wp2_with fail
    unfold Nd.cells at HX0 HB0; generalize World.alloc w _ = W0 at HB0 HX0 ⊢; refine (CA.out _).mono ?_; rintro e W1 ⟨rfl, hb⟩; have HX1 := hid (HX0.out.later hb); have HB1 := hid (chain2 HB0.out hb); clear hb CA; obtain ⟨c0, c1, c2, c3, c4⟩ := HX1.out.at; go_wp2_with fail
    refine (CB.out _).mono ?_; rintro e W2 ⟨rfl, hb⟩; have HX2 := hid (HX1.out.later hb); have HB2 := hid (chain2 HB1.out hb); clear hb CB c0 c1 c2 c3 c4 HX1 HX0; have HZ := hid (nb_zero W2); have HP := hid (nb_put W2 ⟨k, d, q, z, s⟩); have HBL : Hid (w.heap.size ≤ W2.heap.size) := hid HB2.out.size; have HNE : Hid (W2.heap.size ≠ w.heap.size) := hid (by have := HX2.out.lt; omega)
    go_upto_region 20 with (first
      | (refine wpList_load_mid rfl 58 (.tmp 1) rfl w.heap.size 0 rfl (Nd.cells ⟨k, d, q, z, s⟩) _ HX2.out.cells Tryz.underlying58 rfl HIX.out ?_)
      | (refine wpList_store_mid rfl 58 (.tmp 5) (.tmp 12) rfl W2.heap.size 0 (Nd.cells ⟨k, d, q, z, s⟩).toArray rfl rfl HZ.out.room HAX.out HLX.out ?_; generalize World.setCells _ _ _ _ = W3 at HP ⊢; have HX3 := hid (HX2.out.later HP.out.2); have HY3 := hid HP.out.1; have HB3 := hid (chain2 HB2.out HP.out.2); clear HP; obtain ⟨c0, c1, c2, c3, c4⟩ := HX3.out.at; obtain ⟨d0, d1, d2, d3, d4⟩ := HY3.out.at; have f2 := nb_free HY3.out 2 (by decide); have f3 := nb_free HY3.out 3 (by decide); have f4 := nb_free HY3.out 4 (by decide); have hne := HNE.out; have hne2 := Ne.symm HNE.out)
      | fail)
    generalize W2.heap.size = b1 at *
    have HY4 : Hid (NB (W3.setCell ⟨b1, 2, none⟩ (.string ⟨#[]⟩)) b1 ⟨k, d, [], z, s⟩) := hid (nb_cell HY3.out (by decide) (fun i u hu => by
      rcases i with _ | _ | _ | _ | _ | i
      all_goals first | (simp [Nd.cells] at hu ⊢; first | exact hu.symm | exact hu) | (simp [Nd.cells, strOf] at hu ⊢; exact hu.symm) | (simp [Nd.cells] at hu)))
    have HX4 := hid (nb_far (j := 2) (v := .string ⟨#[]⟩) HX3.out hne); have HB4 : Hid (Below w.heap.size w (W3.setCell ⟨b1, 2, none⟩ (.string ⟨#[]⟩))) := hid (HB3.out.setCell (by simpa using HBL.out) _); clear c0 c1 c2 c3 c4 d0 d1 d2 d3 d4 f2 f3 f4; have HY9 := hid HY4.out; have HX9 := hid HX4.out; have HB9 := hid HB4.out; clear HY4 HX4 HB4 HY3 HX3 HB3; generalize (W3.setCell ⟨b1, 2, none⟩ (.string ⟨#[]⟩)) = W9 at HY9 HX9 HB9 ⊢; obtain ⟨c0, c1, c2, c3, c4⟩ := HX9.out.at; cases bna with
    | true =>
      cases rb with
      | true =>
        have HR : Hid (RV = true) := hid (by rw [HRV.out]; simp [])
        go_wp2_with (first | (refine wpList_load_want (by rfl) 58 (.tmp 5) rfl b1 0 rfl (Nd.cells ⟨k, d, [], z, s⟩) _ HY9.out.cells Tryz.underlying58 rfl HIY.out ?_) | fail)
        refine (HCC.out _).mono ?_; rintro e W11 ⟨rfl, hb⟩; have HB11 := hid (chain2 HB9.out hb); clear hb; go_wp2; go_ret; exact ⟨by rw [HR.out]; rfl, HB11.out⟩
      | false =>
        have HR : Hid (RV = false) := hid (by rw [HRV.out]; simp [])
        go_wp2_with (first | (refine wpList_load_want (by rfl) 58 (.tmp 5) rfl b1 0 rfl (Nd.cells ⟨k, d, [], z, s⟩) _ HY9.out.cells Tryz.underlying58 rfl HIY.out ?_) | fail)
        refine (HCC.out _).mono ?_; rintro e W11 ⟨rfl, hb⟩; have HB11 := hid (chain2 HB9.out hb); clear hb; go_wp2; go_ret; exact ⟨by rw [HR.out]; rfl, HB11.out⟩
    | false =>
      have HR : Hid (RV = false) := hid (by rw [HRV.out]; simp [])
      go_wp2; go_ret; exact ⟨by rw [HR.out]; rfl, HB9.out⟩
end Go.Proofs.YtmljjpdodcpohaaGreatDoor.Tr

namespace Go.Proofs.YtmljjpdodcpohaaGreatDoor.Tr
open Lib (hid)
set_option maxRecDepth 100000
set_option maxHeartbeats 8000000
open Go.RowKit Dk Lx
theorem rf_19 (k d z : Int) (q s : List UInt8) (hk : k = 19) (hq : q.length ≤ 9000) (hs : s.length ≤ 9000) (w : World) :
    Calls Tryz.prog 63 #[.agg #[.int .i64 k, .int .i64 d, .string (strOf q), .int .i64 z, .string (strOf s)]] w fun e w' => e = .returned (.bool (decide (z ≥ 0) && ((q == []) && (s == []) && decide ((0 : Int) = 0)))) ∧ Below w.heap.size w w' := by
  have HB0 : Hid (Below w.heap.size w (w.alloc (.cells (Nd.cells ⟨k, d, q, z, s⟩).toArray 58))) := hid ((Below.refl _ _).alloc (Nat.le_refl _) _); have HX0 := hid (nb_new w ⟨k, d, q, z, s⟩ 58); have CA := hid (fun W => rname_any q W (by omega)); have CB := hid (fun W => rname_any s W (by omega)); have CC := hid (fun W => bare_any ⟨k, d, q, 0, s⟩ W); obtain ⟨rb, hrb⟩ : ∃ rb, rb = ((q == []) && (s == []) && decide ((0 : Int) = 0)) := ⟨_, rfl⟩; have hsz := strOf_size s; have HIX := hid (n_info ⟨k, d, q, z, s⟩); have HIY := hid (n_info ⟨k, d, q, 0, s⟩); have HAX := hid (n_infoA ⟨k, d, q, z, s⟩); have HLX := hid (n_all ⟨k, d, q, z, s⟩); rw [← hrb]; have HCC : Hid (∀ W, Calls Tryz.prog 102 #[.agg (Nd.cells ⟨k, d, q, 0, s⟩).toArray] W fun e w' => e = .returned (.bool rb) ∧ Below W.heap.size W w') := hid (fun W => by rw [hrb]; exact CC.out W)
  clear CC; clear hrb; generalize isName q = bna at *; generalize isName s = bnb at *; obtain ⟨RV, hRV⟩ : ∃ RV, RV = (decide (z ≥ 0) && rb) := ⟨_, rfl⟩; rw [← hRV]; have HRV := hid hRV; clear hRV; subst hk; go_enter Tryz.func63, Tryz.ntmps63
  go_wp2_with fail
  unfold Nd.cells at HX0 HB0; generalize World.alloc w _ = W0 at HB0 HX0 ⊢; refine (CA.out _).mono ?_; rintro e W1 ⟨rfl, hb⟩; have HX1 := hid (HX0.out.later hb); have HB1 := hid (chain2 HB0.out hb); clear hb CA; obtain ⟨c0, c1, c2, c3, c4⟩ := HX1.out.at; go_wp2_with fail
  refine (CB.out _).mono ?_; rintro e W2 ⟨rfl, hb⟩; have HX2 := hid (HX1.out.later hb); have HB2 := hid (chain2 HB1.out hb); clear hb CB c0 c1 c2 c3 c4 HX1 HX0; have HZ := hid (nb_zero W2); have HP := hid (nb_put W2 ⟨19, d, q, z, s⟩); have HBL : Hid (w.heap.size ≤ W2.heap.size) := hid HB2.out.size; have HNE : Hid (W2.heap.size ≠ w.heap.size) := hid (by have := HX2.out.lt; omega)
  go_upto_region 23 with (first
    | (refine wpList_load_mid rfl 58 (.tmp 1) rfl w.heap.size 0 rfl (Nd.cells ⟨19, d, q, z, s⟩) _ HX2.out.cells Tryz.underlying58 rfl HIX.out ?_)
    | (refine wpList_store_mid rfl 58 (.tmp 5) (.tmp 12) rfl W2.heap.size 0 (Nd.cells ⟨19, d, q, z, s⟩).toArray rfl rfl HZ.out.room HAX.out HLX.out ?_; generalize World.setCells _ _ _ _ = W3 at HP ⊢; have HX3 := hid (HX2.out.later HP.out.2); have HY3 := hid HP.out.1; have HB3 := hid (chain2 HB2.out HP.out.2); clear HP; obtain ⟨c0, c1, c2, c3, c4⟩ := HX3.out.at; obtain ⟨d0, d1, d2, d3, d4⟩ := HY3.out.at; have f2 := nb_free HY3.out 2 (by decide); have f3 := nb_free HY3.out 3 (by decide); have f4 := nb_free HY3.out 4 (by decide); have hne := HNE.out; have hne2 := Ne.symm HNE.out)
    | fail)
  generalize W2.heap.size = b1 at *
  have HY4 : Hid (NB (W3.setCell ⟨b1, 3, none⟩ (.int .i64 0)) b1 ⟨19, d, q, 0, s⟩) := hid (nb_cell HY3.out (by decide) (fun i u hu => by
    rcases i with _ | _ | _ | _ | _ | i
    all_goals first | (simp [Nd.cells] at hu ⊢; first | exact hu.symm | exact hu) | (simp [Nd.cells, strOf] at hu ⊢; exact hu.symm) | (simp [Nd.cells] at hu)))
  have HX4 := hid (nb_far (j := 3) (v := .int .i64 0) HX3.out hne); have HB4 : Hid (Below w.heap.size w (W3.setCell ⟨b1, 3, none⟩ (.int .i64 0))) := hid (HB3.out.setCell (by simpa using HBL.out) _); clear c0 c1 c2 c3 c4 d0 d1 d2 d3 d4 f2 f3 f4; have HY9 := hid HY4.out; have HX9 := hid HX4.out; have HB9 := hid HB4.out; clear HY4 HX4 HB4 HY3 HX3 HB3; generalize (W3.setCell ⟨b1, 3, none⟩ (.int .i64 0)) = W9 at HY9 HX9 HB9 ⊢; obtain ⟨c0, c1, c2, c3, c4⟩ := HX9.out.at; by_cases p0 : z ≥ 0
  · skip
    cases rb with
    | true =>
      have HR : Hid (RV = true) := hid (by rw [HRV.out]; simp [p0])
      go_wp2_with (first | (refine wpList_load_want (by rfl) 58 (.tmp 5) rfl b1 0 rfl (Nd.cells ⟨19, d, q, 0, s⟩) _ HY9.out.cells Tryz.underlying58 rfl HIY.out ?_) | fail)
      refine (HCC.out _).mono ?_; rintro e W11 ⟨rfl, hb⟩; have HB11 := hid (chain2 HB9.out hb); clear hb; go_wp2; go_ret; exact ⟨by rw [HR.out]; rfl, HB11.out⟩
    | false =>
      have HR : Hid (RV = false) := hid (by rw [HRV.out]; simp [p0])
      go_wp2_with (first | (refine wpList_load_want (by rfl) 58 (.tmp 5) rfl b1 0 rfl (Nd.cells ⟨19, d, q, 0, s⟩) _ HY9.out.cells Tryz.underlying58 rfl HIY.out ?_) | fail)
      refine (HCC.out _).mono ?_; rintro e W11 ⟨rfl, hb⟩; have HB11 := hid (chain2 HB9.out hb); clear hb; go_wp2; go_ret; exact ⟨by rw [HR.out]; rfl, HB11.out⟩
  · skip
    have HR : Hid (RV = false) := hid (by rw [HRV.out]; simp [p0])
    go_wp2; go_ret; exact ⟨by rw [HR.out]; rfl, HB9.out⟩
end Go.Proofs.YtmljjpdodcpohaaGreatDoor.Tr

namespace Go.Proofs.YtmljjpdodcpohaaGreatDoor.Tr
open Lib (hid)
set_option maxRecDepth 100000
set_option maxHeartbeats 8000000
open Go.RowKit Dk Lx
theorem rf_20 (k d z : Int) (q s : List UInt8) (hk : k = 20) (hq : q.length ≤ 9000) (hs : s.length ≤ 9000) (w : World) :
    Calls Tryz.prog 63 #[.agg #[.int .i64 k, .int .i64 d, .string (strOf q), .int .i64 z, .string (strOf s)]] w fun e w' => e = .returned (.bool (decide ((s.length : Int) ≤ 1024) && ((q == []) && (([] : List UInt8) == []) && decide (z = 0)))) ∧ Below w.heap.size w w' := by
  have HB0 : Hid (Below w.heap.size w (w.alloc (.cells (Nd.cells ⟨k, d, q, z, s⟩).toArray 58))) := hid ((Below.refl _ _).alloc (Nat.le_refl _) _); have HX0 := hid (nb_new w ⟨k, d, q, z, s⟩ 58); have CA := hid (fun W => rname_any q W (by omega)); have CB := hid (fun W => rname_any s W (by omega)); have CC := hid (fun W => bare_any ⟨k, d, q, z, []⟩ W); obtain ⟨rb, hrb⟩ : ∃ rb, rb = ((q == []) && (([] : List UInt8) == []) && decide (z = 0)) := ⟨_, rfl⟩; have hsz := strOf_size s; have HIX := hid (n_info ⟨k, d, q, z, s⟩); have HIY := hid (n_info ⟨k, d, q, z, []⟩); have HAX := hid (n_infoA ⟨k, d, q, z, s⟩); have HLX := hid (n_all ⟨k, d, q, z, s⟩); rw [← hrb]; have HCC : Hid (∀ W, Calls Tryz.prog 102 #[.agg (Nd.cells ⟨k, d, q, z, []⟩).toArray] W fun e w' => e = .returned (.bool rb) ∧ Below W.heap.size W w') := hid (fun W => by rw [hrb]; exact CC.out W)
  clear CC; clear hrb; generalize isName q = bna at *; generalize isName s = bnb at *; obtain ⟨RV, hRV⟩ : ∃ RV, RV = (decide ((s.length : Int) ≤ 1024) && rb) := ⟨_, rfl⟩; rw [← hRV]; have HRV := hid hRV; clear hRV; subst hk; go_enter Tryz.func63, Tryz.ntmps63
  go_wp2_with fail
  unfold Nd.cells at HX0 HB0; generalize World.alloc w _ = W0 at HB0 HX0 ⊢; refine (CA.out _).mono ?_; rintro e W1 ⟨rfl, hb⟩; have HX1 := hid (HX0.out.later hb); have HB1 := hid (chain2 HB0.out hb); clear hb CA; obtain ⟨c0, c1, c2, c3, c4⟩ := HX1.out.at; go_wp2_with fail
  refine (CB.out _).mono ?_; rintro e W2 ⟨rfl, hb⟩; have HX2 := hid (HX1.out.later hb); have HB2 := hid (chain2 HB1.out hb); clear hb CB c0 c1 c2 c3 c4 HX1 HX0; have HZ := hid (nb_zero W2); have HP := hid (nb_put W2 ⟨20, d, q, z, s⟩); have HBL : Hid (w.heap.size ≤ W2.heap.size) := hid HB2.out.size; have HNE : Hid (W2.heap.size ≠ w.heap.size) := hid (by have := HX2.out.lt; omega)
  go_upto_region 26 with (first
    | (refine wpList_load_mid rfl 58 (.tmp 1) rfl w.heap.size 0 rfl (Nd.cells ⟨20, d, q, z, s⟩) _ HX2.out.cells Tryz.underlying58 rfl HIX.out ?_)
    | (refine wpList_store_mid rfl 58 (.tmp 5) (.tmp 12) rfl W2.heap.size 0 (Nd.cells ⟨20, d, q, z, s⟩).toArray rfl rfl HZ.out.room HAX.out HLX.out ?_; generalize World.setCells _ _ _ _ = W3 at HP ⊢; have HX3 := hid (HX2.out.later HP.out.2); have HY3 := hid HP.out.1; have HB3 := hid (chain2 HB2.out HP.out.2); clear HP; obtain ⟨c0, c1, c2, c3, c4⟩ := HX3.out.at; obtain ⟨d0, d1, d2, d3, d4⟩ := HY3.out.at; have f2 := nb_free HY3.out 2 (by decide); have f3 := nb_free HY3.out 3 (by decide); have f4 := nb_free HY3.out 4 (by decide); have hne := HNE.out; have hne2 := Ne.symm HNE.out)
    | fail)
  generalize W2.heap.size = b1 at *
  have HY4 : Hid (NB (W3.setCell ⟨b1, 4, none⟩ (.string ⟨#[]⟩)) b1 ⟨20, d, q, z, []⟩) := hid (nb_cell HY3.out (by decide) (fun i u hu => by
    rcases i with _ | _ | _ | _ | _ | i
    all_goals first | (simp [Nd.cells] at hu ⊢; first | exact hu.symm | exact hu) | (simp [Nd.cells, strOf] at hu ⊢; exact hu.symm) | (simp [Nd.cells] at hu)))
  have HX4 := hid (nb_far (j := 4) (v := .string ⟨#[]⟩) HX3.out hne); have HB4 : Hid (Below w.heap.size w (W3.setCell ⟨b1, 4, none⟩ (.string ⟨#[]⟩))) := hid (HB3.out.setCell (by simpa using HBL.out) _); clear c0 c1 c2 c3 c4 d0 d1 d2 d3 d4 f2 f3 f4; have HY9 := hid HY4.out; have HX9 := hid HX4.out; have HB9 := hid HB4.out; clear HY4 HX4 HB4 HY3 HX3 HB3; generalize (W3.setCell ⟨b1, 4, none⟩ (.string ⟨#[]⟩)) = W9 at HY9 HX9 HB9 ⊢; obtain ⟨c0, c1, c2, c3, c4⟩ := HX9.out.at; by_cases p0 : (s.length : Int) ≤ 1024
  · skip
    cases rb with
    | true =>
      have HR : Hid (RV = true) := hid (by rw [HRV.out]; simp [p0])
      go_wp2_with (first | (refine wpList_load_want (by rfl) 58 (.tmp 5) rfl b1 0 rfl (Nd.cells ⟨20, d, q, z, []⟩) _ HY9.out.cells Tryz.underlying58 rfl HIY.out ?_) | fail)
      refine (HCC.out _).mono ?_; rintro e W11 ⟨rfl, hb⟩; have HB11 := hid (chain2 HB9.out hb); clear hb; go_wp2; go_ret; exact ⟨by rw [HR.out]; rfl, HB11.out⟩
    | false =>
      have HR : Hid (RV = false) := hid (by rw [HRV.out]; simp [p0])
      go_wp2_with (first | (refine wpList_load_want (by rfl) 58 (.tmp 5) rfl b1 0 rfl (Nd.cells ⟨20, d, q, z, []⟩) _ HY9.out.cells Tryz.underlying58 rfl HIY.out ?_) | fail)
      refine (HCC.out _).mono ?_; rintro e W11 ⟨rfl, hb⟩; have HB11 := hid (chain2 HB9.out hb); clear hb; go_wp2; go_ret; exact ⟨by rw [HR.out]; rfl, HB11.out⟩
  · skip
    have HR : Hid (RV = false) := hid (by rw [HRV.out]; simp [p0])
    go_wp2; go_ret; exact ⟨by rw [HR.out]; rfl, HB9.out⟩
end Go.Proofs.YtmljjpdodcpohaaGreatDoor.Tr

namespace Go.Proofs.YtmljjpdodcpohaaGreatDoor.Tr
open Lib (hid)
set_option maxRecDepth 100000
set_option maxHeartbeats 8000000
open Go.RowKit Dk Lx
theorem rf_23 (k d z : Int) (q s : List UInt8) (hk : k = 23) (hq : q.length ≤ 9000) (hs : s.length ≤ 9000) (w : World) :
    Calls Tryz.prog 63 #[.agg #[.int .i64 k, .int .i64 d, .string (strOf q), .int .i64 z, .string (strOf s)]] w fun e w' => e = .returned (.bool (isName q && isName s && ((([] : List UInt8) == []) && (([] : List UInt8) == []) && decide (z = 0)))) ∧ Below w.heap.size w w' := by
  have HB0 : Hid (Below w.heap.size w (w.alloc (.cells (Nd.cells ⟨k, d, q, z, s⟩).toArray 58))) := hid ((Below.refl _ _).alloc (Nat.le_refl _) _); have HX0 := hid (nb_new w ⟨k, d, q, z, s⟩ 58); have CA := hid (fun W => rname_any q W (by omega)); have CB := hid (fun W => rname_any s W (by omega)); have CC := hid (fun W => bare_any ⟨k, d, [], z, []⟩ W); obtain ⟨rb, hrb⟩ : ∃ rb, rb = ((([] : List UInt8) == []) && (([] : List UInt8) == []) && decide (z = 0)) := ⟨_, rfl⟩; have hsz := strOf_size s; have HIX := hid (n_info ⟨k, d, q, z, s⟩); have HIY := hid (n_info ⟨k, d, [], z, []⟩); have HAX := hid (n_infoA ⟨k, d, q, z, s⟩); have HLX := hid (n_all ⟨k, d, q, z, s⟩); rw [← hrb]; have HCC : Hid (∀ W, Calls Tryz.prog 102 #[.agg (Nd.cells ⟨k, d, [], z, []⟩).toArray] W fun e w' => e = .returned (.bool rb) ∧ Below W.heap.size W w') := hid (fun W => by rw [hrb]; exact CC.out W)
  clear CC; clear hrb; generalize isName q = bna at *; generalize isName s = bnb at *; obtain ⟨RV, hRV⟩ : ∃ RV, RV = (bna && bnb && rb) := ⟨_, rfl⟩; rw [← hRV]; have HRV := hid hRV; clear hRV; subst hk; go_enter Tryz.func63, Tryz.ntmps63
  go_wp2_with fail
  unfold Nd.cells at HX0 HB0; generalize World.alloc w _ = W0 at HB0 HX0 ⊢; refine (CA.out _).mono ?_; rintro e W1 ⟨rfl, hb⟩; have HX1 := hid (HX0.out.later hb); have HB1 := hid (chain2 HB0.out hb); clear hb CA; obtain ⟨c0, c1, c2, c3, c4⟩ := HX1.out.at; go_wp2_with fail
  refine (CB.out _).mono ?_; rintro e W2 ⟨rfl, hb⟩; have HX2 := hid (HX1.out.later hb); have HB2 := hid (chain2 HB1.out hb); clear hb CB c0 c1 c2 c3 c4 HX1 HX0; have HZ := hid (nb_zero W2); have HP := hid (nb_put W2 ⟨23, d, q, z, s⟩); have HBL : Hid (w.heap.size ≤ W2.heap.size) := hid HB2.out.size; have HNE : Hid (W2.heap.size ≠ w.heap.size) := hid (by have := HX2.out.lt; omega)
  go_upto_region 30 with (first
    | (refine wpList_load_mid rfl 58 (.tmp 1) rfl w.heap.size 0 rfl (Nd.cells ⟨23, d, q, z, s⟩) _ HX2.out.cells Tryz.underlying58 rfl HIX.out ?_)
    | (refine wpList_store_mid rfl 58 (.tmp 5) (.tmp 12) rfl W2.heap.size 0 (Nd.cells ⟨23, d, q, z, s⟩).toArray rfl rfl HZ.out.room HAX.out HLX.out ?_; generalize World.setCells _ _ _ _ = W3 at HP ⊢; have HX3 := hid (HX2.out.later HP.out.2); have HY3 := hid HP.out.1; have HB3 := hid (chain2 HB2.out HP.out.2); clear HP; obtain ⟨c0, c1, c2, c3, c4⟩ := HX3.out.at; obtain ⟨d0, d1, d2, d3, d4⟩ := HY3.out.at; have f2 := nb_free HY3.out 2 (by decide); have f3 := nb_free HY3.out 3 (by decide); have f4 := nb_free HY3.out 4 (by decide); have hne := HNE.out; have hne2 := Ne.symm HNE.out)
    | fail)
  generalize W2.heap.size = b1 at *
  have HY4 : Hid (NB (W3.setCell ⟨b1, 2, none⟩ (.string ⟨#[]⟩)) b1 ⟨23, d, [], z, s⟩) := hid (nb_cell HY3.out (by decide) (fun i u hu => by
    rcases i with _ | _ | _ | _ | _ | i
    all_goals first | (simp [Nd.cells] at hu ⊢; first | exact hu.symm | exact hu) | (simp [Nd.cells, strOf] at hu ⊢; exact hu.symm) | (simp [Nd.cells] at hu)))
  have HX4 := hid (nb_far (j := 2) (v := .string ⟨#[]⟩) HX3.out hne); have HB4 : Hid (Below w.heap.size w (W3.setCell ⟨b1, 2, none⟩ (.string ⟨#[]⟩))) := hid (HB3.out.setCell (by simpa using HBL.out) _)
  have HY5 : Hid (NB ((W3.setCell ⟨b1, 2, none⟩ (.string ⟨#[]⟩)).setCell ⟨b1, 4, none⟩ (.string ⟨#[]⟩)) b1 ⟨23, d, [], z, []⟩) := hid (nb_cell HY4.out (by decide) (fun i u hu => by
    rcases i with _ | _ | _ | _ | _ | i
    all_goals first | (simp [Nd.cells] at hu ⊢; first | exact hu.symm | exact hu) | (simp [Nd.cells, strOf] at hu ⊢; exact hu.symm) | (simp [Nd.cells] at hu)))
  have HX5 := hid (nb_far (j := 4) (v := .string ⟨#[]⟩) HX4.out hne); have HB5 : Hid (Below w.heap.size w ((W3.setCell ⟨b1, 2, none⟩ (.string ⟨#[]⟩)).setCell ⟨b1, 4, none⟩ (.string ⟨#[]⟩))) := hid (HB4.out.setCell (by simpa using HBL.out) _); clear c0 c1 c2 c3 c4 d0 d1 d2 d3 d4 f2 f3 f4; have HY9 := hid HY5.out; have HX9 := hid HX5.out; have HB9 := hid HB5.out; clear HY4 HX4 HB4 HY5 HX5 HB5 HY3 HX3 HB3; generalize ((W3.setCell ⟨b1, 2, none⟩ (.string ⟨#[]⟩)).setCell ⟨b1, 4, none⟩ (.string ⟨#[]⟩)) = W9 at HY9 HX9 HB9 ⊢; obtain ⟨c0, c1, c2, c3, c4⟩ := HX9.out.at; cases bna with
  | true =>
    cases bnb with
    | true =>
      cases rb with
      | true =>
        have HR : Hid (RV = true) := hid (by rw [HRV.out]; simp [])
        go_wp2_with (first | (refine wpList_load_want (by rfl) 58 (.tmp 5) rfl b1 0 rfl (Nd.cells ⟨23, d, [], z, []⟩) _ HY9.out.cells Tryz.underlying58 rfl HIY.out ?_) | fail)
        refine (HCC.out _).mono ?_; rintro e W11 ⟨rfl, hb⟩; have HB11 := hid (chain2 HB9.out hb); clear hb; go_wp2; go_ret; exact ⟨by rw [HR.out]; rfl, HB11.out⟩
      | false =>
        have HR : Hid (RV = false) := hid (by rw [HRV.out]; simp [])
        go_wp2_with (first | (refine wpList_load_want (by rfl) 58 (.tmp 5) rfl b1 0 rfl (Nd.cells ⟨23, d, [], z, []⟩) _ HY9.out.cells Tryz.underlying58 rfl HIY.out ?_) | fail)
        refine (HCC.out _).mono ?_; rintro e W11 ⟨rfl, hb⟩; have HB11 := hid (chain2 HB9.out hb); clear hb; go_wp2; go_ret; exact ⟨by rw [HR.out]; rfl, HB11.out⟩
    | false =>
      have HR : Hid (RV = false) := hid (by rw [HRV.out]; simp [])
      go_wp2; go_ret; exact ⟨by rw [HR.out]; rfl, HB9.out⟩
  | false =>
    have HR : Hid (RV = false) := hid (by rw [HRV.out]; simp [])
    go_wp2; go_ret; exact ⟨by rw [HR.out]; rfl, HB9.out⟩
end Go.Proofs.YtmljjpdodcpohaaGreatDoor.Tr

namespace Go.Proofs.YtmljjpdodcpohaaGreatDoor.Tr
open Lib (hid)
set_option maxRecDepth 100000
set_option maxHeartbeats 8000000
open Go.RowKit Dk Lx
theorem rf_27 (k d z : Int) (q s : List UInt8) (hk : k = 27) (hq : q.length ≤ 9000) (hs : s.length ≤ 9000) (w : World) :
    Calls Tryz.prog 63 #[.agg #[.int .i64 k, .int .i64 d, .string (strOf q), .int .i64 z, .string (strOf s)]] w fun e w' => e = .returned (.bool (isBin s && ((q == []) && (([] : List UInt8) == []) && decide (z = 0)))) ∧ Below w.heap.size w w' := by
  have HB0 : Hid (Below w.heap.size w (w.alloc (.cells (Nd.cells ⟨k, d, q, z, s⟩).toArray 58))) := hid ((Below.refl _ _).alloc (Nat.le_refl _) _); have HX0 := hid (nb_new w ⟨k, d, q, z, s⟩ 58); have CA := hid (fun W => rname_any q W (by omega)); have CB := hid (fun W => rname_any s W (by omega)); have CC := hid (fun W => bare_any ⟨k, d, q, z, []⟩ W); have CO := hid (fun W => op_any s W); obtain ⟨rb, hrb⟩ : ∃ rb, rb = ((q == []) && (([] : List UInt8) == []) && decide (z = 0)) := ⟨_, rfl⟩; have hsz := strOf_size s; have HIX := hid (n_info ⟨k, d, q, z, s⟩); have HIY := hid (n_info ⟨k, d, q, z, []⟩); have HAX := hid (n_infoA ⟨k, d, q, z, s⟩); have HLX := hid (n_all ⟨k, d, q, z, s⟩); rw [← hrb]; have HCC : Hid (∀ W, Calls Tryz.prog 102 #[.agg (Nd.cells ⟨k, d, q, z, []⟩).toArray] W fun e w' => e = .returned (.bool rb) ∧ Below W.heap.size W w') := hid (fun W => by rw [hrb]; exact CC.out W)
  clear CC; clear hrb; generalize isBin s = bo at *; generalize isName q = bna at *; generalize isName s = bnb at *; obtain ⟨RV, hRV⟩ : ∃ RV, RV = (bo && rb) := ⟨_, rfl⟩; rw [← hRV]; have HRV := hid hRV; clear hRV; subst hk; go_enter Tryz.func63, Tryz.ntmps63
  go_wp2_with fail
  unfold Nd.cells at HX0 HB0; generalize World.alloc w _ = W0 at HB0 HX0 ⊢; refine (CA.out _).mono ?_; rintro e W1 ⟨rfl, hb⟩; have HX1 := hid (HX0.out.later hb); have HB1 := hid (chain2 HB0.out hb); clear hb CA; obtain ⟨c0, c1, c2, c3, c4⟩ := HX1.out.at; go_wp2_with fail
  refine (CB.out _).mono ?_; rintro e W2 ⟨rfl, hb⟩; have HX2 := hid (HX1.out.later hb); have HB2 := hid (chain2 HB1.out hb); clear hb CB c0 c1 c2 c3 c4 HX1 HX0; have HZ := hid (nb_zero W2); have HP := hid (nb_put W2 ⟨27, d, q, z, s⟩); have HBL : Hid (w.heap.size ≤ W2.heap.size) := hid HB2.out.size; have HNE : Hid (W2.heap.size ≠ w.heap.size) := hid (by have := HX2.out.lt; omega)
  go_upto_region 33 with (first
    | (refine wpList_load_mid rfl 58 (.tmp 1) rfl w.heap.size 0 rfl (Nd.cells ⟨27, d, q, z, s⟩) _ HX2.out.cells Tryz.underlying58 rfl HIX.out ?_)
    | (refine wpList_store_mid rfl 58 (.tmp 5) (.tmp 12) rfl W2.heap.size 0 (Nd.cells ⟨27, d, q, z, s⟩).toArray rfl rfl HZ.out.room HAX.out HLX.out ?_; generalize World.setCells _ _ _ _ = W3 at HP ⊢; have HX3 := hid (HX2.out.later HP.out.2); have HY3 := hid HP.out.1; have HB3 := hid (chain2 HB2.out HP.out.2); clear HP; obtain ⟨c0, c1, c2, c3, c4⟩ := HX3.out.at; obtain ⟨d0, d1, d2, d3, d4⟩ := HY3.out.at; have f2 := nb_free HY3.out 2 (by decide); have f3 := nb_free HY3.out 3 (by decide); have f4 := nb_free HY3.out 4 (by decide); have hne := HNE.out; have hne2 := Ne.symm HNE.out)
    | fail)
  generalize W2.heap.size = b1 at *
  have HY4 : Hid (NB (W3.setCell ⟨b1, 4, none⟩ (.string ⟨#[]⟩)) b1 ⟨27, d, q, z, []⟩) := hid (nb_cell HY3.out (by decide) (fun i u hu => by
    rcases i with _ | _ | _ | _ | _ | i
    all_goals first | (simp [Nd.cells] at hu ⊢; first | exact hu.symm | exact hu) | (simp [Nd.cells, strOf] at hu ⊢; exact hu.symm) | (simp [Nd.cells] at hu)))
  have HX4 := hid (nb_far (j := 4) (v := .string ⟨#[]⟩) HX3.out hne); have HB4 : Hid (Below w.heap.size w (W3.setCell ⟨b1, 4, none⟩ (.string ⟨#[]⟩))) := hid (HB3.out.setCell (by simpa using HBL.out) _); clear c0 c1 c2 c3 c4 d0 d1 d2 d3 d4 f2 f3 f4; have HY9 := hid HY4.out; have HX9 := hid HX4.out; have HB9 := hid HB4.out; clear HY4 HX4 HB4 HY3 HX3 HB3; generalize (W3.setCell ⟨b1, 4, none⟩ (.string ⟨#[]⟩)) = W9 at HY9 HX9 HB9 ⊢; obtain ⟨c0, c1, c2, c3, c4⟩ := HX9.out.at; cases bo with
  | true =>
    cases rb with
    | true =>
      have HR : Hid (RV = true) := hid (by rw [HRV.out]; simp [])
      go_wp2_with fail
      refine (CO.out _).mono ?_; rintro e W10 ⟨rfl, hb⟩; have HY10 := hid (HY9.out.later hb); have HB10 := hid (chain2 HB9.out hb); clear hb HY9; go_wp2_with (first | (refine wpList_load_want (by rfl) 58 (.tmp 5) rfl b1 0 rfl (Nd.cells ⟨27, d, q, z, []⟩) _ HY10.out.cells Tryz.underlying58 rfl HIY.out ?_) | fail)
      refine (HCC.out _).mono ?_; rintro e W11 ⟨rfl, hb⟩; have HB11 := hid (chain2 HB10.out hb); clear hb; go_wp2; go_ret; exact ⟨by rw [HR.out]; rfl, HB11.out⟩
    | false =>
      have HR : Hid (RV = false) := hid (by rw [HRV.out]; simp [])
      go_wp2_with fail
      refine (CO.out _).mono ?_; rintro e W10 ⟨rfl, hb⟩; have HY10 := hid (HY9.out.later hb); have HB10 := hid (chain2 HB9.out hb); clear hb HY9; go_wp2_with (first | (refine wpList_load_want (by rfl) 58 (.tmp 5) rfl b1 0 rfl (Nd.cells ⟨27, d, q, z, []⟩) _ HY10.out.cells Tryz.underlying58 rfl HIY.out ?_) | fail)
      refine (HCC.out _).mono ?_; rintro e W11 ⟨rfl, hb⟩; have HB11 := hid (chain2 HB10.out hb); clear hb; go_wp2; go_ret; exact ⟨by rw [HR.out]; rfl, HB11.out⟩
  | false =>
    have HR : Hid (RV = false) := hid (by rw [HRV.out]; simp [])
    go_wp2_with fail
    refine (CO.out _).mono ?_; rintro e W10 ⟨rfl, hb⟩; have HY10 := hid (HY9.out.later hb); have HB10 := hid (chain2 HB9.out hb); clear hb HY9; go_wp2; go_ret; exact ⟨by rw [HR.out]; rfl, HB10.out⟩
end Go.Proofs.YtmljjpdodcpohaaGreatDoor.Tr

