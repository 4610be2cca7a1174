/- The walk of the document's fields, a kind: its contract. The walk of the document's fields, a kind: its contract. The walk of the document's fields, a kind: its contract. The walk of the document's fields, a kind: its contract. No condition but those that each states. -/
import Derived.Test.YtemlceicmpcboaaGreatDoorMgV
namespace Go.Proofs.YtemlceicmpcboaaGreatDoor.Tr
open Go.RowKit Dk Lx

set_option maxHeartbeats 8000000 in
set_option maxRecDepth 100000 in
theorem rf_0 (k d z : Int) (q s : List UInt8) (hk : k ≠ 1 ∧ k ≠ 2 ∧ k ≠ 3 ∧ k ≠ 4 ∧ k ≠ 6 ∧ k ≠ 7 ∧ k ≠ 21 ∧ k ≠ 19 ∧ k ≠ 20 ∧ k ≠ 23 ∧ k ≠ 27 ∧ k ≠ 28) (hq : q.length ≤ 9000) (hs : s.length ≤ 9000) (w : World) :
    Calls Tryz.prog 82 #[.agg #[.int .i64 k, .int .i64 d, .string (strOf q), .int .i64 z, .string (strOf s)]] w fun e w' => e = .returned (.bool (decide (k ≥ 1) && decide (k ≤ 30) && ((q == []) && (s == []) && decide (z = 0)))) ∧ Below w.heap.size w w' := by
  have HB0 : Hid (Below w.heap.size w (w.alloc (.cells (Nd.cells ⟨k, d, q, z, s⟩).toArray 29))) := Lib.hid ((Below.refl _ _).alloc (Nat.le_refl _) _)
  have HX0 := Lib.hid (nb_new w ⟨k, d, q, z, s⟩ 29)
  have CA := Lib.hid (fun W => rname_any q W (by omega))
  have CB := Lib.hid (fun W => rname_any s W (by omega))
  have CC := Lib.hid (fun W => bare_any ⟨k, d, q, z, s⟩ W)
  obtain ⟨rb, hrb⟩ : ∃ rb, rb = ((q == []) && (s == []) && decide (z = 0)) := ⟨_, rfl⟩
  have hsz := strOf_size s
  have HIX := Lib.hid (n_info ⟨k, d, q, z, s⟩)
  have HIY := Lib.hid (n_info ⟨k, d, q, z, s⟩)
  have HAX := Lib.hid (n_infoA ⟨k, d, q, z, s⟩)
  have HLX := Lib.hid (n_all ⟨k, d, q, z, s⟩)
  rw [← hrb]
  have HCC : Hid (∀ W, Calls Tryz.prog 138 #[.agg (Nd.cells ⟨k, d, q, z, s⟩).toArray] W fun e w' => e = .returned (.bool rb) ∧ Below W.heap.size W w') := Lib.hid (fun W => by rw [hrb]; exact CC.out W)
  clear CC
  clear hrb
  generalize isName q = bna at *
  generalize isName s = bnb at *
  obtain ⟨RV, hRV⟩ : ∃ RV, RV = (decide (k ≥ 1) && decide (k ≤ 30) && rb) := ⟨_, rfl⟩
  rw [← hRV]
  have HRV := Lib.hid hRV
  clear hRV
  obtain ⟨n1, n2, n3, n4, n6, n7, n21, n19, n20, n23, n27, n28⟩ := hk
  have m1 : (k == 1) = false := beq_false_of_ne n1
  have m2 : (k == 2) = false := beq_false_of_ne n2
  have m3 : (k == 3) = false := beq_false_of_ne n3
  have m4 : (k == 4) = false := beq_false_of_ne n4
  have m6 : (k == 6) = false := beq_false_of_ne n6
  have m7 : (k == 7) = false := beq_false_of_ne n7
  have m21 : (k == 21) = false := beq_false_of_ne n21
  have m19 : (k == 19) = false := beq_false_of_ne n19
  have m20 : (k == 20) = false := beq_false_of_ne n20
  have m23 : (k == 23) = false := beq_false_of_ne n23
  have m27 : (k == 27) = false := beq_false_of_ne n27
  have m28 : (k == 28) = false := beq_false_of_ne n28
  clear n1 n2 n3 n4 n6 n7 n21 n19 n20 n23 n27 n28
  go_enter Tryz.func82, Tryz.ntmps82
  go_wp2_with fail
  unfold Nd.cells at HX0 HB0
  generalize World.alloc w _ = W0 at HB0 HX0 ⊢
  refine (CA.out _).mono ?_
  rintro e W1 ⟨rfl, hb⟩
  have HX1 := Lib.hid (HX0.out.later hb)
  have HB1 := Lib.hid (chain2 HB0.out hb)
  clear hb CA
  obtain ⟨c0, c1, c2, c3, c4⟩ := HX1.out.at
  go_wp2_with fail
  refine (CB.out _).mono ?_
  rintro e W2 ⟨rfl, hb⟩
  have HX2 := Lib.hid (HX1.out.later hb)
  have HB2 := Lib.hid (chain2 HB1.out hb)
  clear hb CB c0 c1 c2 c3 c4 HX1 HX0
  have HZ := Lib.hid (nb_zero W2)
  have HP := Lib.hid (nb_put W2 ⟨k, d, q, z, s⟩)
  have HBL : Hid (w.heap.size ≤ W2.heap.size) := Lib.hid HB2.out.size
  have HNE : Hid (W2.heap.size ≠ w.heap.size) := Lib.hid (by have := HX2.out.lt; omega)
  go_upto_region 37 with (first
    | (refine wpList_load_mid rfl 29 (.tmp 1) rfl w.heap.size 0 rfl (Nd.cells ⟨k, d, q, z, s⟩) _ HX2.out.cells Tryz.underlying29 rfl HIX.out ?_)
    | (refine wpList_store_mid rfl 29 (.tmp 5) (.tmp 12) rfl W2.heap.size 0 (Nd.cells ⟨k, d, q, z, s⟩).toArray rfl rfl HZ.out.room HAX.out HLX.out ?_; generalize World.setCells _ _ _ _ = W3 at HP ⊢; have HX3 := Lib.hid (HX2.out.later HP.out.2); have HY3 := Lib.hid HP.out.1; have HB3 := Lib.hid (chain2 HB2.out HP.out.2); clear HP; obtain ⟨c0, c1, c2, c3, c4⟩ := HX3.out.at; obtain ⟨d0, d1, d2, d3, d4⟩ := HY3.out.at; have f2 := nb_free HY3.out 2 (by decide); have f3 := nb_free HY3.out 3 (by decide); have f4 := nb_free HY3.out 4 (by decide); have hne := HNE.out; have hne2 := Ne.symm HNE.out)
    | fail)
  generalize W2.heap.size = b1 at *
  have HY9 := Lib.hid HX3.out
  have HB9 := Lib.hid HB3.out
  have HX9 := Lib.hid HX3.out
  clear d0 d1 d2 d3 d4 f2 f3 f4 HY3 HX3 HB3
  by_cases p0 : k ≥ 1
  · skip
    by_cases p1 : k ≤ 30
    · skip
      cases rb with
      | true =>
        have HR : Hid (RV = true) := Lib.hid (by rw [HRV.out]; simp [p0, p1])
        go_wp2_with (first | (refine wpList_load_want (by rfl) 29 (.tmp 1) rfl w.heap.size 0 rfl (Nd.cells ⟨k, d, q, z, s⟩) _ HY9.out.cells Tryz.underlying29 rfl HIY.out ?_) | fail)
        refine (HCC.out _).mono ?_
        rintro e W11 ⟨rfl, hb⟩
        have HB11 := Lib.hid (chain2 HB9.out hb)
        clear hb
        go_wp2
        go_ret
        exact ⟨by rw [HR.out]; rfl, HB11.out⟩
      | false =>
        have HR : Hid (RV = false) := Lib.hid (by rw [HRV.out]; simp [p0, p1])
        go_wp2_with (first | (refine wpList_load_want (by rfl) 29 (.tmp 1) rfl w.heap.size 0 rfl (Nd.cells ⟨k, d, q, z, s⟩) _ HY9.out.cells Tryz.underlying29 rfl HIY.out ?_) | fail)
        refine (HCC.out _).mono ?_
        rintro e W11 ⟨rfl, hb⟩
        have HB11 := Lib.hid (chain2 HB9.out hb)
        clear hb
        go_wp2
        go_ret
        exact ⟨by rw [HR.out]; rfl, HB11.out⟩
    · skip
      have HR : Hid (RV = false) := Lib.hid (by rw [HRV.out]; simp [p0, p1])
      go_wp2
      go_ret
      exact ⟨by rw [HR.out]; rfl, HB9.out⟩
  · skip
    have HR : Hid (RV = false) := Lib.hid (by rw [HRV.out]; simp [p0])
    go_wp2
    go_ret
    exact ⟨by rw [HR.out]; rfl, HB9.out⟩

end Go.Proofs.YtemlceicmpcboaaGreatDoor.Tr
namespace Go.Proofs.YtemlceicmpcboaaGreatDoor.Tr
open Go.RowKit Dk Lx

set_option maxHeartbeats 8000000 in
set_option maxRecDepth 100000 in
theorem rf_1 (k d z : Int) (q s : List UInt8) (hk : k = 1) (hq : q.length ≤ 9000) (hs : s.length ≤ 9000) (w : World) :
    Calls Tryz.prog 82 #[.agg #[.int .i64 k, .int .i64 d, .string (strOf q), .int .i64 z, .string (strOf s)]] w fun e w' => e = .returned (.bool (isName q && decide (z ≥ 1) && decide (z ≤ 2147483647) && ((([] : List UInt8) == []) && (s == []) && decide ((0 : Int) = 0)))) ∧ Below w.heap.size w w' := by
  have HB0 : Hid (Below w.heap.size w (w.alloc (.cells (Nd.cells ⟨k, d, q, z, s⟩).toArray 29))) := Lib.hid ((Below.refl _ _).alloc (Nat.le_refl _) _)
  have HX0 := Lib.hid (nb_new w ⟨k, d, q, z, s⟩ 29)
  have CA := Lib.hid (fun W => rname_any q W (by omega))
  have CB := Lib.hid (fun W => rname_any s W (by omega))
  have CC := Lib.hid (fun W => bare_any ⟨k, d, [], 0, s⟩ W)
  obtain ⟨rb, hrb⟩ : ∃ rb, rb = ((([] : List UInt8) == []) && (s == []) && decide ((0 : Int) = 0)) := ⟨_, rfl⟩
  have hsz := strOf_size s
  have HIX := Lib.hid (n_info ⟨k, d, q, z, s⟩)
  have HIY := Lib.hid (n_info ⟨k, d, [], 0, s⟩)
  have HAX := Lib.hid (n_infoA ⟨k, d, q, z, s⟩)
  have HLX := Lib.hid (n_all ⟨k, d, q, z, s⟩)
  rw [← hrb]
  have HCC : Hid (∀ W, Calls Tryz.prog 138 #[.agg (Nd.cells ⟨k, d, [], 0, s⟩).toArray] W fun e w' => e = .returned (.bool rb) ∧ Below W.heap.size W w') := Lib.hid (fun W => by rw [hrb]; exact CC.out W)
  clear CC
  clear hrb
  generalize isName q = bna at *
  generalize isName s = bnb at *
  obtain ⟨RV, hRV⟩ : ∃ RV, RV = (bna && decide (z ≥ 1) && decide (z ≤ 2147483647) && rb) := ⟨_, rfl⟩
  rw [← hRV]
  have HRV := Lib.hid hRV
  clear hRV
  subst hk
  go_enter Tryz.func82, Tryz.ntmps82
  go_wp2_with fail
  unfold Nd.cells at HX0 HB0
  generalize World.alloc w _ = W0 at HB0 HX0 ⊢
  refine (CA.out _).mono ?_
  rintro e W1 ⟨rfl, hb⟩
  have HX1 := Lib.hid (HX0.out.later hb)
  have HB1 := Lib.hid (chain2 HB0.out hb)
  clear hb CA
  obtain ⟨c0, c1, c2, c3, c4⟩ := HX1.out.at
  go_wp2_with fail
  refine (CB.out _).mono ?_
  rintro e W2 ⟨rfl, hb⟩
  have HX2 := Lib.hid (HX1.out.later hb)
  have HB2 := Lib.hid (chain2 HB1.out hb)
  clear hb CB c0 c1 c2 c3 c4 HX1 HX0
  have HZ := Lib.hid (nb_zero W2)
  have HP := Lib.hid (nb_put W2 ⟨1, d, q, z, s⟩)
  have HBL : Hid (w.heap.size ≤ W2.heap.size) := Lib.hid HB2.out.size
  have HNE : Hid (W2.heap.size ≠ w.heap.size) := Lib.hid (by have := HX2.out.lt; omega)
  go_upto_region 8 with (first
    | (refine wpList_load_mid rfl 29 (.tmp 1) rfl w.heap.size 0 rfl (Nd.cells ⟨1, d, q, z, s⟩) _ HX2.out.cells Tryz.underlying29 rfl HIX.out ?_)
    | (refine wpList_store_mid rfl 29 (.tmp 5) (.tmp 12) rfl W2.heap.size 0 (Nd.cells ⟨1, d, q, z, s⟩).toArray rfl rfl HZ.out.room HAX.out HLX.out ?_; generalize World.setCells _ _ _ _ = W3 at HP ⊢; have HX3 := Lib.hid (HX2.out.later HP.out.2); have HY3 := Lib.hid HP.out.1; have HB3 := Lib.hid (chain2 HB2.out HP.out.2); clear HP; obtain ⟨c0, c1, c2, c3, c4⟩ := HX3.out.at; obtain ⟨d0, d1, d2, d3, d4⟩ := HY3.out.at; have f2 := nb_free HY3.out 2 (by decide); have f3 := nb_free HY3.out 3 (by decide); have f4 := nb_free HY3.out 4 (by decide); have hne := HNE.out; have hne2 := Ne.symm HNE.out)
    | fail)
  generalize W2.heap.size = b1 at *
  have HY4 : Hid (NB (W3.setCell ⟨b1, 2, none⟩ (.string ⟨#[]⟩)) b1 ⟨1, d, [], z, s⟩) := Lib.hid (nb_cell HY3.out (by decide) (fun i u hu => by
    rcases i with _ | _ | _ | _ | _ | i
    all_goals first | (simp [Nd.cells] at hu ⊢; first | exact hu.symm | exact hu) | (simp [Nd.cells, strOf] at hu ⊢; exact hu.symm) | (simp [Nd.cells] at hu)))
  have HX4 := Lib.hid (nb_far (j := 2) (v := .string ⟨#[]⟩) HX3.out hne)
  have HB4 : Hid (Below w.heap.size w (W3.setCell ⟨b1, 2, none⟩ (.string ⟨#[]⟩))) := Lib.hid (HB3.out.setCell (by simpa using HBL.out) _)
  have HY5 : Hid (NB ((W3.setCell ⟨b1, 2, none⟩ (.string ⟨#[]⟩)).setCell ⟨b1, 3, none⟩ (.int .i64 0)) b1 ⟨1, d, [], 0, s⟩) := Lib.hid (nb_cell HY4.out (by decide) (fun i u hu => by
    rcases i with _ | _ | _ | _ | _ | i
    all_goals first | (simp [Nd.cells] at hu ⊢; first | exact hu.symm | exact hu) | (simp [Nd.cells, strOf] at hu ⊢; exact hu.symm) | (simp [Nd.cells] at hu)))
  have HX5 := Lib.hid (nb_far (j := 3) (v := .int .i64 0) HX4.out hne)
  have HB5 : Hid (Below w.heap.size w ((W3.setCell ⟨b1, 2, none⟩ (.string ⟨#[]⟩)).setCell ⟨b1, 3, none⟩ (.int .i64 0))) := Lib.hid (HB4.out.setCell (by simpa using HBL.out) _)
  clear c0 c1 c2 c3 c4 d0 d1 d2 d3 d4 f2 f3 f4
  have HY9 := Lib.hid HY5.out
  have HX9 := Lib.hid HX5.out
  have HB9 := Lib.hid HB5.out
  clear HY4 HX4 HB4 HY5 HX5 HB5 HY3 HX3 HB3
  generalize ((W3.setCell ⟨b1, 2, none⟩ (.string ⟨#[]⟩)).setCell ⟨b1, 3, none⟩ (.int .i64 0)) = W9 at HY9 HX9 HB9 ⊢
  obtain ⟨c0, c1, c2, c3, c4⟩ := HX9.out.at
  cases bna with
  | true =>
    by_cases p1 : z ≥ 1
    · skip
      by_cases p2 : z ≤ 2147483647
      · skip
        cases rb with
        | true =>
          have HR : Hid (RV = true) := Lib.hid (by rw [HRV.out]; simp [p1, p2])
          go_wp2_with (first | (refine wpList_load_want (by rfl) 29 (.tmp 5) rfl b1 0 rfl (Nd.cells ⟨1, d, [], 0, s⟩) _ HY9.out.cells Tryz.underlying29 rfl HIY.out ?_) | fail)
          refine (HCC.out _).mono ?_
          rintro e W11 ⟨rfl, hb⟩
          have HB11 := Lib.hid (chain2 HB9.out hb)
          clear hb
          go_wp2
          go_ret
          exact ⟨by rw [HR.out]; rfl, HB11.out⟩
        | false =>
          have HR : Hid (RV = false) := Lib.hid (by rw [HRV.out]; simp [p1, p2])
          go_wp2_with (first | (refine wpList_load_want (by rfl) 29 (.tmp 5) rfl b1 0 rfl (Nd.cells ⟨1, d, [], 0, s⟩) _ HY9.out.cells Tryz.underlying29 rfl HIY.out ?_) | fail)
          refine (HCC.out _).mono ?_
          rintro e W11 ⟨rfl, hb⟩
          have HB11 := Lib.hid (chain2 HB9.out hb)
          clear hb
          go_wp2
          go_ret
          exact ⟨by rw [HR.out]; rfl, HB11.out⟩
      · skip
        have HR : Hid (RV = false) := Lib.hid (by rw [HRV.out]; simp [p1, p2])
        go_wp2
        go_ret
        exact ⟨by rw [HR.out]; rfl, HB9.out⟩
    · skip
      have HR : Hid (RV = false) := Lib.hid (by rw [HRV.out]; simp [p1])
      go_wp2
      go_ret
      exact ⟨by rw [HR.out]; rfl, HB9.out⟩
  | false =>
    have HR : Hid (RV = false) := Lib.hid (by rw [HRV.out]; simp [])
    go_wp2
    go_ret
    exact ⟨by rw [HR.out]; rfl, HB9.out⟩

end Go.Proofs.YtemlceicmpcboaaGreatDoor.Tr
namespace Go.Proofs.YtemlceicmpcboaaGreatDoor.Tr
open Go.RowKit Dk Lx

set_option maxHeartbeats 8000000 in
set_option maxRecDepth 100000 in
theorem rf_2 (k d z : Int) (q s : List UInt8) (hk : k = 2) (hq : q.length ≤ 9000) (hs : s.length ≤ 9000) (w : World) :
    Calls Tryz.prog 82 #[.agg #[.int .i64 k, .int .i64 d, .string (strOf q), .int .i64 z, .string (strOf s)]] w fun e w' => e = .returned (.bool (isName q && isName s && decide (z ≥ 0) && decide (z ≤ 8) && ((([] : List UInt8) == []) && (([] : List UInt8) == []) && decide ((0 : Int) = 0)))) ∧ Below w.heap.size w w' := by
  have HB0 : Hid (Below w.heap.size w (w.alloc (.cells (Nd.cells ⟨k, d, q, z, s⟩).toArray 29))) := Lib.hid ((Below.refl _ _).alloc (Nat.le_refl _) _)
  have HX0 := Lib.hid (nb_new w ⟨k, d, q, z, s⟩ 29)
  have CA := Lib.hid (fun W => rname_any q W (by omega))
  have CB := Lib.hid (fun W => rname_any s W (by omega))
  have CC := Lib.hid (fun W => bare_any ⟨k, d, [], 0, []⟩ W)
  obtain ⟨rb, hrb⟩ : ∃ rb, rb = ((([] : List UInt8) == []) && (([] : List UInt8) == []) && decide ((0 : Int) = 0)) := ⟨_, rfl⟩
  have hsz := strOf_size s
  have HIX := Lib.hid (n_info ⟨k, d, q, z, s⟩)
  have HIY := Lib.hid (n_info ⟨k, d, [], 0, []⟩)
  have HAX := Lib.hid (n_infoA ⟨k, d, q, z, s⟩)
  have HLX := Lib.hid (n_all ⟨k, d, q, z, s⟩)
  rw [← hrb]
  have HCC : Hid (∀ W, Calls Tryz.prog 138 #[.agg (Nd.cells ⟨k, d, [], 0, []⟩).toArray] W fun e w' => e = .returned (.bool rb) ∧ Below W.heap.size W w') := Lib.hid (fun W => by rw [hrb]; exact CC.out W)
  clear CC
  clear hrb
  generalize isName q = bna at *
  generalize isName s = bnb at *
  obtain ⟨RV, hRV⟩ : ∃ RV, RV = (bna && bnb && decide (z ≥ 0) && decide (z ≤ 8) && rb) := ⟨_, rfl⟩
  rw [← hRV]
  have HRV := Lib.hid hRV
  clear hRV
  subst hk
  go_enter Tryz.func82, Tryz.ntmps82
  go_wp2_with fail
  unfold Nd.cells at HX0 HB0
  generalize World.alloc w _ = W0 at HB0 HX0 ⊢
  refine (CA.out _).mono ?_
  rintro e W1 ⟨rfl, hb⟩
  have HX1 := Lib.hid (HX0.out.later hb)
  have HB1 := Lib.hid (chain2 HB0.out hb)
  clear hb CA
  obtain ⟨c0, c1, c2, c3, c4⟩ := HX1.out.at
  go_wp2_with fail
  refine (CB.out _).mono ?_
  rintro e W2 ⟨rfl, hb⟩
  have HX2 := Lib.hid (HX1.out.later hb)
  have HB2 := Lib.hid (chain2 HB1.out hb)
  clear hb CB c0 c1 c2 c3 c4 HX1 HX0
  have HZ := Lib.hid (nb_zero W2)
  have HP := Lib.hid (nb_put W2 ⟨2, d, q, z, s⟩)
  have HBL : Hid (w.heap.size ≤ W2.heap.size) := Lib.hid HB2.out.size
  have HNE : Hid (W2.heap.size ≠ w.heap.size) := Lib.hid (by have := HX2.out.lt; omega)
  go_upto_region 13 with (first
    | (refine wpList_load_mid rfl 29 (.tmp 1) rfl w.heap.size 0 rfl (Nd.cells ⟨2, d, q, z, s⟩) _ HX2.out.cells Tryz.underlying29 rfl HIX.out ?_)
    | (refine wpList_store_mid rfl 29 (.tmp 5) (.tmp 12) rfl W2.heap.size 0 (Nd.cells ⟨2, d, q, z, s⟩).toArray rfl rfl HZ.out.room HAX.out HLX.out ?_; generalize World.setCells _ _ _ _ = W3 at HP ⊢; have HX3 := Lib.hid (HX2.out.later HP.out.2); have HY3 := Lib.hid HP.out.1; have HB3 := Lib.hid (chain2 HB2.out HP.out.2); clear HP; obtain ⟨c0, c1, c2, c3, c4⟩ := HX3.out.at; obtain ⟨d0, d1, d2, d3, d4⟩ := HY3.out.at; have f2 := nb_free HY3.out 2 (by decide); have f3 := nb_free HY3.out 3 (by decide); have f4 := nb_free HY3.out 4 (by decide); have hne := HNE.out; have hne2 := Ne.symm HNE.out)
    | fail)
  generalize W2.heap.size = b1 at *
  have HY4 : Hid (NB (W3.setCell ⟨b1, 2, none⟩ (.string ⟨#[]⟩)) b1 ⟨2, d, [], z, s⟩) := Lib.hid (nb_cell HY3.out (by decide) (fun i u hu => by
    rcases i with _ | _ | _ | _ | _ | i
    all_goals first | (simp [Nd.cells] at hu ⊢; first | exact hu.symm | exact hu) | (simp [Nd.cells, strOf] at hu ⊢; exact hu.symm) | (simp [Nd.cells] at hu)))
  have HX4 := Lib.hid (nb_far (j := 2) (v := .string ⟨#[]⟩) HX3.out hne)
  have HB4 : Hid (Below w.heap.size w (W3.setCell ⟨b1, 2, none⟩ (.string ⟨#[]⟩))) := Lib.hid (HB3.out.setCell (by simpa using HBL.out) _)
  have HY5 : Hid (NB ((W3.setCell ⟨b1, 2, none⟩ (.string ⟨#[]⟩)).setCell ⟨b1, 4, none⟩ (.string ⟨#[]⟩)) b1 ⟨2, d, [], z, []⟩) := Lib.hid (nb_cell HY4.out (by decide) (fun i u hu => by
    rcases i with _ | _ | _ | _ | _ | i
    all_goals first | (simp [Nd.cells] at hu ⊢; first | exact hu.symm | exact hu) | (simp [Nd.cells, strOf] at hu ⊢; exact hu.symm) | (simp [Nd.cells] at hu)))
  have HX5 := Lib.hid (nb_far (j := 4) (v := .string ⟨#[]⟩) HX4.out hne)
  have HB5 : Hid (Below w.heap.size w ((W3.setCell ⟨b1, 2, none⟩ (.string ⟨#[]⟩)).setCell ⟨b1, 4, none⟩ (.string ⟨#[]⟩))) := Lib.hid (HB4.out.setCell (by simpa using HBL.out) _)
  have HY6 : Hid (NB (((W3.setCell ⟨b1, 2, none⟩ (.string ⟨#[]⟩)).setCell ⟨b1, 4, none⟩ (.string ⟨#[]⟩)).setCell ⟨b1, 3, none⟩ (.int .i64 0)) b1 ⟨2, d, [], 0, []⟩) := Lib.hid (nb_cell HY5.out (by decide) (fun i u hu => by
    rcases i with _ | _ | _ | _ | _ | i
    all_goals first | (simp [Nd.cells] at hu ⊢; first | exact hu.symm | exact hu) | (simp [Nd.cells, strOf] at hu ⊢; exact hu.symm) | (simp [Nd.cells] at hu)))
  have HX6 := Lib.hid (nb_far (j := 3) (v := .int .i64 0) HX5.out hne)
  have HB6 : Hid (Below w.heap.size w (((W3.setCell ⟨b1, 2, none⟩ (.string ⟨#[]⟩)).setCell ⟨b1, 4, none⟩ (.string ⟨#[]⟩)).setCell ⟨b1, 3, none⟩ (.int .i64 0))) := Lib.hid (HB5.out.setCell (by simpa using HBL.out) _)
  clear c0 c1 c2 c3 c4 d0 d1 d2 d3 d4 f2 f3 f4
  have HY9 := Lib.hid HY6.out
  have HX9 := Lib.hid HX6.out
  have HB9 := Lib.hid HB6.out
  clear HY4 HX4 HB4 HY5 HX5 HB5 HY6 HX6 HB6 HY3 HX3 HB3
  generalize (((W3.setCell ⟨b1, 2, none⟩ (.string ⟨#[]⟩)).setCell ⟨b1, 4, none⟩ (.string ⟨#[]⟩)).setCell ⟨b1, 3, none⟩ (.int .i64 0)) = W9 at HY9 HX9 HB9 ⊢
  obtain ⟨c0, c1, c2, c3, c4⟩ := HX9.out.at
  cases bna with
  | true =>
    cases bnb with
    | true =>
      by_cases p2 : z ≥ 0
      · skip
        by_cases p3 : z ≤ 8
        · skip
          cases rb with
          | true =>
            have HR : Hid (RV = true) := Lib.hid (by rw [HRV.out]; simp [p2, p3])
            go_wp2_with (first | (refine wpList_load_want (by rfl) 29 (.tmp 5) rfl b1 0 rfl (Nd.cells ⟨2, d, [], 0, []⟩) _ HY9.out.cells Tryz.underlying29 rfl HIY.out ?_) | fail)
            refine (HCC.out _).mono ?_
            rintro e W11 ⟨rfl, hb⟩
            have HB11 := Lib.hid (chain2 HB9.out hb)
            clear hb
            go_wp2
            go_ret
            exact ⟨by rw [HR.out]; rfl, HB11.out⟩
          | false =>
            have HR : Hid (RV = false) := Lib.hid (by rw [HRV.out]; simp [p2, p3])
            go_wp2_with (first | (refine wpList_load_want (by rfl) 29 (.tmp 5) rfl b1 0 rfl (Nd.cells ⟨2, d, [], 0, []⟩) _ HY9.out.cells Tryz.underlying29 rfl HIY.out ?_) | fail)
            refine (HCC.out _).mono ?_
            rintro e W11 ⟨rfl, hb⟩
            have HB11 := Lib.hid (chain2 HB9.out hb)
            clear hb
            go_wp2
            go_ret
            exact ⟨by rw [HR.out]; rfl, HB11.out⟩
        · skip
          have HR : Hid (RV = false) := Lib.hid (by rw [HRV.out]; simp [p2, p3])
          go_wp2
          go_ret
          exact ⟨by rw [HR.out]; rfl, HB9.out⟩
      · skip
        have HR : Hid (RV = false) := Lib.hid (by rw [HRV.out]; simp [p2])
        go_wp2
        go_ret
        exact ⟨by rw [HR.out]; rfl, HB9.out⟩
    | false =>
      have HR : Hid (RV = false) := Lib.hid (by rw [HRV.out]; simp [])
      go_wp2
      go_ret
      exact ⟨by rw [HR.out]; rfl, HB9.out⟩
  | false =>
    have HR : Hid (RV = false) := Lib.hid (by rw [HRV.out]; simp [])
    go_wp2
    go_ret
    exact ⟨by rw [HR.out]; rfl, HB9.out⟩

end Go.Proofs.YtemlceicmpcboaaGreatDoor.Tr
namespace Go.Proofs.YtemlceicmpcboaaGreatDoor.Tr
open Go.RowKit Dk Lx

set_option maxHeartbeats 8000000 in
set_option maxRecDepth 100000 in
theorem rf_3 (k d z : Int) (q s : List UInt8) (hk : k = 3 ∨ k = 4 ∨ k = 6 ∨ k = 7 ∨ k = 21) (hq : q.length ≤ 9000) (hs : s.length ≤ 9000) (w : World) :
    Calls Tryz.prog 82 #[.agg #[.int .i64 k, .int .i64 d, .string (strOf q), .int .i64 z, .string (strOf s)]] w fun e w' => e = .returned (.bool (isName q && ((([] : List UInt8) == []) && (s == []) && decide (z = 0)))) ∧ Below w.heap.size w w' := by
  have HB0 : Hid (Below w.heap.size w (w.alloc (.cells (Nd.cells ⟨k, d, q, z, s⟩).toArray 29))) := Lib.hid ((Below.refl _ _).alloc (Nat.le_refl _) _)
  have HX0 := Lib.hid (nb_new w ⟨k, d, q, z, s⟩ 29)
  have CA := Lib.hid (fun W => rname_any q W (by omega))
  have CB := Lib.hid (fun W => rname_any s W (by omega))
  have CC := Lib.hid (fun W => bare_any ⟨k, d, [], z, s⟩ W)
  obtain ⟨rb, hrb⟩ : ∃ rb, rb = ((([] : List UInt8) == []) && (s == []) && decide (z = 0)) := ⟨_, rfl⟩
  have hsz := strOf_size s
  have HIX := Lib.hid (n_info ⟨k, d, q, z, s⟩)
  have HIY := Lib.hid (n_info ⟨k, d, [], z, s⟩)
  have HAX := Lib.hid (n_infoA ⟨k, d, q, z, s⟩)
  have HLX := Lib.hid (n_all ⟨k, d, q, z, s⟩)
  rw [← hrb]
  have HCC : Hid (∀ W, Calls Tryz.prog 138 #[.agg (Nd.cells ⟨k, d, [], z, s⟩).toArray] W fun e w' => e = .returned (.bool rb) ∧ Below W.heap.size W w') := Lib.hid (fun W => by rw [hrb]; exact CC.out W)
  clear CC
  clear hrb
  generalize isName q = bna at *
  generalize isName s = bnb at *
  obtain ⟨RV, hRV⟩ : ∃ RV, RV = (bna && rb) := ⟨_, rfl⟩
  rw [← hRV]
  have HRV := Lib.hid hRV
  clear hRV
  have m1 : (k == 1) = false := by rcases hk with rfl | rfl | rfl | rfl | rfl <;> decide
  have m2 : (k == 2) = false := by rcases hk with rfl | rfl | rfl | rfl | rfl <;> decide
  have hk' : (k == 3) = true ∨ ((k == 3) = false ∧ (k == 4) = true) ∨ ((k == 3) = false ∧ (k == 4) = false ∧ (k == 6) = true) ∨ ((k == 3) = false ∧ (k == 4) = false ∧ (k == 6) = false ∧ (k == 7) = true) ∨ ((k == 3) = false ∧ (k == 4) = false ∧ (k == 6) = false ∧ (k == 7) = false ∧ (k == 21) = true) := by rcases hk with rfl | rfl | rfl | rfl | rfl <;> decide
  clear hk
  rcases hk' with m3 | ⟨m3, m4⟩ | ⟨m3, m4, m6⟩ | ⟨m3, m4, m6, m7⟩ | ⟨m3, m4, m6, m7, m21⟩
  all_goals
    go_enter Tryz.func82, Tryz.ntmps82
    go_wp2_with fail
    unfold Nd.cells at HX0 HB0
    generalize World.alloc w _ = W0 at HB0 HX0 ⊢
    refine (CA.out _).mono ?_
    rintro e W1 ⟨rfl, hb⟩
    have HX1 := Lib.hid (HX0.out.later hb)
    have HB1 := Lib.hid (chain2 HB0.out hb)
    clear hb CA
    obtain ⟨c0, c1, c2, c3, c4⟩ := HX1.out.at
    go_wp2_with fail
    refine (CB.out _).mono ?_
    rintro e W2 ⟨rfl, hb⟩
    have HX2 := Lib.hid (HX1.out.later hb)
    have HB2 := Lib.hid (chain2 HB1.out hb)
    clear hb CB c0 c1 c2 c3 c4 HX1 HX0
    have HZ := Lib.hid (nb_zero W2)
    have HP := Lib.hid (nb_put W2 ⟨k, d, q, z, s⟩)
    have HBL : Hid (w.heap.size ≤ W2.heap.size) := Lib.hid HB2.out.size
    have HNE : Hid (W2.heap.size ≠ w.heap.size) := Lib.hid (by have := HX2.out.lt; omega)
    go_upto_region 20 with (first
      | (refine wpList_load_mid rfl 29 (.tmp 1) rfl w.heap.size 0 rfl (Nd.cells ⟨k, d, q, z, s⟩) _ HX2.out.cells Tryz.underlying29 rfl HIX.out ?_)
      | (refine wpList_store_mid rfl 29 (.tmp 5) (.tmp 12) rfl W2.heap.size 0 (Nd.cells ⟨k, d, q, z, s⟩).toArray rfl rfl HZ.out.room HAX.out HLX.out ?_; generalize World.setCells _ _ _ _ = W3 at HP ⊢; have HX3 := Lib.hid (HX2.out.later HP.out.2); have HY3 := Lib.hid HP.out.1; have HB3 := Lib.hid (chain2 HB2.out HP.out.2); clear HP; obtain ⟨c0, c1, c2, c3, c4⟩ := HX3.out.at; obtain ⟨d0, d1, d2, d3, d4⟩ := HY3.out.at; have f2 := nb_free HY3.out 2 (by decide); have f3 := nb_free HY3.out 3 (by decide); have f4 := nb_free HY3.out 4 (by decide); have hne := HNE.out; have hne2 := Ne.symm HNE.out)
      | fail)
    generalize W2.heap.size = b1 at *
    have HY4 : Hid (NB (W3.setCell ⟨b1, 2, none⟩ (.string ⟨#[]⟩)) b1 ⟨k, d, [], z, s⟩) := Lib.hid (nb_cell HY3.out (by decide) (fun i u hu => by
      rcases i with _ | _ | _ | _ | _ | i
      all_goals first | (simp [Nd.cells] at hu ⊢; first | exact hu.symm | exact hu) | (simp [Nd.cells, strOf] at hu ⊢; exact hu.symm) | (simp [Nd.cells] at hu)))
    have HX4 := Lib.hid (nb_far (j := 2) (v := .string ⟨#[]⟩) HX3.out hne)
    have HB4 : Hid (Below w.heap.size w (W3.setCell ⟨b1, 2, none⟩ (.string ⟨#[]⟩))) := Lib.hid (HB3.out.setCell (by simpa using HBL.out) _)
    clear c0 c1 c2 c3 c4 d0 d1 d2 d3 d4 f2 f3 f4
    have HY9 := Lib.hid HY4.out
    have HX9 := Lib.hid HX4.out
    have HB9 := Lib.hid HB4.out
    clear HY4 HX4 HB4 HY3 HX3 HB3
    generalize (W3.setCell ⟨b1, 2, none⟩ (.string ⟨#[]⟩)) = W9 at HY9 HX9 HB9 ⊢
    obtain ⟨c0, c1, c2, c3, c4⟩ := HX9.out.at
    cases bna with
    | true =>
      cases rb with
      | true =>
        have HR : Hid (RV = true) := Lib.hid (by rw [HRV.out]; simp [])
        go_wp2_with (first | (refine wpList_load_want (by rfl) 29 (.tmp 5) rfl b1 0 rfl (Nd.cells ⟨k, d, [], z, s⟩) _ HY9.out.cells Tryz.underlying29 rfl HIY.out ?_) | fail)
        refine (HCC.out _).mono ?_
        rintro e W11 ⟨rfl, hb⟩
        have HB11 := Lib.hid (chain2 HB9.out hb)
        clear hb
        go_wp2
        go_ret
        exact ⟨by rw [HR.out]; rfl, HB11.out⟩
      | false =>
        have HR : Hid (RV = false) := Lib.hid (by rw [HRV.out]; simp [])
        go_wp2_with (first | (refine wpList_load_want (by rfl) 29 (.tmp 5) rfl b1 0 rfl (Nd.cells ⟨k, d, [], z, s⟩) _ HY9.out.cells Tryz.underlying29 rfl HIY.out ?_) | fail)
        refine (HCC.out _).mono ?_
        rintro e W11 ⟨rfl, hb⟩
        have HB11 := Lib.hid (chain2 HB9.out hb)
        clear hb
        go_wp2
        go_ret
        exact ⟨by rw [HR.out]; rfl, HB11.out⟩
    | false =>
      have HR : Hid (RV = false) := Lib.hid (by rw [HRV.out]; simp [])
      go_wp2
      go_ret
      exact ⟨by rw [HR.out]; rfl, HB9.out⟩

end Go.Proofs.YtemlceicmpcboaaGreatDoor.Tr
