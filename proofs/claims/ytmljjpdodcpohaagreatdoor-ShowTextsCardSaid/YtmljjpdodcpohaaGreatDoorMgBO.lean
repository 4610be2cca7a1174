/- A name for a text that stands elsewhere; The walks of the document's bare, op and fields; The walk of the document's fields, a kind; The walk of the document's fields, a kind; The walk of the document's fields, a kind. No condition but those that each states. -/
import Derived.Test.YtmljjpdodcpohaaGreatDoorMgAP
import Derived.Test.YtmljjpdodcpohaaGreatDoorMgAF
import Derived.Deep.Cut
namespace Go.Proofs.YtmljjpdodcpohaaGreatDoor.Tr
open Lib (hid)
set_option maxHeartbeats 2000000
open Go.RowKit Dk Lx
theorem wpList_load_want {P : Program} {ops : Array Oper} {rest : List Oper} {op : Oper} {a : Act} {w : World} {Q : Exit → Act → World → Prop} (hw : Region.wanted op (yielded ops a.tmps) = true) (ty : TypeId) (x : Operand) (ho : op.op = .load ty x)
    (b o : Nat) (hx : a.eval x = .pointer (some ⟨b, o, none⟩)) (cs : List Value) (d : TypeDesc) (hc : w.rangeAt b o cs)
    (hu : P.underlying ty = some d) (hd : d.isRow = true) (hi : (P.info? ty).map (·.size) = some cs.length)
    (h : wpList P ops Q rest (a.put op.dst (.agg cs.toArray)) w) : wpList P ops Q (op :: rest) a w :=
  BigFrame.wpList_want hw fun _ hK => wp_load_mid ty x ho b o hx cs d hc hu hd hi (hK _ _ h)
theorem nb_cell {W : World} {B j : Nat} {x y : Nd} {v : Value} (h : NB W B x) (hj : j < 5) (hc : ∀ i u, y.cells[i]? = some u → if i = j then u = v else x.cells[i]? = some u) : NB (W.setCell ⟨B, j, none⟩ v) B y := by
  obtain ⟨u0, hu0⟩ : ∃ u0, x.cells[j]? = some u0 := ⟨_, List.getElem?_eq_getElem (show j < x.cells.length from hj)⟩; have hj0 : W.cell? ⟨B, 0 + j, none⟩ = some u0 := h.cells j u0 hu0; rw [Nat.zero_add] at hj0; refine ⟨fun i u hu => ?_, fun i hi => ?_, by simpa using h.lt⟩
  · have := hc i u hu
    rw [Nat.zero_add]; by_cases hij : i = j
    · subst hij
      rw [if_pos rfl] at this; subst this; exact World.cell?_setCell_same _ _ _ hj0
    · rw [if_neg hij] at this
      rw [World.cell?_setCell_other _ _ _ _ (by intro e; simp at e <;> omega)]
      have h2 := h.cells i u this; rwa [Nat.zero_add] at h2
  · obtain ⟨h1, h2⟩ := h.room i hi
    rw [Nat.zero_add] at h1 h2 ⊢; by_cases hij : i = j
    · subst hij
      exact ⟨by rw [World.cell?_setCell_same _ _ _ hj0]; rfl, by simpa using h2⟩
    · exact ⟨by rw [World.cell?_setCell_other _ _ _ _ (by intro e; simp at e <;> omega)]; exact h1, by simpa using h2⟩
theorem nb_far {W : World} {B B' j : Nat} {x : Nd} {v : Value} (h : NB W B x) (hb : B' ≠ B) : NB (W.setCell ⟨B', j, none⟩ v) B x :=
  h.of_block (Below.heap_setCell _ _ _ _ (by simpa using fun e => hb e.symm)) (by simp)
theorem nb_free {W : World} {B : Nat} {x : Nd} (h : NB W B x) (j : Nat) (hj : j < 5) : W.frozen? ⟨B, j, none⟩ = false := by
  have := (h.room j hj).2; rwa [Nat.zero_add] at this
theorem bare_bytes (k d z : Int) (Q S : ByteArray) (a b : Bool) (ha : (Q.toList == []) = a) (hb : (S.toList == []) = b) (w : World) :
    Calls Tryz.prog 102 #[.agg #[.int .i64 k, .int .i64 d, .string Q, .int .i64 z, .string S]] w fun e w' => e = .returned (.bool (a && b && decide (z = 0))) ∧ Below w.heap.size w w' := by
  have HB : Hid (Below w.heap.size w (w.alloc (.cells #[.int .i64 k, .int .i64 d, .string Q, .int .i64 z, .string S] 58))) := hid ((Below.refl _ _).alloc (Nat.le_refl _) _); cases a with
  | false =>
    have HF : Hid ((false && b && decide (z = 0)) = false) := hid (by simp); rw [HF.out]; clear HF; go_enter Tryz.func102, Tryz.ntmps102
    go_wp2; go_ret; exact ⟨rfl, HB.out⟩
  | true =>
    cases b with
    | false =>
      have HF : Hid ((true && false && decide (z = 0)) = false) := hid (by simp); rw [HF.out]; clear HF; go_enter Tryz.func102, Tryz.ntmps102
      go_wp2; go_ret; exact ⟨rfl, HB.out⟩
    | true =>
      by_cases hz : z = 0
      · subst hz
        have HF : Hid ((true && true && decide ((0 : Int) = 0)) = true) := hid (by simp); rw [HF.out]; clear HF; go_enter Tryz.func102, Tryz.ntmps102
        go_wp2; go_ret; exact ⟨rfl, HB.out⟩
      · have v1 : (z == 0) = false := by simpa using hz
        have HF : Hid ((true && true && decide (z = 0)) = false) := hid (by simp [hz]); rw [HF.out]; clear HF hz; go_enter Tryz.func102, Tryz.ntmps102
        go_wp2; go_ret; exact ⟨rfl, HB.out⟩
theorem bare_any (x : Nd) (w : World) : Calls Tryz.prog 102 #[.agg x.cells.toArray] w fun e w' => e = .returned (.bool ((x.name == []) && (x.text == []) && decide (x.n = 0))) ∧ Below w.heap.size w w' :=
  bare_bytes x.kind x.kids x.n (strOf x.name) (strOf x.text) _ _ (by rw [strOf_tl]) (by rw [strOf_tl]) w
theorem op_any (l : List UInt8) (w : World) : Calls Tryz.prog 103 #[.string (strOf l)] w fun e w' => e = .returned (.bool (isBin l)) ∧ Below w.heap.size w w' := by
  have HB : Hid (Below w.heap.size w (w.alloc (.cells (binList.map fun l => Value.string (strOf l)).toArray 9))) := hid ((Below.refl _ _).alloc (Nat.le_refl _) _); have HC := hid (fun j k h => row_strings w binList 9 j k h); have HK := hid (isBin_iff l); go_enter Tryz.func103, Tryz.ntmps103
  go_wp2; obtain ⟨W1, hW⟩ : ∃ W1, W1 = w.alloc (.cells (binList.map fun l => Value.string (strOf l)).toArray 9) := ⟨_, rfl⟩; rw [← hW] at HB HC; go_loopw [4] (fun vi wr => ∃ j : Nat, j ≤ 12 ∧ vi = .int .i64 (j : Int) ∧ wr = W1 ∧ Hid (l ∉ binList.take j)) (fun vi _ => 12 - (intOf vi).toNat)
  case atStart => exact ⟨0, Nat.zero_le _, rfl, hW.symm, hid (by simp)⟩
  case round =>
    obtain ⟨j, hj, rfl, rfl, hn⟩ := hrel; by_cases hlt : j < 12
    · obtain ⟨k, hk⟩ : ∃ k, binList[j]? = some k := ⟨_, List.getElem?_eq_getElem (by show j < 12; exact hlt)⟩
      have c := HC.out j k hk; have hb := str_beq k l; have z0 : (0 : Int) ≤ (j : Int) := by omega
      have z1 : (j : Int) < 12 := by omega
      by_cases he : k = l
      · have HT : Hid (isBin l = true) := hid (HK.out.2 (by rw [← he]; exact List.mem_of_getElem? hk))
        rw [decide_eq_true he] at hb; generalize strOf k = y at *; generalize strOf l = z at *; clear he hk hW; go_wp2; go_ret; exact ⟨by rw [HT.out]; rfl, HB.out⟩
      · have HN : Hid (l ∉ binList.take (j + 1)) := hid (by
          have e := List.getElem?_eq_some_iff.1 hk; obtain ⟨h1, h2⟩ := e; rw [List.take_succ_eq_append_getElem h1, List.mem_append]; rintro (h | h)
          · exact hn.out h
          · rw [List.mem_singleton, h2] at h; exact he h.symm)
        rw [decide_eq_false he] at hb; generalize strOf k = y at *; generalize strOf l = z at *; clear he hk hW hn; go_wp2; go_roundw
        case rel => exact ⟨j + 1, by omega, by go_num, by trivial, HN⟩
        case measure => simp [intOf]; omega
    · obtain rfl : j = 12 := by omega
      have HF : Hid (isBin l = false) := hid (by
        cases h : isBin l with
        | false => rfl
        | true => exact absurd (HK.out.1 h) hn.out)
      clear hW hn; go_wp2; go_ret; exact ⟨by rw [HF.out]; rfl, HB.out⟩
end Go.Proofs.YtmljjpdodcpohaaGreatDoor.Tr

namespace Go.Proofs.YtmljjpdodcpohaaGreatDoor.Tr
open Lib (hid)
set_option maxRecDepth 100000
set_option maxHeartbeats 8000000
open Go.RowKit Dk Lx
theorem rf_0 (k d z : Int) (q s : List UInt8) (hk : k ≠ 1 ∧ k ≠ 2 ∧ k ≠ 3 ∧ k ≠ 4 ∧ k ≠ 6 ∧ k ≠ 7 ∧ k ≠ 21 ∧ k ≠ 19 ∧ k ≠ 20 ∧ k ≠ 23 ∧ k ≠ 27 ∧ k ≠ 28) (hq : q.length ≤ 9000) (hs : s.length ≤ 9000) (w : World) :
    Calls Tryz.prog 63 #[.agg #[.int .i64 k, .int .i64 d, .string (strOf q), .int .i64 z, .string (strOf s)]] w fun e w' => e = .returned (.bool (decide (k ≥ 1) && decide (k ≤ 30) && ((q == []) && (s == []) && decide (z = 0)))) ∧ Below w.heap.size w w' := by
  have HB0 : Hid (Below w.heap.size w (w.alloc (.cells (Nd.cells ⟨k, d, q, z, s⟩).toArray 58))) := hid ((Below.refl _ _).alloc (Nat.le_refl _) _); have HX0 := hid (nb_new w ⟨k, d, q, z, s⟩ 58); have CA := hid (fun W => rname_any q W (by omega)); have CB := hid (fun W => rname_any s W (by omega)); have CC := hid (fun W => bare_any ⟨k, d, q, z, s⟩ W); obtain ⟨rb, hrb⟩ : ∃ rb, rb = ((q == []) && (s == []) && decide (z = 0)) := ⟨_, rfl⟩; have hsz := strOf_size s; have HIX := hid (n_info ⟨k, d, q, z, s⟩); have HIY := hid (n_info ⟨k, d, q, z, s⟩); have HAX := hid (n_infoA ⟨k, d, q, z, s⟩); have HLX := hid (n_all ⟨k, d, q, z, s⟩); rw [← hrb]; have HCC : Hid (∀ W, Calls Tryz.prog 102 #[.agg (Nd.cells ⟨k, d, q, z, s⟩).toArray] W fun e w' => e = .returned (.bool rb) ∧ Below W.heap.size W w') := hid (fun W => by rw [hrb]; exact CC.out W)
  clear CC; clear hrb; generalize isName q = bna at *; generalize isName s = bnb at *; obtain ⟨RV, hRV⟩ : ∃ RV, RV = (decide (k ≥ 1) && decide (k ≤ 30) && rb) := ⟨_, rfl⟩; rw [← hRV]; have HRV := hid hRV; clear hRV; obtain ⟨n1, n2, n3, n4, n6, n7, n21, n19, n20, n23, n27, n28⟩ := hk; have m1 : (k == 1) = false := beq_false_of_ne n1; have m2 : (k == 2) = false := beq_false_of_ne n2; have m3 : (k == 3) = false := beq_false_of_ne n3; have m4 : (k == 4) = false := beq_false_of_ne n4; have m6 : (k == 6) = false := beq_false_of_ne n6; have m7 : (k == 7) = false := beq_false_of_ne n7; have m21 : (k == 21) = false := beq_false_of_ne n21; have m19 : (k == 19) = false := beq_false_of_ne n19; have m20 : (k == 20) = false := beq_false_of_ne n20; have m23 : (k == 23) = false := beq_false_of_ne n23; have m27 : (k == 27) = false := beq_false_of_ne n27; have m28 : (k == 28) = false := beq_false_of_ne n28; clear n1 n2 n3 n4 n6 n7 n21 n19 n20 n23 n27 n28; go_enter Tryz.func63, Tryz.ntmps63
  go_wp2_with fail
  unfold Nd.cells at HX0 HB0; generalize World.alloc w _ = W0 at HB0 HX0 ⊢; refine (CA.out _).mono ?_; rintro e W1 ⟨rfl, hb⟩; have HX1 := hid (HX0.out.later hb); have HB1 := hid (chain2 HB0.out hb); clear hb CA; obtain ⟨c0, c1, c2, c3, c4⟩ := HX1.out.at; go_wp2_with fail
  refine (CB.out _).mono ?_; rintro e W2 ⟨rfl, hb⟩; have HX2 := hid (HX1.out.later hb); have HB2 := hid (chain2 HB1.out hb); clear hb CB c0 c1 c2 c3 c4 HX1 HX0; have HZ := hid (nb_zero W2); have HP := hid (nb_put W2 ⟨k, d, q, z, s⟩); have HBL : Hid (w.heap.size ≤ W2.heap.size) := hid HB2.out.size; have HNE : Hid (W2.heap.size ≠ w.heap.size) := hid (by have := HX2.out.lt; omega)
  go_upto_region 37 with (first
    | (refine wpList_load_mid rfl 58 (.tmp 1) rfl w.heap.size 0 rfl (Nd.cells ⟨k, d, q, z, s⟩) _ HX2.out.cells Tryz.underlying58 rfl HIX.out ?_)
    | (refine wpList_store_mid rfl 58 (.tmp 5) (.tmp 12) rfl W2.heap.size 0 (Nd.cells ⟨k, d, q, z, s⟩).toArray rfl rfl HZ.out.room HAX.out HLX.out ?_; generalize World.setCells _ _ _ _ = W3 at HP ⊢; have HX3 := hid (HX2.out.later HP.out.2); have HY3 := hid HP.out.1; have HB3 := hid (chain2 HB2.out HP.out.2); clear HP; obtain ⟨c0, c1, c2, c3, c4⟩ := HX3.out.at; obtain ⟨d0, d1, d2, d3, d4⟩ := HY3.out.at; have f2 := nb_free HY3.out 2 (by decide); have f3 := nb_free HY3.out 3 (by decide); have f4 := nb_free HY3.out 4 (by decide); have hne := HNE.out; have hne2 := Ne.symm HNE.out)
    | fail)
  generalize W2.heap.size = b1 at *; have HY9 := hid HX3.out; have HB9 := hid HB3.out; have HX9 := hid HX3.out; clear d0 d1 d2 d3 d4 f2 f3 f4 HY3 HX3 HB3; by_cases p0 : k ≥ 1
  · skip
    by_cases p1 : k ≤ 30
    · skip
      cases rb with
      | true =>
        have HR : Hid (RV = true) := hid (by rw [HRV.out]; simp [p0, p1])
        go_wp2_with (first | (refine wpList_load_want (by rfl) 58 (.tmp 1) rfl w.heap.size 0 rfl (Nd.cells ⟨k, d, q, z, s⟩) _ HY9.out.cells Tryz.underlying58 rfl HIY.out ?_) | fail)
        refine (HCC.out _).mono ?_; rintro e W11 ⟨rfl, hb⟩; have HB11 := hid (chain2 HB9.out hb); clear hb; go_wp2; go_ret; exact ⟨by rw [HR.out]; rfl, HB11.out⟩
      | false =>
        have HR : Hid (RV = false) := hid (by rw [HRV.out]; simp [p0, p1])
        go_wp2_with (first | (refine wpList_load_want (by rfl) 58 (.tmp 1) rfl w.heap.size 0 rfl (Nd.cells ⟨k, d, q, z, s⟩) _ HY9.out.cells Tryz.underlying58 rfl HIY.out ?_) | fail)
        refine (HCC.out _).mono ?_; rintro e W11 ⟨rfl, hb⟩; have HB11 := hid (chain2 HB9.out hb); clear hb; go_wp2; go_ret; exact ⟨by rw [HR.out]; rfl, HB11.out⟩
    · skip
      have HR : Hid (RV = false) := hid (by rw [HRV.out]; simp [p0, p1])
      go_wp2; go_ret; exact ⟨by rw [HR.out]; rfl, HB9.out⟩
  · skip
    have HR : Hid (RV = false) := hid (by rw [HRV.out]; simp [p0])
    go_wp2; go_ret; exact ⟨by rw [HR.out]; rfl, HB9.out⟩
end Go.Proofs.YtmljjpdodcpohaaGreatDoor.Tr

namespace Go.Proofs.YtmljjpdodcpohaaGreatDoor.Tr
open Lib (hid)
set_option maxRecDepth 100000
set_option maxHeartbeats 8000000
open Go.RowKit Dk Lx
theorem rf_1 (k d z : Int) (q s : List UInt8) (hk : k = 1) (hq : q.length ≤ 9000) (hs : s.length ≤ 9000) (w : World) :
    Calls Tryz.prog 63 #[.agg #[.int .i64 k, .int .i64 d, .string (strOf q), .int .i64 z, .string (strOf s)]] w fun e w' => e = .returned (.bool (isName q && decide (z ≥ 1) && decide (z ≤ 2147483647) && ((([] : List UInt8) == []) && (s == []) && decide ((0 : Int) = 0)))) ∧ Below w.heap.size w w' := by
  have HB0 : Hid (Below w.heap.size w (w.alloc (.cells (Nd.cells ⟨k, d, q, z, s⟩).toArray 58))) := hid ((Below.refl _ _).alloc (Nat.le_refl _) _); have HX0 := hid (nb_new w ⟨k, d, q, z, s⟩ 58); have CA := hid (fun W => rname_any q W (by omega)); have CB := hid (fun W => rname_any s W (by omega)); have CC := hid (fun W => bare_any ⟨k, d, [], 0, s⟩ W); obtain ⟨rb, hrb⟩ : ∃ rb, rb = ((([] : List UInt8) == []) && (s == []) && decide ((0 : Int) = 0)) := ⟨_, rfl⟩; have hsz := strOf_size s; have HIX := hid (n_info ⟨k, d, q, z, s⟩); have HIY := hid (n_info ⟨k, d, [], 0, s⟩); have HAX := hid (n_infoA ⟨k, d, q, z, s⟩); have HLX := hid (n_all ⟨k, d, q, z, s⟩); rw [← hrb]; have HCC : Hid (∀ W, Calls Tryz.prog 102 #[.agg (Nd.cells ⟨k, d, [], 0, s⟩).toArray] W fun e w' => e = .returned (.bool rb) ∧ Below W.heap.size W w') := hid (fun W => by rw [hrb]; exact CC.out W)
  clear CC; clear hrb; generalize isName q = bna at *; generalize isName s = bnb at *; obtain ⟨RV, hRV⟩ : ∃ RV, RV = (bna && decide (z ≥ 1) && decide (z ≤ 2147483647) && rb) := ⟨_, rfl⟩; rw [← hRV]; have HRV := hid hRV; clear hRV; subst hk; go_enter Tryz.func63, Tryz.ntmps63
  go_wp2_with fail
  unfold Nd.cells at HX0 HB0; generalize World.alloc w _ = W0 at HB0 HX0 ⊢; refine (CA.out _).mono ?_; rintro e W1 ⟨rfl, hb⟩; have HX1 := hid (HX0.out.later hb); have HB1 := hid (chain2 HB0.out hb); clear hb CA; obtain ⟨c0, c1, c2, c3, c4⟩ := HX1.out.at; go_wp2_with fail
  refine (CB.out _).mono ?_; rintro e W2 ⟨rfl, hb⟩; have HX2 := hid (HX1.out.later hb); have HB2 := hid (chain2 HB1.out hb); clear hb CB c0 c1 c2 c3 c4 HX1 HX0; have HZ := hid (nb_zero W2); have HP := hid (nb_put W2 ⟨1, d, q, z, s⟩); have HBL : Hid (w.heap.size ≤ W2.heap.size) := hid HB2.out.size; have HNE : Hid (W2.heap.size ≠ w.heap.size) := hid (by have := HX2.out.lt; omega)
  go_upto_region 8 with (first
    | (refine wpList_load_mid rfl 58 (.tmp 1) rfl w.heap.size 0 rfl (Nd.cells ⟨1, d, q, z, s⟩) _ HX2.out.cells Tryz.underlying58 rfl HIX.out ?_)
    | (refine wpList_store_mid rfl 58 (.tmp 5) (.tmp 12) rfl W2.heap.size 0 (Nd.cells ⟨1, d, q, z, s⟩).toArray rfl rfl HZ.out.room HAX.out HLX.out ?_; generalize World.setCells _ _ _ _ = W3 at HP ⊢; have HX3 := hid (HX2.out.later HP.out.2); have HY3 := hid HP.out.1; have HB3 := hid (chain2 HB2.out HP.out.2); clear HP; obtain ⟨c0, c1, c2, c3, c4⟩ := HX3.out.at; obtain ⟨d0, d1, d2, d3, d4⟩ := HY3.out.at; have f2 := nb_free HY3.out 2 (by decide); have f3 := nb_free HY3.out 3 (by decide); have f4 := nb_free HY3.out 4 (by decide); have hne := HNE.out; have hne2 := Ne.symm HNE.out)
    | fail)
  generalize W2.heap.size = b1 at *
  have HY4 : Hid (NB (W3.setCell ⟨b1, 2, none⟩ (.string ⟨#[]⟩)) b1 ⟨1, d, [], z, s⟩) := hid (nb_cell HY3.out (by decide) (fun i u hu => by
    rcases i with _ | _ | _ | _ | _ | i
    all_goals first | (simp [Nd.cells] at hu ⊢; first | exact hu.symm | exact hu) | (simp [Nd.cells, strOf] at hu ⊢; exact hu.symm) | (simp [Nd.cells] at hu)))
  have HX4 := hid (nb_far (j := 2) (v := .string ⟨#[]⟩) HX3.out hne); have HB4 : Hid (Below w.heap.size w (W3.setCell ⟨b1, 2, none⟩ (.string ⟨#[]⟩))) := hid (HB3.out.setCell (by simpa using HBL.out) _)
  have HY5 : Hid (NB ((W3.setCell ⟨b1, 2, none⟩ (.string ⟨#[]⟩)).setCell ⟨b1, 3, none⟩ (.int .i64 0)) b1 ⟨1, d, [], 0, s⟩) := hid (nb_cell HY4.out (by decide) (fun i u hu => by
    rcases i with _ | _ | _ | _ | _ | i
    all_goals first | (simp [Nd.cells] at hu ⊢; first | exact hu.symm | exact hu) | (simp [Nd.cells, strOf] at hu ⊢; exact hu.symm) | (simp [Nd.cells] at hu)))
  have HX5 := hid (nb_far (j := 3) (v := .int .i64 0) HX4.out hne); have HB5 : Hid (Below w.heap.size w ((W3.setCell ⟨b1, 2, none⟩ (.string ⟨#[]⟩)).setCell ⟨b1, 3, none⟩ (.int .i64 0))) := hid (HB4.out.setCell (by simpa using HBL.out) _); clear c0 c1 c2 c3 c4 d0 d1 d2 d3 d4 f2 f3 f4; have HY9 := hid HY5.out; have HX9 := hid HX5.out; have HB9 := hid HB5.out; clear HY4 HX4 HB4 HY5 HX5 HB5 HY3 HX3 HB3; generalize ((W3.setCell ⟨b1, 2, none⟩ (.string ⟨#[]⟩)).setCell ⟨b1, 3, none⟩ (.int .i64 0)) = W9 at HY9 HX9 HB9 ⊢; obtain ⟨c0, c1, c2, c3, c4⟩ := HX9.out.at; cases bna with
  | true =>
    by_cases p1 : z ≥ 1
    · skip
      by_cases p2 : z ≤ 2147483647
      · skip
        cases rb with
        | true =>
          have HR : Hid (RV = true) := hid (by rw [HRV.out]; simp [p1, p2])
          go_wp2_with (first | (refine wpList_load_want (by rfl) 58 (.tmp 5) rfl b1 0 rfl (Nd.cells ⟨1, d, [], 0, s⟩) _ HY9.out.cells Tryz.underlying58 rfl HIY.out ?_) | fail)
          refine (HCC.out _).mono ?_; rintro e W11 ⟨rfl, hb⟩; have HB11 := hid (chain2 HB9.out hb); clear hb; go_wp2; go_ret; exact ⟨by rw [HR.out]; rfl, HB11.out⟩
        | false =>
          have HR : Hid (RV = false) := hid (by rw [HRV.out]; simp [p1, p2])
          go_wp2_with (first | (refine wpList_load_want (by rfl) 58 (.tmp 5) rfl b1 0 rfl (Nd.cells ⟨1, d, [], 0, s⟩) _ HY9.out.cells Tryz.underlying58 rfl HIY.out ?_) | fail)
          refine (HCC.out _).mono ?_; rintro e W11 ⟨rfl, hb⟩; have HB11 := hid (chain2 HB9.out hb); clear hb; go_wp2; go_ret; exact ⟨by rw [HR.out]; rfl, HB11.out⟩
      · skip
        have HR : Hid (RV = false) := hid (by rw [HRV.out]; simp [p1, p2])
        go_wp2; go_ret; exact ⟨by rw [HR.out]; rfl, HB9.out⟩
    · skip
      have HR : Hid (RV = false) := hid (by rw [HRV.out]; simp [p1])
      go_wp2; go_ret; exact ⟨by rw [HR.out]; rfl, HB9.out⟩
  | false =>
    have HR : Hid (RV = false) := hid (by rw [HRV.out]; simp [])
    go_wp2; go_ret; exact ⟨by rw [HR.out]; rfl, HB9.out⟩
end Go.Proofs.YtmljjpdodcpohaaGreatDoor.Tr

namespace Go.Proofs.YtmljjpdodcpohaaGreatDoor.Tr
open Lib (hid)
set_option maxRecDepth 100000
set_option maxHeartbeats 8000000
open Go.RowKit Dk Lx
theorem rf_2 (k d z : Int) (q s : List UInt8) (hk : k = 2) (hq : q.length ≤ 9000) (hs : s.length ≤ 9000) (w : World) :
    Calls Tryz.prog 63 #[.agg #[.int .i64 k, .int .i64 d, .string (strOf q), .int .i64 z, .string (strOf s)]] w fun e w' => e = .returned (.bool (isName q && isName s && decide (z ≥ 0) && decide (z ≤ 8) && ((([] : List UInt8) == []) && (([] : List UInt8) == []) && decide ((0 : Int) = 0)))) ∧ Below w.heap.size w w' := by
  have HB0 : Hid (Below w.heap.size w (w.alloc (.cells (Nd.cells ⟨k, d, q, z, s⟩).toArray 58))) := hid ((Below.refl _ _).alloc (Nat.le_refl _) _); have HX0 := hid (nb_new w ⟨k, d, q, z, s⟩ 58); have CA := hid (fun W => rname_any q W (by omega)); have CB := hid (fun W => rname_any s W (by omega)); have CC := hid (fun W => bare_any ⟨k, d, [], 0, []⟩ W); obtain ⟨rb, hrb⟩ : ∃ rb, rb = ((([] : List UInt8) == []) && (([] : List UInt8) == []) && decide ((0 : Int) = 0)) := ⟨_, rfl⟩; have hsz := strOf_size s; have HIX := hid (n_info ⟨k, d, q, z, s⟩); have HIY := hid (n_info ⟨k, d, [], 0, []⟩); have HAX := hid (n_infoA ⟨k, d, q, z, s⟩); have HLX := hid (n_all ⟨k, d, q, z, s⟩); rw [← hrb]; have HCC : Hid (∀ W, Calls Tryz.prog 102 #[.agg (Nd.cells ⟨k, d, [], 0, []⟩).toArray] W fun e w' => e = .returned (.bool rb) ∧ Below W.heap.size W w') := hid (fun W => by rw [hrb]; exact CC.out W)
  clear CC; clear hrb; generalize isName q = bna at *; generalize isName s = bnb at *; obtain ⟨RV, hRV⟩ : ∃ RV, RV = (bna && bnb && decide (z ≥ 0) && decide (z ≤ 8) && rb) := ⟨_, rfl⟩; rw [← hRV]; have HRV := hid hRV; clear hRV; subst hk; go_enter Tryz.func63, Tryz.ntmps63
  go_wp2_with fail
  unfold Nd.cells at HX0 HB0; generalize World.alloc w _ = W0 at HB0 HX0 ⊢; refine (CA.out _).mono ?_; rintro e W1 ⟨rfl, hb⟩; have HX1 := hid (HX0.out.later hb); have HB1 := hid (chain2 HB0.out hb); clear hb CA; obtain ⟨c0, c1, c2, c3, c4⟩ := HX1.out.at; go_wp2_with fail
  refine (CB.out _).mono ?_; rintro e W2 ⟨rfl, hb⟩; have HX2 := hid (HX1.out.later hb); have HB2 := hid (chain2 HB1.out hb); clear hb CB c0 c1 c2 c3 c4 HX1 HX0; have HZ := hid (nb_zero W2); have HP := hid (nb_put W2 ⟨2, d, q, z, s⟩); have HBL : Hid (w.heap.size ≤ W2.heap.size) := hid HB2.out.size; have HNE : Hid (W2.heap.size ≠ w.heap.size) := hid (by have := HX2.out.lt; omega)
  go_upto_region 13 with (first
    | (refine wpList_load_mid rfl 58 (.tmp 1) rfl w.heap.size 0 rfl (Nd.cells ⟨2, d, q, z, s⟩) _ HX2.out.cells Tryz.underlying58 rfl HIX.out ?_)
    | (refine wpList_store_mid rfl 58 (.tmp 5) (.tmp 12) rfl W2.heap.size 0 (Nd.cells ⟨2, d, q, z, s⟩).toArray rfl rfl HZ.out.room HAX.out HLX.out ?_; generalize World.setCells _ _ _ _ = W3 at HP ⊢; have HX3 := hid (HX2.out.later HP.out.2); have HY3 := hid HP.out.1; have HB3 := hid (chain2 HB2.out HP.out.2); clear HP; obtain ⟨c0, c1, c2, c3, c4⟩ := HX3.out.at; obtain ⟨d0, d1, d2, d3, d4⟩ := HY3.out.at; have f2 := nb_free HY3.out 2 (by decide); have f3 := nb_free HY3.out 3 (by decide); have f4 := nb_free HY3.out 4 (by decide); have hne := HNE.out; have hne2 := Ne.symm HNE.out)
    | fail)
  generalize W2.heap.size = b1 at *
  have HY4 : Hid (NB (W3.setCell ⟨b1, 2, none⟩ (.string ⟨#[]⟩)) b1 ⟨2, d, [], z, s⟩) := hid (nb_cell HY3.out (by decide) (fun i u hu => by
    rcases i with _ | _ | _ | _ | _ | i
    all_goals first | (simp [Nd.cells] at hu ⊢; first | exact hu.symm | exact hu) | (simp [Nd.cells, strOf] at hu ⊢; exact hu.symm) | (simp [Nd.cells] at hu)))
  have HX4 := hid (nb_far (j := 2) (v := .string ⟨#[]⟩) HX3.out hne); have HB4 : Hid (Below w.heap.size w (W3.setCell ⟨b1, 2, none⟩ (.string ⟨#[]⟩))) := hid (HB3.out.setCell (by simpa using HBL.out) _)
  have HY5 : Hid (NB ((W3.setCell ⟨b1, 2, none⟩ (.string ⟨#[]⟩)).setCell ⟨b1, 4, none⟩ (.string ⟨#[]⟩)) b1 ⟨2, d, [], z, []⟩) := hid (nb_cell HY4.out (by decide) (fun i u hu => by
    rcases i with _ | _ | _ | _ | _ | i
    all_goals first | (simp [Nd.cells] at hu ⊢; first | exact hu.symm | exact hu) | (simp [Nd.cells, strOf] at hu ⊢; exact hu.symm) | (simp [Nd.cells] at hu)))
  have HX5 := hid (nb_far (j := 4) (v := .string ⟨#[]⟩) HX4.out hne); have HB5 : Hid (Below w.heap.size w ((W3.setCell ⟨b1, 2, none⟩ (.string ⟨#[]⟩)).setCell ⟨b1, 4, none⟩ (.string ⟨#[]⟩))) := hid (HB4.out.setCell (by simpa using HBL.out) _)
  have HY6 : Hid (NB (((W3.setCell ⟨b1, 2, none⟩ (.string ⟨#[]⟩)).setCell ⟨b1, 4, none⟩ (.string ⟨#[]⟩)).setCell ⟨b1, 3, none⟩ (.int .i64 0)) b1 ⟨2, d, [], 0, []⟩) := hid (nb_cell HY5.out (by decide) (fun i u hu => by
    rcases i with _ | _ | _ | _ | _ | i
    all_goals first | (simp [Nd.cells] at hu ⊢; first | exact hu.symm | exact hu) | (simp [Nd.cells, strOf] at hu ⊢; exact hu.symm) | (simp [Nd.cells] at hu)))
  have HX6 := hid (nb_far (j := 3) (v := .int .i64 0) HX5.out hne); have HB6 : Hid (Below w.heap.size w (((W3.setCell ⟨b1, 2, none⟩ (.string ⟨#[]⟩)).setCell ⟨b1, 4, none⟩ (.string ⟨#[]⟩)).setCell ⟨b1, 3, none⟩ (.int .i64 0))) := hid (HB5.out.setCell (by simpa using HBL.out) _); clear c0 c1 c2 c3 c4 d0 d1 d2 d3 d4 f2 f3 f4; have HY9 := hid HY6.out; have HX9 := hid HX6.out; have HB9 := hid HB6.out; clear HY4 HX4 HB4 HY5 HX5 HB5 HY6 HX6 HB6 HY3 HX3 HB3; generalize (((W3.setCell ⟨b1, 2, none⟩ (.string ⟨#[]⟩)).setCell ⟨b1, 4, none⟩ (.string ⟨#[]⟩)).setCell ⟨b1, 3, none⟩ (.int .i64 0)) = W9 at HY9 HX9 HB9 ⊢; obtain ⟨c0, c1, c2, c3, c4⟩ := HX9.out.at; cases bna with
  | true =>
    cases bnb with
    | true =>
      by_cases p2 : z ≥ 0
      · skip
        by_cases p3 : z ≤ 8
        · skip
          cases rb with
          | true =>
            have HR : Hid (RV = true) := hid (by rw [HRV.out]; simp [p2, p3])
            go_wp2_with (first | (refine wpList_load_want (by rfl) 58 (.tmp 5) rfl b1 0 rfl (Nd.cells ⟨2, d, [], 0, []⟩) _ HY9.out.cells Tryz.underlying58 rfl HIY.out ?_) | fail)
            refine (HCC.out _).mono ?_; rintro e W11 ⟨rfl, hb⟩; have HB11 := hid (chain2 HB9.out hb); clear hb; go_wp2; go_ret; exact ⟨by rw [HR.out]; rfl, HB11.out⟩
          | false =>
            have HR : Hid (RV = false) := hid (by rw [HRV.out]; simp [p2, p3])
            go_wp2_with (first | (refine wpList_load_want (by rfl) 58 (.tmp 5) rfl b1 0 rfl (Nd.cells ⟨2, d, [], 0, []⟩) _ HY9.out.cells Tryz.underlying58 rfl HIY.out ?_) | fail)
            refine (HCC.out _).mono ?_; rintro e W11 ⟨rfl, hb⟩; have HB11 := hid (chain2 HB9.out hb); clear hb; go_wp2; go_ret; exact ⟨by rw [HR.out]; rfl, HB11.out⟩
        · skip
          have HR : Hid (RV = false) := hid (by rw [HRV.out]; simp [p2, p3])
          go_wp2; go_ret; exact ⟨by rw [HR.out]; rfl, HB9.out⟩
      · skip
        have HR : Hid (RV = false) := hid (by rw [HRV.out]; simp [p2])
        go_wp2; go_ret; exact ⟨by rw [HR.out]; rfl, HB9.out⟩
    | false =>
      have HR : Hid (RV = false) := hid (by rw [HRV.out]; simp [])
      go_wp2; go_ret; exact ⟨by rw [HR.out]; rfl, HB9.out⟩
  | false =>
    have HR : Hid (RV = false) := hid (by rw [HRV.out]; simp [])
    go_wp2; go_ret; exact ⟨by rw [HR.out]; rfl, HB9.out⟩
end Go.Proofs.YtmljjpdodcpohaaGreatDoor.Tr

