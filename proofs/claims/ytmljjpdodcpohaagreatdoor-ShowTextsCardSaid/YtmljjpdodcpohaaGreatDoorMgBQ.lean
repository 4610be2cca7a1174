/- The walk of the document's fields, a kind; Whether kids' kinds are as the document's kids, exprs and function ask it, as groups take them; The walks of the document's exprs, function and kids. No condition but those that each states. -/
import Derived.Test.YtmljjpdodcpohaaGreatDoorMgBO
import Derived.Test.YtmljjpdodcpohaaGreatDoorMgAJ
namespace Go.Proofs.YtmljjpdodcpohaaGreatDoor.Tr
open Lib (hid)
set_option maxRecDepth 100000
set_option maxHeartbeats 8000000
open Go.RowKit Dk Lx
theorem rf_28 (k d z : Int) (q s : List UInt8) (hk : k = 28) (hq : q.length ≤ 9000) (hs : s.length ≤ 9000) (w : World) :
    Calls Tryz.prog 63 #[.agg #[.int .i64 k, .int .i64 d, .string (strOf q), .int .i64 z, .string (strOf s)]] w fun e w' => e = .returned (.bool (isUn s && ((q == []) && (([] : List UInt8) == []) && decide (z = 0)))) ∧ Below w.heap.size w w' := by
  have HB0 : Hid (Below w.heap.size w (w.alloc (.cells (Nd.cells ⟨k, d, q, z, s⟩).toArray 58))) := hid ((Below.refl _ _).alloc (Nat.le_refl _) _); have HX0 := hid (nb_new w ⟨k, d, q, z, s⟩ 58); have CA := hid (fun W => rname_any q W (by omega)); have CB := hid (fun W => rname_any s W (by omega)); have CC := hid (fun W => bare_any ⟨k, d, q, z, []⟩ W); have hb1 := str_beq s [45]; have hb2 := str_beq s [110, 111, 116]; have hb3 := str_beq s [108, 101, 110]; rw [strOf_tl [45]] at hb1; rw [strOf_tl [110, 111, 116]] at hb2; rw [strOf_tl [108, 101, 110]] at hb3; obtain ⟨rb, hrb⟩ : ∃ rb, rb = ((q == []) && (([] : List UInt8) == []) && decide (z = 0)) := ⟨_, rfl⟩; have hsz := strOf_size s; have HIX := hid (n_info ⟨k, d, q, z, s⟩); have HIY := hid (n_info ⟨k, d, q, z, []⟩); have HAX := hid (n_infoA ⟨k, d, q, z, s⟩); have HLX := hid (n_all ⟨k, d, q, z, s⟩); rw [← hrb]; have HCC : Hid (∀ W, Calls Tryz.prog 102 #[.agg (Nd.cells ⟨k, d, q, z, []⟩).toArray] W fun e w' => e = .returned (.bool rb) ∧ Below W.heap.size W w') := hid (fun W => by rw [hrb]; exact CC.out W)
  clear CC; clear hrb; generalize isName q = bna at *; generalize isName s = bnb at *
  have hun : (decide (s = [45]) = true ∧ decide (s = [110, 111, 116]) = false ∧ decide (s = [108, 101, 110]) = false ∧ isUn s = true) ∨ (decide (s = [45]) = false ∧ decide (s = [110, 111, 116]) = true ∧ decide (s = [108, 101, 110]) = false ∧ isUn s = true) ∨ (decide (s = [45]) = false ∧ decide (s = [110, 111, 116]) = false ∧ decide (s = [108, 101, 110]) = true ∧ isUn s = true) ∨ (decide (s = [45]) = false ∧ decide (s = [110, 111, 116]) = false ∧ decide (s = [108, 101, 110]) = false ∧ isUn s = false) := by
    by_cases u1 : s = [45]
    · subst u1; exact .inl (by decide)
    by_cases u2 : s = [110, 111, 116]
    · subst u2; exact .inr (.inl (by decide))
    by_cases u3 : s = [108, 101, 110]
    · subst u3; exact .inr (.inr (.inl (by decide)))
    exact .inr (.inr (.inr ⟨decide_eq_false u1, decide_eq_false u2, decide_eq_false u3, by unfold isUn unList; simp [u1, u2, u3]⟩))
  generalize isUn s = bu at *; obtain ⟨RV, hRV⟩ : ∃ RV, RV = (bu && rb) := ⟨_, rfl⟩; rw [← hRV]; have HRV := hid hRV; clear hRV; subst hk; go_enter Tryz.func63, Tryz.ntmps63
  go_wp2_with fail
  unfold Nd.cells at HX0 HB0; generalize World.alloc w _ = W0 at HB0 HX0 ⊢; refine (CA.out _).mono ?_; rintro e W1 ⟨rfl, hb⟩; have HX1 := hid (HX0.out.later hb); have HB1 := hid (chain2 HB0.out hb); clear hb CA; obtain ⟨c0, c1, c2, c3, c4⟩ := HX1.out.at; go_wp2_with fail
  refine (CB.out _).mono ?_; rintro e W2 ⟨rfl, hb⟩; have HX2 := hid (HX1.out.later hb); have HB2 := hid (chain2 HB1.out hb); clear hb CB c0 c1 c2 c3 c4 HX1 HX0; have HZ := hid (nb_zero W2); have HP := hid (nb_put W2 ⟨28, d, q, z, s⟩); have HBL : Hid (w.heap.size ≤ W2.heap.size) := hid HB2.out.size; have HNE : Hid (W2.heap.size ≠ w.heap.size) := hid (by have := HX2.out.lt; omega)
  go_upto_region 36 with (first
    | (refine wpList_load_mid rfl 58 (.tmp 1) rfl w.heap.size 0 rfl (Nd.cells ⟨28, d, q, z, s⟩) _ HX2.out.cells Tryz.underlying58 rfl HIX.out ?_)
    | (refine wpList_store_mid rfl 58 (.tmp 5) (.tmp 12) rfl W2.heap.size 0 (Nd.cells ⟨28, d, q, z, s⟩).toArray rfl rfl HZ.out.room HAX.out HLX.out ?_; generalize World.setCells _ _ _ _ = W3 at HP ⊢; have HX3 := hid (HX2.out.later HP.out.2); have HY3 := hid HP.out.1; have HB3 := hid (chain2 HB2.out HP.out.2); clear HP; obtain ⟨c0, c1, c2, c3, c4⟩ := HX3.out.at; obtain ⟨d0, d1, d2, d3, d4⟩ := HY3.out.at; have f2 := nb_free HY3.out 2 (by decide); have f3 := nb_free HY3.out 3 (by decide); have f4 := nb_free HY3.out 4 (by decide); have hne := HNE.out; have hne2 := Ne.symm HNE.out)
    | fail)
  generalize W2.heap.size = b1 at *
  have HY4 : Hid (NB (W3.setCell ⟨b1, 4, none⟩ (.string ⟨#[]⟩)) b1 ⟨28, d, q, z, []⟩) := hid (nb_cell HY3.out (by decide) (fun i u hu => by
    rcases i with _ | _ | _ | _ | _ | i
    all_goals first | (simp [Nd.cells] at hu ⊢; first | exact hu.symm | exact hu) | (simp [Nd.cells, strOf] at hu ⊢; exact hu.symm) | (simp [Nd.cells] at hu)))
  have HX4 := hid (nb_far (j := 4) (v := .string ⟨#[]⟩) HX3.out hne); have HB4 : Hid (Below w.heap.size w (W3.setCell ⟨b1, 4, none⟩ (.string ⟨#[]⟩))) := hid (HB3.out.setCell (by simpa using HBL.out) _); clear c0 c1 c2 c3 c4 d0 d1 d2 d3 d4 f2 f3 f4; have HY9 := hid HY4.out; have HX9 := hid HX4.out; have HB9 := hid HB4.out; clear HY4 HX4 HB4 HY3 HX3 HB3; generalize (W3.setCell ⟨b1, 4, none⟩ (.string ⟨#[]⟩)) = W9 at HY9 HX9 HB9 ⊢; obtain ⟨c0, c1, c2, c3, c4⟩ := HX9.out.at; rcases hun with ⟨h1, h2, h3, h4⟩ | ⟨h1, h2, h3, h4⟩ | ⟨h1, h2, h3, h4⟩ | ⟨h1, h2, h3, h4⟩
  · rw [h1] at hb1; rw [h2] at hb2; rw [h3] at hb3; clear h1 h2 h3
    cases rb with
    | true =>
      have HR : Hid (RV = true) := hid (by rw [HRV.out]; simp [h4])
      go_wp2_with (first | (refine wpList_load_want (by rfl) 58 (.tmp 5) rfl b1 0 rfl (Nd.cells ⟨28, d, q, z, []⟩) _ HY9.out.cells Tryz.underlying58 rfl HIY.out ?_) | fail)
      refine (HCC.out _).mono ?_; rintro e W11 ⟨rfl, hb⟩; have HB11 := hid (chain2 HB9.out hb); clear hb; go_wp2; go_ret; exact ⟨by rw [HR.out]; rfl, HB11.out⟩
    | false =>
      have HR : Hid (RV = false) := hid (by rw [HRV.out]; simp [h4])
      go_wp2_with (first | (refine wpList_load_want (by rfl) 58 (.tmp 5) rfl b1 0 rfl (Nd.cells ⟨28, d, q, z, []⟩) _ HY9.out.cells Tryz.underlying58 rfl HIY.out ?_) | fail)
      refine (HCC.out _).mono ?_; rintro e W11 ⟨rfl, hb⟩; have HB11 := hid (chain2 HB9.out hb); clear hb; go_wp2; go_ret; exact ⟨by rw [HR.out]; rfl, HB11.out⟩
  · rw [h1] at hb1; rw [h2] at hb2; rw [h3] at hb3; clear h1 h2 h3
    cases rb with
    | true =>
      have HR : Hid (RV = true) := hid (by rw [HRV.out]; simp [h4])
      go_wp2_with (first | (refine wpList_load_want (by rfl) 58 (.tmp 5) rfl b1 0 rfl (Nd.cells ⟨28, d, q, z, []⟩) _ HY9.out.cells Tryz.underlying58 rfl HIY.out ?_) | fail)
      refine (HCC.out _).mono ?_; rintro e W11 ⟨rfl, hb⟩; have HB11 := hid (chain2 HB9.out hb); clear hb; go_wp2; go_ret; exact ⟨by rw [HR.out]; rfl, HB11.out⟩
    | false =>
      have HR : Hid (RV = false) := hid (by rw [HRV.out]; simp [h4])
      go_wp2_with (first | (refine wpList_load_want (by rfl) 58 (.tmp 5) rfl b1 0 rfl (Nd.cells ⟨28, d, q, z, []⟩) _ HY9.out.cells Tryz.underlying58 rfl HIY.out ?_) | fail)
      refine (HCC.out _).mono ?_; rintro e W11 ⟨rfl, hb⟩; have HB11 := hid (chain2 HB9.out hb); clear hb; go_wp2; go_ret; exact ⟨by rw [HR.out]; rfl, HB11.out⟩
  · rw [h1] at hb1; rw [h2] at hb2; rw [h3] at hb3; clear h1 h2 h3
    cases rb with
    | true =>
      have HR : Hid (RV = true) := hid (by rw [HRV.out]; simp [h4])
      go_wp2_with (first | (refine wpList_load_want (by rfl) 58 (.tmp 5) rfl b1 0 rfl (Nd.cells ⟨28, d, q, z, []⟩) _ HY9.out.cells Tryz.underlying58 rfl HIY.out ?_) | fail)
      refine (HCC.out _).mono ?_; rintro e W11 ⟨rfl, hb⟩; have HB11 := hid (chain2 HB9.out hb); clear hb; go_wp2; go_ret; exact ⟨by rw [HR.out]; rfl, HB11.out⟩
    | false =>
      have HR : Hid (RV = false) := hid (by rw [HRV.out]; simp [h4])
      go_wp2_with (first | (refine wpList_load_want (by rfl) 58 (.tmp 5) rfl b1 0 rfl (Nd.cells ⟨28, d, q, z, []⟩) _ HY9.out.cells Tryz.underlying58 rfl HIY.out ?_) | fail)
      refine (HCC.out _).mono ?_; rintro e W11 ⟨rfl, hb⟩; have HB11 := hid (chain2 HB9.out hb); clear hb; go_wp2; go_ret; exact ⟨by rw [HR.out]; rfl, HB11.out⟩
  · rw [h1] at hb1; rw [h2] at hb2; rw [h3] at hb3; clear h1 h2 h3
    have HR : Hid (RV = false) := hid (by rw [HRV.out]; simp [h4])
    go_wp2; go_ret; exact ⟨by rw [HR.out]; rfl, HB9.out⟩
end Go.Proofs.YtmljjpdodcpohaaGreatDoor.Tr

namespace Go.Proofs.YtmljjpdodcpohaaGreatDoor.Tr
open Go.RowKit Dk Lx
def fieldsR (x : Nd) : Bool := fieldsP x && (decide (1 ≤ x.kind) && decide (x.kind ≤ 30))
def funR (K : List Int) : Bool := match K with
  | [] => false
  | x :: r => if r = [] then x == 5 else x == 4 && decide (r.length ≤ 8) && funR r
def modR (K : List Int) : Bool := match K with
  | [] => true
  | x :: r => if x = 2 then modR r else (x :: r).all (· == 3)
def kidsR (k : Int) (K : List Int) : Bool :=
  if k = 1 then modR K
  else if k = 3 ∨ k = 24 then funR K
  else if k = 5 then K.all isStmt
  else if k = 8 then K.all isExpr && decide (K.length = 3)
  else if k = 9 then (match K with
    | [a, b] => isExpr a && b == 5
    | [a, b, c] => isExpr a && b == 5 && c == 5
    | _ => false)
  else if k = 10 then (match K with
    | [a, b] => isExpr a && b == 5
    | _ => false)
  else if k = 6 ∨ k = 7 ∨ k = 13 ∨ k = 14 ∨ k = 15 ∨ k = 17 ∨ k = 28 ∨ k = 30 then K.all isExpr && decide (K.length = 1)
  else if k = 22 then K.all isExpr && decide (1 ≤ K.length) && decide (K.length ≤ 9)
  else if k = 23 then K.all isExpr && decide (K.length ≤ 8)
  else if k = 26 ∨ k = 27 then K.all isExpr && decide (K.length = 2)
  else decide (K.length = 0)
theorem cntG_full (pr : Int → Bool) : ∀ (h : Nat) (K : List Int), cntG pr h K = K.length ↔ K.all pr = true ∧ K.length ≤ h
  | 0, K => by
    rw [cntG_zero]; constructor
    · intro h; have := List.eq_nil_of_length_eq_zero h.symm; subst this; simp
    · rintro ⟨_, h⟩; omega
  | h + 1, [] => by simp [cntG]
  | h + 1, x :: r => by
    have ih := cntG_full pr h r; have hle := cntG_le pr h r; rw [cntG, List.all_cons, List.length_cons]; by_cases hx : pr x = true
    · rw [if_pos hx, hx, Bool.true_and]
      constructor
      · intro h1; have := ih.1 (by omega); exact ⟨this.1, by omega⟩
      · rintro ⟨h1, h2⟩; have := ih.2 ⟨h1, by omega⟩; omega
    · rw [if_neg hx]
      constructor
      · intro h1; omega
      · rintro ⟨h1, -⟩; simp [hx] at h1
theorem one_group (f : FK) (lo hi : Nat) (K : List Int) : matchG [⟨f, lo, hi⟩] K = (K.all f.pr && decide (lo ≤ K.length) && decide (K.length ≤ hi)) := by
  rw [matchG_cons]; show (if ((cntG f.pr ((hi : Int)).toNat K : Nat) : Int) < (lo : Int) then false else matchG [] (K.drop (cntG f.pr ((hi : Int)).toNat K))) = _
  rw [Int.toNat_natCast]; have h1 := cntG_le f.pr hi K; have h2 := cntG_full f.pr hi K; by_cases hf : cntG f.pr hi K = K.length
  · obtain ⟨h3, h4⟩ := h2.1 hf
    rw [hf, h3, decide_eq_true h4]; by_cases hl : lo ≤ K.length
    · rw [if_neg (by omega), decide_eq_true hl]
      show decide ((K.drop K.length).length = 0) = _
      simp
    · rw [if_pos (by omega), decide_eq_false hl]; rfl
  · have h3 : (K.all f.pr && decide (K.length ≤ hi)) = false := by
      cases h : (K.all f.pr && decide (K.length ≤ hi)) with
      | false => rfl
      | true =>
        rw [Bool.and_eq_true] at h; exact absurd (h2.2 ⟨h.1, of_decide_eq_true h.2⟩) hf
    rw [Bool.and_assoc, Bool.and_comm (decide (lo ≤ K.length)), ← Bool.and_assoc, h3, Bool.false_and]; split
    · rfl
    · show decide ((K.drop (cntG f.pr hi K)).length = 0) = false
      rw [List.length_drop]; exact decide_eq_false (by omega)
theorem exact_one (c : Int) (K : List Int) : matchG [⟨.k c, 1, 1⟩] K = match K with
    | [x] => x == c
    | _ => false := by
  have := one_group (.k c) 1 1 K; rw [show ((1 : Nat) : Int) = 1 from rfl] at this; rw [this]; match K with
  | [] => rfl
  | [x] => simp [FK.pr]
  | x :: y :: r => simp
theorem fun_group : ∀ (h : Nat) (K : List Int), h ≤ 8 → (if ((cntG (FK.k 4).pr h K : Nat) : Int) < 0 then false else matchG [⟨.k 5, 1, 1⟩] (K.drop (cntG (FK.k 4).pr h K))) = (funR K && decide (K.length ≤ h + 1))
  | 0, K, _ => by
    rw [cntG_zero, if_neg (by decide), List.drop_zero, exact_one]; match K with
    | [] => rfl
    | [x] => simp [funR]
    | x :: y :: r => simp
  | h + 1, [], _ => by rw [cntG_nil, if_neg (by decide), List.drop_zero, exact_one]; rfl
  | h + 1, x :: r, hh => by
    have ih := fun_group h r (by omega); rw [if_neg (by omega)] at ih ⊢; rw [cntG]; by_cases hx : x = 4
    · have hp : (FK.k 4).pr x = true := by subst hx; rfl
      rw [if_pos hp, List.drop_succ_cons, ih]; subst hx; rw [funR]; by_cases hr : r = []
      · subst hr; rfl
      · rw [if_neg hr]
        by_cases hl : r.length ≤ h + 1
        · have h8 : r.length ≤ 8 ∨ ¬r.length ≤ 8 := Decidable.em _
          rcases h8 with h8 | h8
          · simp [hl, h8]
          · have : r.length = 9 := by omega
            omega
        · simp [hl]
    · have hp : (FK.k 4).pr x = false := beq_false_of_ne hx
      rw [hp, if_neg Bool.false_ne_true, List.drop_zero, exact_one]; match r with
      | [] => simp [funR]
      | y :: r => rw [funR]; simp [hx]
theorem fun_match (K : List Int) : matchG [⟨.k 4, 0, 8⟩, ⟨.k 5, 1, 1⟩] K = funR K := by
  rw [matchG_cons]; show (if ((cntG (FK.k 4).pr 8 K : Nat) : Int) < 0 then false else matchG [⟨.k 5, 1, 1⟩] (K.drop (cntG (FK.k 4).pr 8 K))) = _
  rw [fun_group 8 K (Nat.le_refl _)]; match K with
  | [] => rfl
  | x :: r =>
    by_cases hr : r = []
    · subst hr; simp [funR]
    · have e : funR (x :: r) = (x == 4 && decide (r.length ≤ 8) && funR r) := by rw [funR, if_neg hr]
      rw [e]; by_cases h8 : r.length ≤ 8
      · simp [h8]
      · simp [h8]
theorem mod_group : ∀ (h : Nat) (K : List Int), K.length ≤ h → matchG [⟨.k 3, 0, 2000⟩] (K.drop (cntG (FK.k 2).pr h K)) = (modR K && decide ((K.drop (cntG (FK.k 2).pr h K)).length ≤ 2000))
  | h, [], _ => by
    rw [cntG_nil, List.drop_zero]; have := one_group (.k 3) 0 2000 []; exact this
  | 0, x :: r, hl => by simp at hl
  | h + 1, x :: r, hl => by
    rw [cntG]; by_cases hx : x = 2
    · have hp : (FK.k 2).pr x = true := by subst hx; rfl
      rw [if_pos hp, List.drop_succ_cons, mod_group h r (by simpa using hl), modR, if_pos hx]
    · have hp : (FK.k 2).pr x = false := beq_false_of_ne hx
      rw [hp, if_neg Bool.false_ne_true, List.drop_zero, modR, if_neg hx]; have := one_group (.k 3) 0 2000 (x :: r); rw [show (((0 : Nat) : Int)) = 0 from rfl, show (((2000 : Nat) : Int)) = 2000 from rfl] at this; rw [this]; have e : (x :: r).all (FK.k 3).pr = (x :: r).all (· == 3) := rfl; rw [e]; simp
theorem mod_match (K : List Int) (hl : K.length ≤ 2000) : matchG [⟨.k 2, 0, 2000⟩, ⟨.k 3, 0, 2000⟩] K = modR K := by
  rw [matchG_cons]; show (if ((cntG (FK.k 2).pr 2000 K : Nat) : Int) < 0 then false else matchG [⟨.k 3, 0, 2000⟩] (K.drop (cntG (FK.k 2).pr 2000 K))) = _
  rw [if_neg (by omega), mod_group 2000 K hl, decide_eq_true (by rw [List.length_drop]; omega), Bool.and_true]
theorem e_first (_hi : Nat) (gs : List Gp) (x : Int) (r : List Int) : matchG (⟨.e, 1, 1⟩ :: gs) (x :: r) = (isExpr x && matchG gs r) := by
  rw [matchG_cons]; show (if ((cntG isExpr 1 (x :: r) : Nat) : Int) < 1 then false else matchG gs ((x :: r).drop (cntG isExpr 1 (x :: r)))) = _
  rw [cntG, cntG_zero]; cases h : isExpr x with
  | true => rw [if_pos rfl, if_neg (by decide)]; rfl
  | false => rw [if_neg Bool.false_ne_true, if_pos (by decide)]; rfl
theorem kids_match (k : Int) (K : List Int) (hl : K.length ≤ 2000) : matchG (groupsL k) K = kidsR k K := by
  unfold groupsL kidsR; have o := fun f lo hi => one_group f lo hi K
  by_cases a1 : k = 1
  · rw [if_pos a1, if_pos a1, mod_match K hl]
  rw [if_neg a1, if_neg a1]; by_cases a2 : k = 3 ∨ k = 24
  · rw [if_pos a2, if_pos a2, fun_match]
  rw [if_neg a2, if_neg a2]; by_cases a3 : k = 5
  · rw [if_pos a3, if_pos a3]
    have := o .s 0 2000; rw [show (((0 : Nat) : Int)) = 0 from rfl, show (((2000 : Nat) : Int)) = 2000 from rfl] at this; rw [this, decide_eq_true hl]; simp []
    rfl
  rw [if_neg a3, if_neg a3]; by_cases a4 : k = 6 ∨ k = 7 ∨ k = 13 ∨ k = 14 ∨ k = 15 ∨ k = 17 ∨ k = 28 ∨ k = 30
  · rw [if_pos a4, if_neg (by omega), if_neg (by omega), if_neg (by omega), if_pos a4]
    have := o .e 1 1; rw [show (((1 : Nat) : Int)) = 1 from rfl] at this; rw [this, Bool.and_assoc]; congr 1
    rw [← Bool.decide_and]; exact decide_eq_decide.2 (by omega)
  rw [if_neg a4]; by_cases a5 : k = 26 ∨ k = 27
  · rw [if_pos a5, if_neg (by omega), if_neg (by omega), if_neg (by omega), if_neg a4, if_neg (by omega), if_neg (by omega), if_pos a5]
    have := o .e 2 2; rw [show (((2 : Nat) : Int)) = 2 from rfl] at this; rw [this, Bool.and_assoc]; congr 1
    rw [← Bool.decide_and]; exact decide_eq_decide.2 (by omega)
  rw [if_neg a5]; by_cases a6 : k = 8
  · rw [if_pos a6, if_pos a6]
    have := o .e 3 3; rw [show (((3 : Nat) : Int)) = 3 from rfl] at this; rw [this, Bool.and_assoc]; congr 1
    rw [← Bool.decide_and]; exact decide_eq_decide.2 (by omega)
  rw [if_neg a6, if_neg a6]; by_cases a7 : k = 9
  · rw [if_pos a7, if_pos a7]
    match K with
    | [] => rfl
    | [x] => rw [e_first 1]; simp [matchG, cntG]
    | [x, y] =>
      rw [e_first 1]; have := one_group (.k 5) 1 2 [y]; rw [show (((1 : Nat) : Int)) = 1 from rfl, show (((2 : Nat) : Int)) = 2 from rfl] at this; rw [this]; simp [FK.pr]
    | [x, y, z] =>
      rw [e_first 1]; have := one_group (.k 5) 1 2 [y, z]; rw [show (((1 : Nat) : Int)) = 1 from rfl, show (((2 : Nat) : Int)) = 2 from rfl] at this; rw [this]; simp [FK.pr, Bool.and_assoc]
    | x :: y :: z :: t :: r =>
      rw [e_first 1]; have := one_group (.k 5) 1 2 (y :: z :: t :: r); rw [show (((1 : Nat) : Int)) = 1 from rfl, show (((2 : Nat) : Int)) = 2 from rfl] at this; rw [this]; simp
  rw [if_neg a7, if_neg a7]; by_cases a8 : k = 10
  · rw [if_pos a8, if_pos a8]
    match K with
    | [] => rfl
    | [x] => rw [e_first 1]; simp [matchG, cntG]
    | [x, y] => rw [e_first 1, exact_one]
    | x :: y :: z :: r => rw [e_first 1, exact_one]; simp
  rw [if_neg a8, if_neg a8, if_neg a4]; by_cases a9 : k = 22
  · rw [if_pos a9, if_pos a9]
    have := o .e 1 9; rw [show (((1 : Nat) : Int)) = 1 from rfl, show (((9 : Nat) : Int)) = 9 from rfl] at this; exact this
  rw [if_neg a9, if_neg a9]; by_cases b1 : k = 23
  · rw [if_pos b1, if_pos b1]
    have := o .e 0 8; rw [show (((0 : Nat) : Int)) = 0 from rfl, show (((8 : Nat) : Int)) = 8 from rfl] at this; rw [this]; simp []
    rfl
  rw [if_neg b1, if_neg b1, if_neg a5]; rfl
end Go.Proofs.YtmljjpdodcpohaaGreatDoor.Tr

namespace Go.Proofs.YtmljjpdodcpohaaGreatDoor.Tr
open Lib (hid)
set_option maxHeartbeats 1000000
open Go.RowKit Dk Lx
theorem exprs_any (K : List Int) (v : Value) (lo hi : Nat) (w : World) (h : Ins w v K) (hl : K.length ≤ 4000) :
    Calls Tryz.prog 105 #[v, .int .i64 (lo : Int), .int .i64 (hi : Int)] w fun e w' => e = .returned (.bool (K.all isExpr && decide (lo ≤ K.length) && decide (K.length ≤ hi))) ∧ w = w' := by
  obtain ⟨p, c, rfl, -⟩ := id h; have HK := hid h; obtain ⟨n, hn⟩ : ∃ n, n = K.length := ⟨_, rfl⟩; rw [← hn] at HK hl; obtain ⟨R, hR⟩ : ∃ R, R = (K.all isExpr && decide (lo ≤ K.length) && decide (K.length ≤ hi)) := ⟨_, rfl⟩; rw [← hR, ← hn]; have HR := hid hR; have HN := hid hn; clear h hn hR; go_enter Tryz.func105, Tryz.ntmps105
  go_wp2; go_loopw [7] (fun vi wr => ∃ i : Nat, i ≤ n ∧ vi = .int .i64 (i : Int) ∧ wr = w ∧ Hid (∀ x ∈ K.take i, isExpr x = true)) (fun vi _ => n - (intOf vi).toNat)
  case atStart => exact ⟨0, Nat.zero_le _, rfl, rfl, hid (fun x hx => by simp at hx)⟩
  case round =>
    obtain ⟨i, hi', rfl, rfl, hA⟩ := hrel; by_cases hlt : i < n
    · have h1 : i < K.length := by rw [← HN.out]; exact hlt
      obtain ⟨g1, o1, rfl, -, c1⟩ := HK.out.int i h1; have z0 : (0 : Int) ≤ (i : Int) := by omega
      have z1 : (i : Int) < (n : Int) := by omega
      have C := hid (rexpr_any K[i] wr); cases hx : isExpr K[i] with
      | true =>
        have HA : Hid (∀ x ∈ K.take (i + 1), isExpr x = true) := hid (fun x hm => by
          rw [List.take_succ_eq_append_getElem h1] at hm; rcases List.mem_append.1 hm with hm | hm
          · exact hA.out x hm
          · rw [List.mem_singleton.1 hm]; exact hx)
        rw [hx] at C; generalize K[i] = x at *; clear hx hA h1; go_wp2_with fail
        refine C.out.mono ?_; rintro e w1 ⟨rfl, rfl⟩; go_wp2; go_roundw
        case rel => exact ⟨i + 1, by omega, by go_num, by trivial, HA⟩
        case measure => simp [intOf]; omega
      | false =>
        have HF : Hid (R = false) := hid (by
          have : K.all isExpr = false := by
            cases h : K.all isExpr with
            | false => rfl
            | true => have := List.all_eq_true.1 h _ (List.getElem_mem h1); rw [hx] at this; cases this
          rw [HR.out, this]; rfl)
        rw [hx] at C; generalize K[i] = x at *; clear hx hA h1; go_wp2_with fail
        refine C.out.mono ?_; rintro e w1 ⟨rfl, rfl⟩; go_wp2; go_ret; exact ⟨by rw [HF.out]; rfl, rfl⟩
    · obtain rfl : i = n := by omega
      have HT : Hid (R = (decide (lo ≤ i) && decide (i ≤ hi))) := hid (by
        have : K.all isExpr = true := List.all_eq_true.2 (by have := hA.out; rwa [List.take_of_length_le (by rw [← HN.out]; exact Nat.le_refl _)] at this)
        rw [HR.out, this, ← HN.out]; rfl)
      clear hA; by_cases q1 : lo ≤ i
      · have v1 : (i : Int) ≥ (lo : Int) := by omega
        by_cases q2 : i ≤ hi
        · have v2 : (i : Int) ≤ (hi : Int) := by omega
          have HF : Hid (R = true) := hid (by rw [HT.out]; simp [q1, q2])
          clear q1 q2; go_wp2; go_ret; exact ⟨by rw [HF.out]; rfl, rfl⟩
        · have v2 : ¬(i : Int) ≤ (hi : Int) := by omega
          have HF : Hid (R = false) := hid (by rw [HT.out]; simp [q2])
          clear q1 q2; go_wp2; go_ret; exact ⟨by rw [HF.out]; rfl, rfl⟩
      · have v1 : ¬(i : Int) ≥ (lo : Int) := by omega
        have HF : Hid (R = false) := hid (by rw [HT.out]; simp [q1])
        clear q1; go_wp2; go_ret; exact ⟨by rw [HF.out]; rfl, rfl⟩
theorem fun_iff : ∀ K : List Int, funR K = true ↔ 1 ≤ K.length ∧ K.length ≤ 9 ∧ K[K.length - 1]? = some 5 ∧ ∀ i, i + 1 < K.length → K[i]? = some 4
  | [] => by simp [funR]
  | x :: r => by
    have ih := fun_iff r; rw [funR]; by_cases hr : r = []
    · subst hr; simp
    · have hpos : 0 < r.length := List.length_pos_iff.2 hr
      rw [if_neg hr, Bool.and_eq_true, Bool.and_eq_true, ih]; constructor
      · rintro ⟨⟨h1, h2⟩, h3, h4, h5, h6⟩
        have h1' : x = 4 := eq_of_beq h1; have h2' := of_decide_eq_true h2; refine ⟨by simp, by simp; omega, ?_, fun i hi => ?_⟩
        · rw [List.length_cons, show r.length + 1 - 1 = (r.length - 1) + 1 by omega, List.getElem?_cons_succ]; exact h5
        · cases i with
          | zero => rw [List.getElem?_cons_zero, h1']
          | succ i => rw [List.getElem?_cons_succ]; exact h6 i (by simp at hi; omega)
      · rintro ⟨h1, h2, h3, h4⟩
        rw [List.length_cons] at h2 h3; refine ⟨⟨?_, decide_eq_true (by omega)⟩, by omega, by omega, ?_, fun i hi => ?_⟩
        · have := h4 0 (by simp; omega)
          rw [List.getElem?_cons_zero] at this; rw [Option.some.inj this]; rfl
        · rw [show r.length + 1 - 1 = (r.length - 1) + 1 by omega, List.getElem?_cons_succ] at h3; exact h3
        · have := h4 (i + 1) (by simp; omega)
          rwa [List.getElem?_cons_succ] at this
theorem function_any (K : List Int) (v : Value) (w : World) (h : Ins w v K) (hl : K.length ≤ 4000) :
    Calls Tryz.prog 104 #[v] w fun e w' => e = .returned (.bool (funR K)) ∧ w = w' := by
  obtain ⟨p, c, rfl, -⟩ := id h; have HK := hid h; have HI := hid (fun_iff K); obtain ⟨n, hn⟩ : ∃ n, n = K.length := ⟨_, rfl⟩; rw [← hn] at HK hl HI; obtain ⟨R, hR⟩ : ∃ R, R = funR K := ⟨_, rfl⟩; rw [← hR, ← hn]; rw [← hR] at HI; have HN := hid hn; clear h hn hR; by_cases q1 : 1 ≤ n
  case neg =>
    have HF : Hid (R = false) := hid (by cases h : R with
      | false => rfl
      | true => exact absurd (HI.out.1 h).1 q1)
    have v1 : (n : Int) < 1 := by omega
    clear q1; go_enter Tryz.func104, Tryz.ntmps104
    go_wp2; go_ret; exact ⟨by rw [HF.out]; rfl, rfl⟩
  have v1 : ¬(n : Int) < 1 := by omega
  by_cases q2 : n ≤ 9
  case neg =>
    have HF : Hid (R = false) := hid (by cases h : R with
      | false => rfl
      | true => exact absurd (HI.out.1 h).2.1 q2)
    have v2 : (n : Int) > 9 := by omega
    clear q1 q2; go_enter Tryz.func104, Tryz.ntmps104
    go_wp2; go_ret; exact ⟨by rw [HF.out]; rfl, rfl⟩
  have v2 : ¬(n : Int) > 9 := by omega
  obtain ⟨m, rfl⟩ : ∃ m, n = m + 1 := ⟨n - 1, by omega⟩; have hmK : m < K.length := by rw [← HN.out]; omega
  obtain ⟨g, o, rfl, -, c0⟩ := HK.out.int m hmK; have e1 : IntKind.i64.wrap (((m + 1 : Nat) : Int) - 1) = (m : Int) := by rw [wrap_in _ (by omega)]; omega
  have e2 : IntKind.i64.wrap ((m : Int) + 1 - 1) = (m : Int) := by rw [wrap_in _ (by omega)]; omega
  have z0 : (0 : Int) ≤ (m : Int) := by omega
  have z1 : (m : Int) < ((m + 1 : Nat) : Int) := by omega
  have HL : Hid (K[m]? = some K[m]) := hid (List.getElem?_eq_getElem hmK); generalize K[m] = x at *; by_cases q3 : x = 5
  case neg =>
    have HF : Hid (R = false) := hid (by cases h : R with
      | false => rfl
      | true =>
        have := (HI.out.1 h).2.2.1; rw [Nat.add_sub_cancel, HL.out] at this
        exact absurd (Option.some.inj this) q3)
    have v3 : (x == 5) = false := by simpa using q3
    have v4 : (x != 5) = true := by simpa using q3
    clear q1 q2 q3 hmK; go_enter Tryz.func104, Tryz.ntmps104
    go_wp2; go_ret; exact ⟨by rw [HF.out]; rfl, rfl⟩
  subst q3; clear q1 hmK; go_enter Tryz.func104, Tryz.ntmps104
  go_wp2; go_loopw [4] (fun vi wr => ∃ i : Nat, i ≤ m ∧ vi = .int .i64 (i : Int) ∧ wr = w ∧ Hid (∀ j, j < i → K[j]? = some 4)) (fun vi _ => m - (intOf vi).toNat)
  case atStart => exact ⟨0, Nat.zero_le _, rfl, rfl, hid (fun j hj => absurd hj (Nat.not_lt_zero j))⟩
  case round =>
    obtain ⟨i, hi', rfl, rfl, hA⟩ := hrel; by_cases hlt : i < m
    · have h1 : i < K.length := by rw [← HN.out]; omega
      obtain ⟨g1, o1, hp, -, c1⟩ := HK.out.int i h1; cases hp
      have y0 : (0 : Int) ≤ (i : Int) := by omega
      have y1 : (i : Int) < (m : Int) := by omega
      have y2 : (i : Int) < ((m + 1 : Nat) : Int) := by omega
      have HL2 : Hid (K[i]? = some K[i]) := hid (List.getElem?_eq_getElem h1); generalize K[i] = y at *; by_cases q4 : y = 4
      · subst q4
        have HA : Hid (∀ j, j < i + 1 → K[j]? = some 4) := hid (fun j hj => by
          by_cases hji : j = i
          · subst hji; exact HL2.out
          · exact hA.out j (by omega))
        clear hA h1; go_wp2; go_roundw
        case rel => exact ⟨i + 1, by omega, by go_num, by trivial, HA⟩
        case measure => simp [intOf]; omega
      · have HF : Hid (R = false) := hid (by cases h : R with
          | false => rfl
          | true =>
            have := (HI.out.1 h).2.2.2 i (by omega); rw [HL2.out] at this
            exact absurd (Option.some.inj this) q4)
        have v3 : (y == 4) = false := by simpa using q4
        have v4 : (y != 4) = true := by simpa using q4
        clear hA h1 q4; go_wp2; go_ret; exact ⟨by rw [HF.out]; rfl, rfl⟩
    · obtain rfl : i = m := by omega
      have HF : Hid (R = true) := hid (HI.out.2 ⟨by omega, q2, by rw [Nat.add_sub_cancel]; exact HL.out, fun j hj => hA.out j (by omega)⟩)
      have y1 : ¬(i : Int) < (i : Int) := by omega
      clear hA; go_wp2; go_ret; exact ⟨by rw [HF.out]; rfl, rfl⟩
end Go.Proofs.YtmljjpdodcpohaaGreatDoor.Tr

