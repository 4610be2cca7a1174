/- A tree written by a count of steps; the tokens that the law's fixed trees are written as. The walks of show's moduleReturning, collect with expr, and Expr, of a tree that is right and of none: their contracts. The walk of chrysalislaw11.known: its contract. ShowBack: the walk of the law. ShowAgain: the walk of the law. No condition but those that each states. -/
import Derived.Test.YtemlceicmpcboaaGreatDoorMgT
import Derived.Test.YtemlceicmpcboaaGreatDoorMgO
import Derived.Test.YtemlceicmpcboaaGreatDoorMgV
namespace Go.Proofs.YtemlceicmpcboaaGreatDoor.Sw
open Go.RowKit Go.Shelf Dk Lx Tr Pa

def prF : Nat → List PSy → List Nd → Option (List Tk × List Nd)
  | 0, _, _ => none
  | _ + 1, [], l => some ([], l)
  | f + 1, .tok t :: A, l => (prF f A l).map (fun p => (t :: p.1, p.2))
  | _ + 1, .nd _ :: _, [] => none
  | f + 1, .nd c :: A, x :: l => if catP c x.kind = true ∧ x.kids = ((cats (expX x)).length : Int) ∧ fieldsP x = true then prF f (expX x ++ A) l else none
theorem prF_sound : ∀ (f : Nat) (A : List PSy) (l : List Nd) (ts : List Tk) (l' : List Nd), prF f A l = some (ts, l') → Prn A l ts l'
  | 0, _, _, _, _, h => by cases h
  | _ + 1, [], l, ts, l', h => by
    simp only [prF, Option.some.injEq, Prod.mk.injEq] at h
    obtain ⟨rfl, rfl⟩ := h
    exact .nil _
  | f + 1, .tok t :: A, l, ts, l', h => by
    simp only [prF, Option.map_eq_some_iff] at h
    obtain ⟨⟨a, b⟩, h1, h2⟩ := h
    cases h2
    exact .tok t (prF_sound f A l _ _ h1)
  | _ + 1, .nd _ :: _, [], _, _, h => by cases h
  | f + 1, .nd c :: A, x :: l, ts, l', h => by
    simp only [prF] at h
    split at h
    · rename_i hc
      exact .nd c x hc.1 hc.2.1 hc.2.2 (prF_sound f _ l _ _ h)
    · cases h

def knW : List UInt8 := [109, 111, 100, 117, 108, 101, 32, 109, 32, 49, 32, 59, 32, 102, 110, 32, 102, 32, 40, 32, 97, 32, 41, 32, 123, 32, 114, 101, 116, 117, 114, 110, 32, 40, 32, 97, 32, 43, 32, 40, 32, 49, 32, 42, 32, 50, 32, 41, 32, 41, 32, 59, 32, 125]
theorem knW_is : (prF 200 [.nd .mod] (treeAt (toksOf knA) 300)).map (fun p => (writeL p.1, p.2)) = some (knW, []) := by decide +kernel
theorem kn_prn : ∃ o, Prn [.nd .mod] (treeAt (toksOf knA) 300) o [] ∧ writeL o = knW := by
  have h := knW_is
  rw [Option.map_eq_some_iff] at h
  obtain ⟨⟨a, b⟩, h1, h2⟩ := h
  simp only [Prod.mk.injEq] at h2
  obtain ⟨h3, rfl⟩ := h2
  exact ⟨a, prF_sound _ _ _ _ _ h1, h3⟩
theorem kn_fitN : FitN (treeAt (toksOf knA) 300) := by
  have h : (treeAt (toksOf knA) 300).all (fun x => decide (-9223372036854775808 ≤ x.n) && decide (x.n < 9223372036854775808)) = true := by decide +kernel
  intro x hx
  have := List.all_eq_true.1 h x hx
  simpa using this
theorem kn_short : Short (treeAt (toksOf knA) 300) := by
  have h : (treeAt (toksOf knA) 300).all (fun x => decide (x.name.length ≤ 9000) && decide (x.text.length ≤ 9000)) = true := by decide +kernel
  intro x hx
  have := List.all_eq_true.1 h x hx
  simpa using this
def knE : Nd := ⟨19, 0, [], 5, []⟩
theorem knE_prn : Prn [.nd .ex] [knE] [inT 5] [] := prF_sound 10 _ _ _ _ (by rfl)
theorem knE_text : writeL [inT 5] = [53] := by decide +kernel

end Go.Proofs.YtemlceicmpcboaaGreatDoor.Sw
namespace Go.Proofs.YtemlceicmpcboaaGreatDoor.Sw
open Go.RowKit Go.Shelf Dk Lx Tr Pa

def hdN : List Nd := [⟨1, 1, [109], 1, []⟩, ⟨3, 1, [102], 0, []⟩, ⟨5, 1, [], 0, []⟩, ⟨13, 1, [], 0, []⟩]
theorem run_hdN (W : World) : (Instr.buildSlice 23 4 #[(0, .agg #[.int .i64 1, .int .i64 1, .string ⟨#[109]⟩, .int .i64 1, .string ⟨#[]⟩]), (1, .agg #[.int .i64 3, .int .i64 1, .string ⟨#[102]⟩, .int .i64 0, .string ⟨#[]⟩]), (2, .agg #[.int .i64 5, .int .i64 1, .string ⟨#[]⟩, .int .i64 0, .string ⟨#[]⟩]), (3, .agg #[.int .i64 13, .int .i64 1, .string ⟨#[]⟩, .int .i64 0, .string ⟨#[]⟩])]).run Tryz.prog W = .ok (.slice (some ⟨W.heap.size, 0, none⟩) 4 4) (W.alloc (.cells (ncells hdN).toArray 29)) := by kernel_rfl

theorem nr_base {w w1 w' : World} {u : Value} {o : List Nd} (h : NR w1 w' u o) (hb : Below w.heap.size w w1) : NR w w' u o :=
  ⟨⟨h.row.1, h.row.2.imp id (fun ⟨g, cap, cur, e, hbg, r⟩ => ⟨g, cap, cur, e, Nat.le_trans hb.size hbg, r⟩)⟩, chain2 hb h.below⟩

set_option maxHeartbeats 1000000 in
set_option maxRecDepth 100000 in
theorem returning_any (e : List Nd) (v : Value) (w : World) (hv : v = .slice none 0 0 ∧ e = [] ∨ 0 < e.length ∧ Nds w v e) (hl : e.length ≤ 9000) (hf : Fit e) :
    Calls Tryz.prog 85 #[v] w fun r w' => ∃ u, r = .returned u ∧ NR w w' u (hdN ++ e) := by
  obtain ⟨p, n, c, rfl⟩ : ∃ p n c, v = .slice p n c := by
    rcases hv with ⟨rfl, -⟩ | ⟨-, p, c, rfl, -⟩ <;> exact ⟨_, _, _, rfl⟩
  have CC : Hid (Calls Tryz.prog 143 #[.slice (some ⟨w.heap.size + 1, 0, none⟩) 2 2] ((w.alloc (.cells (ncells hdN).toArray 29)).alloc (.cells #[.slice (some ⟨w.heap.size, 0, none⟩) 4 4, .slice p n c] 23)) fun r w' => ∃ u, r = .returned u ∧ NR w w' u (hdN ++ e)) := Lib.hid (by
    have hb1 : Below w.heap.size w (w.alloc (.cells (ncells hdN).toArray 29)) := (Below.refl _ _).alloc (Nat.le_refl _) _
    have hs1 : (w.alloc (.cells (ncells hdN).toArray 29)).heap.size = w.heap.size + 1 := by simp
    have hb2 := (Below.refl (w.alloc (.cells (ncells hdN).toArray 29)).heap.size (w.alloc (.cells (ncells hdN).toArray 29))).alloc (Nat.le_refl _) (.cells #[.slice (some ⟨w.heap.size, 0, none⟩) 4 4, .slice p n c] 23)
    have r1 := (lies_new w (ncells hdN).toArray 29).1
    have r2 := (lies_new (w.alloc (.cells (ncells hdN).toArray 29)) #[.slice (some ⟨w.heap.size, 0, none⟩) 4 4, .slice p n c] 23).1
    rw [hs1] at r2
    refine (concat_nodes hdN e (.slice (some ⟨w.heap.size, 0, none⟩) 4 4) (.slice p n c) (w.heap.size + 1) _ ⟨_, _, rfl, Nat.le_refl _, ?_, .inr ⟨w.heap.size, 0, rfl, by simp; omega, ?_⟩⟩ (by decide) ?_ (by show 4 + _ ≤ _; omega) (by simp) r2).mono ?_
    · intro x hx; revert x; decide
    · have := rangeAt_block r1 (hb2.block w.heap.size (by omega))
      simpa using this
    · exact hv.imp id (fun h => ⟨h.1, h.2.later (chain2 hb1 hb2)⟩)
    · rintro r w' ⟨u, hu, hr⟩
      exact ⟨u, hu, nr_base hr (chain2 hb1 hb2)⟩)
  have e20 : (ncells hdN).toArray = #[.int .i64 1, .int .i64 1, .string ⟨#[109]⟩, .int .i64 1, .string ⟨#[]⟩, .int .i64 3, .int .i64 1, .string ⟨#[102]⟩, .int .i64 0, .string ⟨#[]⟩, .int .i64 5, .int .i64 1, .string ⟨#[]⟩, .int .i64 0, .string ⟨#[]⟩, .int .i64 13, .int .i64 1, .string ⟨#[]⟩, .int .i64 0, .string ⟨#[]⟩] := by rfl
  rw [e20] at CC
  clear hv e20
  go_enter Tryz.func85, Tryz.ntmps85
  go_wp2_with fail
  refine CC.out.mono ?_
  rintro r w3 ⟨u, rfl, hu⟩
  have HU := Lib.hid hu
  clear hu CC
  go_wp2
  go_ret
  exact ⟨u, rfl, HU.out⟩

set_option maxHeartbeats 4000000 in
set_option maxRecDepth 100000 in
theorem collect_ex (l l' : List Nd) (o : List Tk) (v : Value) (w : World) (hv : Nds w v l) (hp : Prn [.nd .ex] l o l') (hn : FitN l) (hl : l.length ≤ 2000) (ho : o.length ≤ 20000) (HT : HasT w) :
    Calls Tryz.prog 43 #[v, .func (.func 86) #[] #[]] w fun e w' => ∃ u, e = .returned u ∧ TR w w' u o := by
  obtain ⟨p, c, hvv, -⟩ := id hv
  subst hvv
  have HW : Hid (PW w (w.heap.size + 1) w.heap.size (w.heap.size + 2) ((w.alloc (.cells #[.slice none 0 0] 31)).alloc (.cells #[.slice p l.length c, addV w.heap.size] 134)) l []) := Lib.hid (by
    have hb1 : Below w.heap.size w (w.alloc (.cells #[.slice none 0 0] 31)) := (Below.refl _ _).alloc (Nat.le_refl _) _
    have hs1 : (w.alloc (.cells #[.slice none 0 0] 31)).heap.size = w.heap.size + 1 := by simp
    have hb2 := (Below.refl (w.alloc (.cells #[.slice none 0 0] 31)).heap.size (w.alloc (.cells #[.slice none 0 0] 31))).alloc (Nat.le_refl _) (.cells #[.slice p l.length c, addV w.heap.size] 134)
    have r1 := lies_new w #[.slice none 0 0] 31
    have r2 := lies_new (w.alloc (.cells #[.slice none 0 0] 31)) #[.slice p l.length c, addV w.heap.size] 134
    rw [hs1] at r2
    refine ⟨chain2 hb1 hb2, ⟨by omega, by omega⟩, ⟨Nat.le_refl _, by omega⟩, by omega, by simp, ⟨_, r2.1, hv⟩, r2.2, ⟨.slice none 0 0, rangeAt_block r1.1 (hb2.block _ (by rw [hs1]; omega)), World.ownsRow_nil _ _ _ _⟩, there_block r1.2 (hb2.block _ (by rw [hs1]; omega)), Nat.zero_le _⟩)
  have HM := Lib.hid ((all_prt HT 2001 (by omega)).ex _ _ _ [] _ (by omega) hp hn (by simp; omega) HW.out)
  unfold addV at HM
  have HV := Lib.hid hv
  clear hv hp hn hl HT
  generalize l.length = n at *
  go_enter Tryz.func43, Tryz.ntmps43
  go_wp2_with fail
  refine HM.out.mono ?_
  rintro e w3 ⟨rfl, hp', hs'⟩
  obtain ⟨u, hu, hrow⟩ := hp'.tk
  have hcu : w3.cell? ⟨w.heap.size, 0, none⟩ = some u := hu 0 _ rfl
  have HR : Hid (TR w w3 u o) := Lib.hid (by
    rw [List.nil_append] at hrow
    exact ⟨⟨hrow.1, hrow.2.imp id (fun ⟨g, cap, cur, e, hb, r⟩ => ⟨g, cap, cur, e, by omega, r⟩)⟩, hp'.below⟩)
  clear hp' hs' hu hrow HM
  go_wp2
  go_ret
  exact ⟨u, rfl, HR.out⟩


set_option maxRecDepth 100000 in
theorem sub_nil (w : World) : Calls Tryz.prog 84 #[.slice none 0 0, .int .i64 0] w fun e w' => e = .returned (.slice none 0 0) ∧ w = w' := by
  have CE := Lib.hid (end_any [] (.slice none 0 0) 0 w ⟨none, 0, rfl, Nat.le_refl _, (fun _ h => by cases h), .inl rfl⟩ (by decide))
  rw [show endI (kidsOf []) 0 = -1 by rfl] at CE
  go_enter Tryz.func84, Tryz.ntmps84
  go_wp2_with (go_at_call 48; refine CE.out.mono ?_; rintro e w1 ⟨rfl, rfl⟩)
  go_ret
  exact ⟨rfl, rfl⟩

theorem ret_nil : checkL (hdN ++ []) = ((checkL (hdN ++ [])).1, (checkL (hdN ++ [])).2) ∧ (checkL (hdN ++ [])).1 ≠ 0 := ⟨rfl, by decide +kernel⟩
theorem ret_five : (checkL (hdN ++ [knE])).1 = 0 := by decide +kernel
theorem sub_five : subL [knE] 0 = [knE] := by decide +kernel

set_option maxHeartbeats 1000000 in
set_option maxRecDepth 100000 in
/-- The expression of none. -/
theorem expr_nil (w : World) : Calls Tryz.prog 42 #[.slice none 0 0] w fun e w' => e = .returned (.string ⟨#[]⟩) ∧ Below w.heap.size w w' := by
  have SN := Lib.hid (fun W => sub_nil W)
  have RN := Lib.hid (fun W => returning_any [] (.slice none 0 0) W (.inl ⟨rfl, rfl⟩) (by decide) (fun _ h => by cases h))
  have hk := ret_nil.2
  have CH := Lib.hid (fun (v : Value) (W W' : World) (h : NR W W' v (hdN ++ [])) => check_any (hdN ++ []) v W' (h.nds (by intro x hx; revert x; decide)) (by decide) (by intro x hx; revert x; decide))
  generalize checkL (hdN ++ []) = r at *
  obtain ⟨k, a⟩ := r
  replace hk : ¬ k = 0 := hk
  go_enter Tryz.func42, Tryz.ntmps42
  go_wp2_with (first
    | (go_at_call 84; refine (SN.out _).mono ?_; rintro e w1 ⟨rfl, rfl⟩)
    | (go_at_call 85; refine (RN.out _).mono ?_; rintro e w1 ⟨u, rfl, hu⟩)
    | (go_at_call 27; refine (CH.out _ _ _ hu).mono ?_; rintro e w2 ⟨rfl, hb⟩; unfold pairV))
  go_ret
  exact ⟨rfl, chain2 hu.below hb⟩

set_option maxHeartbeats 1000000 in
set_option maxRecDepth 100000 in
/-- The expression of a number. -/
theorem expr_five (v : Value) (w : World) (hv : Nds w v [knE]) (HT : HasT w) : Calls Tryz.prog 42 #[v] w fun e w' => e = .returned (.string ⟨#[53]⟩) ∧ Below w.heap.size w w' := by
  have SN := Lib.hid (sub_any [knE] v 0 w hv (by decide))
  have hfE : Fit [knE] := by intro x hx; revert x; decide
  have RN := Lib.hid (fun (u : Value) (W : World) (h : Nds W u [knE]) => returning_any [knE] u W (.inr ⟨by decide, h⟩) (by decide) hfE)
  have hk := ret_five
  have CH := Lib.hid (fun (v : Value) (W W' : World) (h : NR W W' v (hdN ++ [knE])) => check_any (hdN ++ [knE]) v W' (h.nds (by intro x hx; revert x; decide)) (by decide) (by intro x hx; revert x; decide))
  have CO := Lib.hid (fun (u : Value) (W : World) (h : Nds W u [knE]) (hT : HasT W) => collect_ex [knE] [] [inT 5] u W h knE_prn (by intro x hx; revert x; decide) (by decide) (by decide) hT)
  have TX := Lib.hid (fun (u : Value) (W : World) (h : Toks W u [inT 5]) => Lx.text_any u [inT 5] W h (by decide) (by decide +kernel) (by decide +kernel))
  have HT' := Lib.hid (fun (W : World) (h : Below w.heap.size w W) => HT.later h)
  have HFE := Lib.hid hfE
  rw [knE_text] at TX
  unfold SubOk at SN
  rw [sub_five] at SN
  generalize checkL (hdN ++ [knE]) = r at *
  obtain ⟨k, a⟩ := r
  replace hk : k = 0 := hk
  subst hk
  clear hfE HT
  obtain ⟨p, c, rfl, -⟩ := hv
  go_enter Tryz.func42, Tryz.ntmps42
  go_wp2_with (first
    | (go_at_call 84; refine SN.out.mono ?_; rintro e w1 ⟨u1, rfl, hu1⟩; obtain ⟨hN, hB1⟩ : Nds w1 u1 [knE] ∧ Below w.heap.size w w1 := ⟨hu1.nds HFE.out, hu1.below⟩; clear hu1)
    | (go_at_call 85; refine (RN.out _ _ hN).mono ?_; rintro e w2 ⟨u2, rfl, hu2⟩)
    | (go_at_call 27; refine (CH.out _ _ _ hu2).mono ?_; rintro e w3 ⟨rfl, hb3⟩; unfold pairV; have hN3 := hN.later (chain2 hu2.below hb3); have hB3 := chain2 hB1 (chain2 hu2.below hb3); have hT3 := HT'.out _ hB3)
    | (go_at_call 43; refine (CO.out _ _ hN3 hT3).mono ?_; rintro e w4 ⟨u4, rfl, hu4⟩; have hB4 := chain2 hB3 hu4.below)
    | (go_at_call 46; refine (TX.out _ _ hu4.toks).mono ?_; rintro e w5 ⟨rfl, hb5⟩; have hB5 := chain2 hB4 hb5))
  go_ret
  exact ⟨rfl, hB5⟩

end Go.Proofs.YtemlceicmpcboaaGreatDoor.Sw
namespace Go.Proofs.YtemlceicmpcboaaGreatDoor.Sw
open Go.RowKit Go.Shelf Dk Lx Tr Pa

theorem kn_fit : Fit (treeAt (toksOf knA) 300) := by
  have h : (treeAt (toksOf knA) 300).all (fun x => decide (x.kids ≤ 9223372036854775807)) = true := by decide +kernel
  intro x hx
  have := List.all_eq_true.1 h x hx
  simpa using this
theorem kn_nil : checkL [] = (2, (checkL []).2) := by rfl
theorem five_lies (W : World) : Nds (W.alloc (.cells #[.int .i64 19, .int .i64 0, .string ⟨#[]⟩, .int .i64 5, .string ⟨#[]⟩] 29)) (.slice (some ⟨W.heap.size, 0, none⟩) 1 1) [knE] :=
  ⟨_, _, rfl, Nat.le_refl _, (by intro x hx; revert x; decide), .inr ⟨_, _, rfl, by simp, (lies_new W _ _).1⟩⟩

set_option maxHeartbeats 4000000 in
set_option maxRecDepth 100000 in
theorem known11 (w : World) (HE : HasE w) (HT : HasT w) : Calls Tryz.prog 21 #[] w fun e w' => e = .returned (.bool true) ∧ Below w.heap.size w w' := by
  have HHE := Lib.hid HE
  have HHT := Lib.hid (fun (W : World) (h : Below w.heap.size w W) => HT.later h)
  have S1 := Lib.hid knA_any
  obtain ⟨o, hp, ho⟩ := kn_prn
  have S2 := Lib.hid (fun (v : Value) (W W' : World) (h : NR W W' v (treeAt (toksOf knA) 300)) (hT : HasT W') => text_yes _ o v W' (h.nds kn_fit) kn_short knA_is.1 hp kn_fitN hT)
  rw [ho, if_pos (by decide), show strOf knW = ⟨#[109, 111, 100, 117, 108, 101, 32, 109, 32, 49, 32, 59, 32, 102, 110, 32, 102, 32, 40, 32, 97, 32, 41, 32, 123, 32, 114, 101, 116, 117, 114, 110, 32, 40, 32, 97, 32, 43, 32, 40, 32, 49, 32, 42, 32, 50, 32, 41, 32, 41, 32, 59, 32, 125]⟩ by rfl] at S2
  have S3 := Lib.hid (fun W => text_no [] (.slice none 0 0) W ⟨none, 0, rfl, Nat.le_refl _, (fun _ h => by cases h), .inl rfl⟩ (fun _ h => by cases h) (by decide) (by rw [kn_nil]; decide))
  rw [kn_nil] at S3
  have S4 := Lib.hid (fun (W : World) (hT : HasT (W.alloc (.cells #[.int .i64 19, .int .i64 0, .string ⟨#[]⟩, .int .i64 5, .string ⟨#[]⟩] 29))) => expr_five _ _ (five_lies W) hT)
  have S5 := Lib.hid (fun W => expr_nil W)
  generalize treeAt (toksOf knA) 300 = T at *
  generalize (checkL []).2 = a0 at *
  clear HE HT hp ho
  go_enter Tryz.func21, Tryz.ntmps21
  go_wp2_with fail
  refine (S1.out w HHE.out).mono ?_
  rintro e w1 ⟨v1, rfl, hr1⟩
  have HR1 := Lib.hid hr1
  clear hr1 S1
  go_wp2_with fail
  refine (S2.out _ _ _ HR1.out (HHT.out _ HR1.out.below)).mono ?_
  rintro e w2 ⟨rfl, hb⟩
  have HB2 := Lib.hid (chain2 HR1.out.below hb)
  clear hb S2 HR1
  go_wp2_with fail
  refine (S3.out _).mono ?_
  rintro e w3 ⟨rfl, hb⟩
  have HB3 := Lib.hid (chain2 HB2.out hb)
  clear hb S3 HB2
  go_wp2_with fail
  have hb4 : Below w.heap.size w (w3.alloc (.cells #[.int .i64 19, .int .i64 0, .string ⟨#[]⟩, .int .i64 5, .string ⟨#[]⟩] 29)) := HB3.out.alloc HB3.out.size _
  refine (S4.out w3 (HHT.out _ hb4)).mono ?_
  rintro e w5 ⟨rfl, hb⟩
  have HB5 := Lib.hid (chain2 hb4 hb)
  clear hb hb4 S4 HB3
  go_wp2_with fail
  refine (S5.out _).mono ?_
  rintro e w6 ⟨rfl, hb⟩
  have HB6 := Lib.hid (chain2 HB5.out hb)
  clear hb S5 HB5
  go_wp2
  go_ret
  exact ⟨rfl, HB6.out⟩

end Go.Proofs.YtemlceicmpcboaaGreatDoor.Sw
namespace Go.Proofs.YtemlceicmpcboaaGreatDoor.Sw
open Go.RowKit Go.Shelf Dk Lx Tr Pa

/-- What was written is read as the tree that it was. -/
theorem back_any {q : List UInt8} {L : List Tk} {t : List Nd} (hl : q.length ≤ 8192) (hs : scanL 0 q = .toks L) (hrun : To L (.run [.mod] [] 0) (.fin [t])) (hc : (checkL t).1 = 0) (W : World) (HE : HasE W) :
    Calls Tryz.prog 14 #[.string (strOf q)] W fun e w' => ∃ v, e = .returned (.tuple #[v, .int .i64 0, .int .i64 0]) ∧ NR W w' v t ∧ Fit t :=
  (Pa.text_any (strOf q) W HE).mono fun e w' hk => by
    rw [strOf_toList] at hk
    obtain ⟨t', s', hr, hok⟩ := hk.yes L hl hs
    rcases run_one (s := .ok 0) (show ModRun L t (.ok 0) from hrun) hr with ⟨k, h1, -⟩ | ⟨i, j, -, rfl, rfl⟩
    · cases h1
    · have h' : if (checkL t).1 = 0 then _ else _ := hok
      rw [if_pos hc] at h'
      obtain ⟨v, he, hrow, hf⟩ := h'
      exact ⟨v, he, ⟨hrow, hk.below⟩, hf⟩

set_option maxHeartbeats 4000000 in
set_option maxRecDepth 100000 in
theorem showBack_law (l : List Nd) (v : Value) (w : World) (hv : Nds w v l) (hn : FitN l) (HE : HasE w) (HT : HasT w) :
    Calls Tryz.prog 6 #[v] w fun e w' => e = .returned (.bool true) ∧ Below w.heap.size w w' := by
  have LT := Lib.hid (light_any l v w hv)
  have KN := Lib.hid (fun (W : World) (h : Below w.heap.size w W) => known11 W (HE.later h) (HT.later h))
  by_cases hlt : LightOk l
  case neg =>
    have HL := Lib.hid hlt
    clear hlt hv hn HE HT
    go_enter Tryz.func6, Tryz.ntmps6
    go_wp2_with fail
    refine LT.out.mono ?_
    rintro e w1 ⟨⟨b, rfl, hb⟩, rfl⟩
    cases b with
    | true => exact absurd (hb rfl) HL.out
    | false =>
      clear hb LT
      go_wp2_with (go_at_call 21; refine (KN.out _ (Below.refl _ _)).mono ?_; rintro e w2 ⟨rfl, hb2⟩)
      go_ret
      exact ⟨rfl, hb2⟩
  obtain ⟨hl, hs⟩ := hlt
  by_cases hc : (checkL l).1 = 0
  case neg =>
    have TX := Lib.hid (text_no l v w hv hs (by omega) hc)
    have CK := Lib.hid (fun (W : World) (h : Below w.heap.size w W) => check_any l v W (hv.later h) (by omega) hs)
    generalize checkL l = r at *
    obtain ⟨k, a⟩ := r
    replace hc : ¬ k = 0 := hc
    clear hv hn HE HT hl hs
    go_enter Tryz.func6, Tryz.ntmps6
    go_wp2_with fail
    refine LT.out.mono ?_
    rintro e w1 ⟨⟨b, rfl, hb⟩, rfl⟩
    clear hb LT
    cases b with
    | true =>
      go_wp2_with (first
        | (go_at_call 24; refine TX.out.mono ?_; rintro e w2 ⟨rfl, hb2⟩)
        | (go_at_call 27; refine (CK.out _ hb2).mono ?_; rintro e w3 ⟨rfl, hb3⟩; unfold pairV; have hb33 := chain2 hb2 hb3)
        | (go_at_call 21; refine (KN.out _ hb33).mono ?_; rintro e w4 ⟨rfl, hb4⟩; have hb44 := chain2 hb33 hb4))
      go_ret
      exact ⟨rfl, hb44⟩
    | false =>
      go_wp2_with (go_at_call 21; refine (KN.out _ (Below.refl _ _)).mono ?_; rintro e w2 ⟨rfl, hb2⟩)
      go_ret
      exact ⟨rfl, hb2⟩
  obtain ⟨o, ho⟩ := prn_all hc
  have TX := Lib.hid (text_yes l o v w hv hs hc ho hn HT)
  by_cases hz : (writeL o).length ≤ 8192
  case neg =>
    rw [if_neg hz] at TX
    have CK := Lib.hid (fun (W : World) (h : Below w.heap.size w W) => check_any l v W (hv.later h) (by omega) hs)
    generalize checkL l = r at *
    obtain ⟨k, a⟩ := r
    replace hc : k = 0 := hc
    subst hc
    clear hv hn HE HT hl hs ho hz
    go_enter Tryz.func6, Tryz.ntmps6
    go_wp2_with fail
    refine LT.out.mono ?_
    rintro e w1 ⟨⟨b, rfl, hb⟩, rfl⟩
    clear hb LT
    cases b with
    | true =>
      go_wp2_with (first
        | (go_at_call 24; refine TX.out.mono ?_; rintro e w2 ⟨rfl, hb2⟩)
        | (go_at_call 27; refine (CK.out _ hb2).mono ?_; rintro e w3 ⟨rfl, hb3⟩; unfold pairV; have hb33 := chain2 hb2 hb3)
        | (go_at_call 21; refine (KN.out _ hb33).mono ?_; rintro e w4 ⟨rfl, hb4⟩; have hb44 := chain2 hb33 hb4))
      go_ret
      exact ⟨rfl, hb44⟩
    | false =>
      go_wp2_with (go_at_call 21; refine (KN.out _ (Below.refl _ _)).mono ?_; rintro e w2 ⟨rfl, hb2⟩)
      go_ret
      exact ⟨rfl, hb2⟩
  rw [if_pos hz] at TX
  obtain ⟨L, hsc, -, hrun⟩ := show_goods hc ho hn hz
  have PT := Lib.hid (fun (W : World) (h : Below w.heap.size w W) => back_any hz hsc hrun hc W (HE.later h))
  have SM := Lib.hid (fun (u : Value) (W : World) (h : Below w.heap.size w W) (hu : Nds W u l) => rsame_any l l v u W (hv.later h) hu (by omega) (by omega))
  rw [show decide (l = l) = true by simp] at SM
  generalize strOf (writeL o) = s at *
  clear hv hn HE HT hl hs ho hz hc hsc hrun
  go_enter Tryz.func6, Tryz.ntmps6
  go_wp2_with fail
  refine LT.out.mono ?_
  rintro e w1 ⟨⟨b, rfl, hb⟩, rfl⟩
  clear hb LT
  cases b with
  | true =>
    go_wp2_with (first
      | (go_at_call 24; refine TX.out.mono ?_; rintro e w2 ⟨rfl, hb2⟩)
      | (go_at_call 14; refine (PT.out _ hb2).mono ?_; rintro e w3 ⟨u, rfl, hu, hfu⟩; have hb33 := chain2 hb2 hu.below; have hnu := hu.nds hfu)
      | (go_at_call 16; refine (SM.out _ _ hb33 hnu).mono ?_; rintro e w4 ⟨rfl, hb4⟩; have hb44 := chain2 hb33 hb4)
      | (go_at_call 21; refine (KN.out _ hb44).mono ?_; rintro e w5 ⟨rfl, hb5⟩; have hb55 := chain2 hb44 hb5))
    go_ret
    exact ⟨rfl, hb55⟩
  | false =>
    go_wp2_with (go_at_call 21; refine (KN.out _ (Below.refl _ _)).mono ?_; rintro e w2 ⟨rfl, hb2⟩)
    go_ret
    exact ⟨rfl, hb2⟩

open Go.ChangeShapes Go.WideShapes Go.Deep in
set_option maxRecDepth 100000 in
theorem showBack_wide {H : Type} {enc : TypeId × Value → H} {w : World} {b0 : Nat} {v : Value} {d : DataW H} {p : List MemPlace}
    (hv : Value.okWide Tryz.prog w .any b0 23 v) (h : DataW.Trod enc Tryz.prog w 0 (fun _ => true) true 23 v d p) (HK : HasE w ∧ HasT w) :
    Calls Tryz.prog 6 #[v] w fun e w' => e = .returned (.bool true) ∧ Below w.heap.size w w' := by
  obtain ⟨ts, hT, hI⟩ := open_ndsN hv h
  exact showBack_law ts v w hT hI HK.1 HK.2

end Go.Proofs.YtemlceicmpcboaaGreatDoor.Sw
namespace Go.Proofs.YtemlceicmpcboaaGreatDoor.Sw
open Go.RowKit Go.Shelf Dk Lx Tr Pa

/-- A text that is a module's. -/
structure Fine (l : List UInt8) (L : List Tk) (t : List Nd) : Prop where
  small : l.length ≤ 8192
  scan : scanL 0 l = .toks L
  run : To L (.run [.mod] [] 0) (.fin [t])
  right : (checkL t).1 = 0
/-- One that is none. -/
theorem text_not {l : List UInt8} (h : ¬∃ L t, Fine l L t) (W : World) (HE : HasE W) :
    Calls Tryz.prog 14 #[.string (strOf l)] W fun e w' => (∃ k a : Int, e = .returned (.tuple #[.slice none 0 0, .int .i64 k, .int .i64 a]) ∧ k ≠ 0) ∧ Below W.heap.size W w' :=
  (Pa.text_any (strOf l) W HE).mono fun e w' hk => by
    rw [strOf_toList] at hk
    refine ⟨?_, hk.below⟩
    by_cases hl : l.length ≤ 8192
    case neg => exact ⟨3, 0, hk.big hl, by decide⟩
    cases hsc : scanL 0 l with
    | bad k a =>
      have hka := scan_bad_at _ 0 _ k a (Nat.lt_succ_self _) hsc
      exact ⟨k, a, hk.bad k a hl hsc, by omega⟩
    | toks L =>
      obtain ⟨t, s', hr, hok⟩ := hk.yes L hl hsc
      cases s' with
      | bad k => exact ⟨10, _, hok, by decide⟩
      | ok i =>
        have h' : if (checkL t).1 = 0 then _ else _ := hok
        by_cases hc : (checkL t).1 = 0
        · exact absurd ⟨L, t, hl, hsc, hr, hc⟩ h
        · rw [if_neg hc] at h'
          exact ⟨_, 0, h', hc⟩

set_option maxHeartbeats 4000000 in
set_option maxRecDepth 100000 in
theorem showAgain_law (s : ByteArray) (w : World) (HE : HasE w) (HT : HasT w) :
    Calls Tryz.prog 7 #[.string s] w fun e w' => e = .returned (.bool true) ∧ Below w.heap.size w w' := by
  have KN := Lib.hid (fun (W : World) (h : Below w.heap.size w W) => known11 W (HE.later h) (HT.later h))
  by_cases hlt : s.size ≤ 3000
  case neg =>
    have v0 : (s.size : Int) > 3000 := by omega
    clear hlt HE HT
    go_enter Tryz.func7, Tryz.ntmps7
    go_wp2_with (go_at_call 21; refine (KN.out _ (Below.refl _ _)).mono ?_; rintro e w2 ⟨rfl, hb2⟩)
    go_ret
    exact ⟨rfl, hb2⟩
  have v0 : ¬(s.size : Int) > 3000 := by omega
  have hself : strOf s.data.toList = s := by unfold strOf; simp
  by_cases hG : ∃ L t, Fine s.data.toList L t
  case neg =>
    have P1 := Lib.hid (text_not hG w HE)
    rw [hself] at P1
    clear hG HE HT hself hlt
    go_enter Tryz.func7, Tryz.ntmps7
    go_wp2_with fail
    refine P1.out.mono ?_
    rintro e w1 ⟨⟨k, a, rfl, hk⟩, hb1⟩
    go_wp2_with (go_at_call 21; refine (KN.out _ hb1).mono ?_; rintro e w2 ⟨rfl, hb2⟩; have hb22 := chain2 hb1 hb2)
    go_ret
    exact ⟨rfl, hb22⟩
  obtain ⟨L, t, hF⟩ := hG
  have hsm := hF.small
  have P1 := Lib.hid (back_any hF.small hF.scan hF.run hF.right w HE)
  rw [hself] at P1
  have hn : FitN t := mod_tokN (scan_tokN (scans_iff.1 hF.scan)) hF.run
  have hs : Short t := fun x hx => (mod_tok (toks_any hF.scan hF.small).2.2 hF.run).nodes x hx |>.2
  have hc := hF.right
  obtain ⟨o, ho⟩ := prn_all hc
  have hlen := (check_ok hc).1
  have hol := (written_ok ho hn hlen).2.1
  have TX := Lib.hid (fun (v : Value) (W : World) (h : Below w.heap.size w W) (hv : Nds W v t) => text_yes t o v W hv hs hc ho hn (HT.later h))
  by_cases hz : (writeL o).length ≤ 8192
  case neg =>
    rw [if_neg hz] at TX
    clear hF hsm hn hs hc ho hlen hol hz HE HT hself hlt
    go_enter Tryz.func7, Tryz.ntmps7
    go_wp2_with fail
    refine P1.out.mono ?_
    rintro e w1 ⟨v1, rfl, hr1, hf1⟩
    have HR1 := Lib.hid hr1
    have HN1 := Lib.hid (hr1.nds hf1)
    clear hr1 hf1 P1
    go_wp2_with fail
    refine (TX.out _ _ HR1.out.below HN1.out).mono ?_
    rintro e w2 ⟨rfl, hb⟩
    have hb2 := chain2 HR1.out.below hb
    clear hb TX HR1 HN1
    go_wp2_with (go_at_call 21; refine (KN.out _ hb2).mono ?_; rintro e w3 ⟨rfl, hb3⟩; have hb33 := chain2 hb2 hb3)
    go_ret
    exact ⟨rfl, hb33⟩
  rw [if_pos hz] at TX
  obtain ⟨L2, hsc, hal, hrun⟩ := show_goods hc ho hn hz
  have PT := Lib.hid (fun (W : World) (h : Below w.heap.size w W) => back_any hz hsc hrun hc W (HE.later h))
  have TK := Lib.hid (fun (v : Value) (W : World) (h : Below w.heap.size w W) (hv : Nds W v t) => tokens_yes t o v W hv hs hc ho hn (HT.later h))
  have SC : Hid (∀ W, Below w.heap.size w W → Calls Tryz.prog 28 #[.string (strOf (writeL o))] W fun e w' => ∃ v, e = .returned (.tuple #[v, .int .i64 0, .int .i64 0]) ∧ TR W w' v L2) := Lib.hid (fun W h => (scan_any (strOf (writeL o)) W (HE.later h)).mono fun e w' hk => by rw [strOf_toList] at hk; exact hk.yes _ hz hsc)
  have S1 := Lib.hid (fun (v u : Value) (W : World) (hv : Nds W v t) (hu : Nds W u t) => rsame_any t t v u W hv hu (by omega) (by omega))
  rw [show decide (t = t) = true by simp] at S1
  have hkey : Lx.Alike o L2 := hal.symm
  have S2 := Lib.hid (fun (v u : Value) (W : World) (hv : Toks W v o) (hu : Toks W u L2) => same_any false o L2 v u W hv hu (alikeP_of hkey) (by omega))
  generalize strOf (writeL o) = q at *
  clear hF hsm hn hs hc ho hlen hol hz HE HT hself hlt hsc hal hkey hrun
  go_enter Tryz.func7, Tryz.ntmps7
  go_wp2_with fail
  refine P1.out.mono ?_
  rintro e w1 ⟨u1, rfl, hr1, hf1⟩
  have HB1 := Lib.hid hr1.below
  have HN1 := Lib.hid (hr1.nds hf1)
  clear hr1 hf1 P1
  go_wp2_with fail
  refine (TX.out _ _ HB1.out HN1.out).mono ?_
  rintro e w2 ⟨rfl, hb⟩
  have HB2 := Lib.hid (chain2 HB1.out hb)
  have HN2 := Lib.hid (HN1.out.later hb)
  clear hb HB1 HN1
  go_wp2_with fail
  refine (PT.out _ HB2.out).mono ?_
  rintro e w3 ⟨u3, rfl, hr3, hf3⟩
  have HB3 := Lib.hid (chain2 HB2.out hr3.below)
  have HN3 := Lib.hid (HN2.out.later hr3.below)
  have HM3 := Lib.hid (hr3.nds hf3)
  clear hr3 hf3 HB2 HN2 PT
  go_wp2_with fail
  refine (TX.out _ _ HB3.out HM3.out).mono ?_
  rintro e w4 ⟨rfl, hb⟩
  have HB4 := Lib.hid (chain2 HB3.out hb)
  have HN4 := Lib.hid (HN3.out.later hb)
  have HM4 := Lib.hid (HM3.out.later hb)
  clear hb HB3 HN3 HM3 TX
  go_wp2_with fail
  refine (TK.out _ _ HB4.out HN4.out).mono ?_
  rintro e w5 ⟨u5, rfl, hr5⟩
  have HB5 := Lib.hid (chain2 HB4.out hr5.below)
  have HN5 := Lib.hid (HN4.out.later hr5.below)
  have HM5 := Lib.hid (HM4.out.later hr5.below)
  have HT5 := Lib.hid hr5.toks
  clear hr5 HB4 HN4 HM4 TK
  go_wp2_with fail
  refine (SC.out _ HB5.out).mono ?_
  rintro e w6 ⟨u6, rfl, hr6⟩
  have HB6 := Lib.hid (chain2 HB5.out hr6.below)
  have HN6 := Lib.hid (HN5.out.later hr6.below)
  have HM6 := Lib.hid (HM5.out.later hr6.below)
  have HT6 := Lib.hid (HT5.out.later hr6.below)
  have HU6 := Lib.hid hr6.toks
  clear hr6 HB5 HN5 HM5 HT5 SC
  go_wp2_with (first
    | (go_at_call 16; refine (S1.out _ _ _ HN6.out HM6.out).mono ?_; rintro e w7 ⟨rfl, hb7⟩; have hb77 := chain2 HB6.out hb7)
    | (go_at_call 26; refine (S2.out _ _ _ (HT6.out.later hb7) (HU6.out.later hb7)).mono ?_; rintro e w8 ⟨rfl, hb8⟩; have hb88 := chain2 hb77 hb8)
    | (go_at_call 21; refine (KN.out _ hb88).mono ?_; rintro e w9 ⟨rfl, hb9⟩; have hb99 := chain2 hb88 hb9))
  go_ret
  exact ⟨rfl, hb99⟩

theorem showAgain_wide (s : ByteArray) (_ : s.size ≤ maxLen) (w : World) (HK : HasE w ∧ HasT w) :
    Calls Tryz.prog 7 #[.string s] w fun e w' => e = .returned (.bool true) ∧ Below w.heap.size w w' := showAgain_law s w HK.1 HK.2

end Go.Proofs.YtemlceicmpcboaaGreatDoor.Sw
