/- The walk of the document's Right: its contract. No condition but those that each states. -/
import Derived.Test.YtmloljfnnkfkjaaDoorMgAK
namespace Go.Proofs.YtmloljfnnkfkjaaDoor.In
open Go.RowKit Dk

theorem strOf_append (a b : List UInt8) : strOf a ++ strOf b = strOf (a ++ b) := by
  apply ByteArray.ext
  simp [strOf]
theorem sum_run (a b : List UInt8) (h : a.length + b.length ≤ 2 ^ 60) (W : World) : (Op.stringOp .add (strOf a) (strOf b)).run Tryd.prog W = .ok (.string (strOf (a ++ b))) W := by
  rw [run_string_add_sum (P := Tryd.prog) (w := W) (strOf a) (strOf b) (by rw [strOf_size, strOf_size]; omega), strOf_append]

theorem idx_run (l : List UInt8) (i : Nat) (c : UInt8) (h : l[i]? = some c) (W : World) : (Instr.index 9 (.string (strOf l)) (.int .i64 (i : Int))).run Tryd.prog W = .ok (.int .u8 (c.toNat : Int)) W := by
  obtain ⟨hl, e⟩ := List.getElem?_eq_some_iff.1 h
  have hs := strOf_size l
  have hq : ∀ h' : i < (strOf l).size, (strOf l)[i] = c := fun _ => by rw [← e]; rfl
  have g0 : i < (strOf l).size := by omega
  have g1 : (0 : Int) ≤ (i : Int) := by omega
  have g2 : (i : Int) < ((strOf l).size : Int) := by omega
  rw [← hq g0]
  generalize strOf l = q at *
  clear hq e h hl hs
  have ht := Tryd.underlying9
  simp [Instr.index, run_underlying ht, asIntOf, g1, g0, go_sem]

theorem ws_reg {P : Program} {id : Nat} {Q : Exit → Act → World → Prop} {a : Act} {w : World} {l : List Oper} (hm : P.follows .mixedOrders = true) (hB : Region.lexB .any l.toArray = true)
    (w1 : World) (hw : w.drew = w1) (h : WS P l.toArray w1 (fun a' => Q .normal a' w1) l a) : (Code.region id l.toArray true).wp P Q a w :=
  region_still hm hB w1 hw h.out

/-- A shape's letters, a wide number's two. -/
theorem three (sh : List UInt8) (h : sh.length = 3 ∨ (sh.length = 2 ∧ sh.getD 1 0 = 119)) (i : Nat) (hi : i < 3) : (if sh.length = 2 then sh ++ [119] else sh)[i]? = some (letter sh i) := by
  unfold letter
  rw [List.getD_eq_getElem?_getD]
  rcases h with h | ⟨h, -⟩
  · rw [if_neg (by omega), List.getElem?_eq_getElem (by omega)]; rfl
  · rw [if_pos h]
    by_cases h2 : i < 2
    · rw [List.getElem?_append_left (by omega), List.getElem?_eq_getElem (by omega)]; rfl
    · obtain rfl : i = 2 := by omega
      rw [List.getElem?_append_right (by omega), List.getElem?_eq_none (l := sh) (by omega), h]; rfl

set_option maxHeartbeats 4000000 in
set_option maxRecDepth 100000 in
theorem rright_any (x : Ix) (w : World) : Calls Tryd.prog 68 #[.agg x.cells.toArray] w fun e w' => e = .returned (.bool (rightB x)) ∧ Below w.heap.size w w' := by
  obtain ⟨W1, hW1⟩ : ∃ W1, W1 = w.alloc (.cells x.cells.toArray 89) := ⟨_, rfl⟩
  have HB1 : Hid (Below w.heap.size w W1) := Lib.hid (by rw [hW1]; exact (Below.refl _ _).alloc (Nat.le_refl _) _)
  have HX : Hid (IB W1 w.heap.size x) := Lib.hid (by rw [hW1]; exact ib_new w x _)
  have SH := Lib.hid (rshape_any x.op W1)
  have c0 := HX.out.at.1
  have hsl : shapeL x.op = [] ∨ (shapeL x.op).length = 3 ∨ ((shapeL x.op).length = 2 ∧ (shapeL x.op).getD 1 0 = 119) := by
    by_cases h : 0 ≤ x.op ∧ x.op < 38
    · exact .inr (shape_len h)
    · exact .inl (shape_none h)
  have HRB : Hid (rightB x = ((shapeL x.op != []) && fine (letter (shapeL x.op) 0) x.a && fine (letter (shapeL x.op) 1) x.b && fine (letter (shapeL x.op) 2) x.c)) := Lib.hid rfl
  obtain ⟨op, a, b, c⟩ := x
  have hW2 : w.alloc (.cells #[.int .i64 op, .int .i64 a, .int .i64 b, .int .i64 c] 89) = W1 := hW1.symm
  show Calls _ _ #[.agg #[.int .i64 op, .int .i64 a, .int .i64 b, .int .i64 c]] w _
  generalize rightB ⟨op, a, b, c⟩ = R at *
  replace c0 : W1.cell? ⟨w.heap.size, 0, none⟩ = some (.int .i64 op) := c0
  replace SH : Hid (Calls Tryd.prog 93 #[.int .i64 op] W1 fun e w' => e = .returned (.string (strOf (shapeL op))) ∧ Below W1.heap.size W1 w') := SH
  replace HRB : Hid (R = ((shapeL op != []) && fine (letter (shapeL op) 0) a && fine (letter (shapeL op) 1) b && fine (letter (shapeL op) 2) c)) := HRB
  replace hsl : shapeL op = [] ∨ (shapeL op).length = 3 ∨ ((shapeL op).length = 2 ∧ (shapeL op).getD 1 0 = 119) := hsl
  generalize shapeL op = sh at *
  clear hW1
  rcases hsl with hs | hs
  · subst hs
    have hR : R = false := HRB.out
    subst hR
    have SH2 : Hid (Calls Tryd.prog 93 #[.int .i64 op] W1 fun e w' => e = .returned (.string ⟨#[]⟩) ∧ Below W1.heap.size W1 w') := Lib.hid SH.out
    clear SH HRB
    go_enter Tryd.func68, Tryd.ntmps68
    go_wp2_with (go_at_call 93; refine SH2.out.mono ?_; rintro e w2 ⟨rfl, hb2⟩)
    go_ret
    exact ⟨rfl, chain2 HB1.out hb2⟩
  · have hne : (sh != []) = true := by
      cases sh with
      | nil => simp at hs
      | cons a l => rfl
    have v0 : ((strOf sh).toList == []) = false := by rw [strOf_tl]; simpa using hne
    have HR : Hid (R = (fine (letter sh 0) a && fine (letter sh 1) b && fine (letter sh 2) c)) := Lib.hid (by rw [HRB.out, hne, Bool.true_and])
    have hsz := strOf_size sh
    have i0 : ∀ W : World, (Instr.index 9 (.string (strOf (if sh.length = 2 then sh ++ [119] else sh))) (.int .i64 0)).run Tryd.prog W = .ok (.int .u8 ((letter sh 0).toNat : Int)) W := fun W => idx_run _ 0 _ (three sh hs 0 (by decide)) W
    have i1 : ∀ W : World, (Instr.index 9 (.string (strOf (if sh.length = 2 then sh ++ [119] else sh))) (.int .i64 1)).run Tryd.prog W = .ok (.int .u8 ((letter sh 1).toNat : Int)) W := fun W => idx_run _ 1 _ (three sh hs 1 (by decide)) W
    have i2 : ∀ W : World, (Instr.index 9 (.string (strOf (if sh.length = 2 then sh ++ [119] else sh))) (.int .i64 2)).run Tryd.prog W = .ok (.int .u8 ((letter sh 2).toNat : Int)) W := fun W => idx_run _ 2 _ (three sh hs 2 (by decide)) W
    have T0 : Hid (∀ W, Calls Tryd.prog 94 #[.int .i64 a, .int .u8 ((letter sh 0).toNat : Int)] W fun e w' => e = .returned (.bool (fine (letter sh 0) a)) ∧ w' = W) := Lib.hid (fun W => (small_any a (letter sh 0) W).mono fun e w' ⟨h1, h2⟩ => ⟨h1, h2.symm⟩)
    have T1 : Hid (∀ W, Calls Tryd.prog 94 #[.int .i64 b, .int .u8 ((letter sh 1).toNat : Int)] W fun e w' => e = .returned (.bool (fine (letter sh 1) b)) ∧ w' = W) := Lib.hid (fun W => (small_any b (letter sh 1) W).mono fun e w' ⟨h1, h2⟩ => ⟨h1, h2.symm⟩)
    have T2 : Hid (∀ W, Calls Tryd.prog 94 #[.int .i64 c, .int .u8 ((letter sh 2).toNat : Int)] W fun e w' => e = .returned (.bool (fine (letter sh 2) c)) ∧ w' = W) := Lib.hid (fun W => (small_any c (letter sh 2) W).mono fun e w' ⟨h1, h2⟩ => ⟨h1, h2.symm⟩)
    have p1 := fun W => sum_run sh [119] (by rcases hs with h | ⟨h, -⟩ <;> rw [h] <;> decide) W
    replace p1 : ∀ W : World, (Op.stringOp .add (strOf sh) ⟨#[119]⟩).run Tryd.prog W = .ok (.string (strOf (sh ++ [119]))) W := p1
    generalize fine (letter sh 0) a = f0 at *
    generalize fine (letter sh 1) b = f1 at *
    generalize fine (letter sh 2) c = f2 at *
    by_cases h2 : sh.length = 2
    · have v1 : (((strOf sh).size : Int) == 2) = true := by simp; omega
      rw [if_pos h2] at i0 i1 i2
      clear hs hne h2 HRB
      generalize strOf (sh ++ [119]) = S3 at *
      generalize strOf sh = S at *
      generalize letter sh 0 = l0 at *
      generalize letter sh 1 = l1 at *
      generalize letter sh 2 = l2 at *
      clear hsz
      go_enter Tryd.func68, Tryd.ntmps68
      go_upto_region 6 with (go_at_call 93; refine SH.out.mono ?_; rintro e w2 ⟨rfl, hb2⟩)
      have HB2 := Lib.hid (chain2 HB1.out hb2)
      obtain ⟨W5, hW5⟩ : ∃ W5, w2.drew = W5 := ⟨_, rfl⟩
      have HB5 : Hid (Below w.heap.size w W5) := Lib.hid (by rw [← hW5]; exact (HB2.out).drew)
      have HX5 : IB W5 w.heap.size ⟨op, a, b, c⟩ := by rw [← hW5]; exact (HX.out.later hb2).later ((Below.refl _ _).drew)
      have HW5 := Lib.hid hW5
      obtain ⟨k0, k1, k2, k3⟩ := HX5.at
      simp only at k0 k1 k2 k3
      have S0 := Lib.hid (T0.out W5)
      have S1 := Lib.hid (T1.out W5)
      have S2 := Lib.hid (T2.out W5)
      clear HX5 hW5 T0 T1 T2 HB2 HX c0
      clear hb2 p1
      cases f0 with
      | false =>
        have hR := HR.out
        rw [Bool.false_and, Bool.false_and] at hR
        subst hR
        go_wp2_with fail
        refine ws_reg (by kernel_rfl) (by kernel_rfl) W5 HW5.out ?_
        iterate 4 (refine ws_step (fun K hK => ?_); go_simp; refine hK _ ?_; clear hK K)
        refine ws_step (fun K hK => ?_)
        go_simp
        refine ⟨_, S0.out, hK _ ?_⟩
        clear hK K
        iterate 1 (refine ws_step (fun K hK => ?_); go_simp; refine hK _ ?_; clear hK K)
        iterate 5 (refine ws_skip (by kernel_rfl) ?_)
        iterate 2 (refine ws_step (fun K hK => ?_); go_simp; refine hK _ ?_; clear hK K)
        iterate 5 (refine ws_skip (by kernel_rfl) ?_)
        iterate 2 (refine ws_step (fun K hK => ?_); go_simp; refine hK _ ?_; clear hK K)
        refine ws_nil ?_
        go_wp2
        go_ret
        exact ⟨rfl, HB5.out⟩
      | true =>
        cases f1 with
        | false =>
          have hR := HR.out
          rw [Bool.true_and, Bool.false_and] at hR
          subst hR
          go_wp2_with fail
          refine ws_reg (by kernel_rfl) (by kernel_rfl) W5 HW5.out ?_
          iterate 4 (refine ws_step (fun K hK => ?_); go_simp; refine hK _ ?_; clear hK K)
          refine ws_step (fun K hK => ?_)
          go_simp
          refine ⟨_, S0.out, hK _ ?_⟩
          clear hK K
          iterate 1 (refine ws_step (fun K hK => ?_); go_simp; refine hK _ ?_; clear hK K)
          iterate 4 (refine ws_step (fun K hK => ?_); go_simp; refine hK _ ?_; clear hK K)
          refine ws_step (fun K hK => ?_)
          go_simp
          refine ⟨_, S1.out, hK _ ?_⟩
          clear hK K
          iterate 2 (refine ws_step (fun K hK => ?_); go_simp; refine hK _ ?_; clear hK K)
          iterate 5 (refine ws_skip (by kernel_rfl) ?_)
          iterate 2 (refine ws_step (fun K hK => ?_); go_simp; refine hK _ ?_; clear hK K)
          refine ws_nil ?_
          go_wp2
          go_ret
          exact ⟨rfl, HB5.out⟩
        | true =>
          have hR := HR.out
          rw [Bool.true_and, Bool.true_and] at hR
          subst hR
          go_wp2_with fail
          refine ws_reg (by kernel_rfl) (by kernel_rfl) W5 HW5.out ?_
          iterate 4 (refine ws_step (fun K hK => ?_); go_simp; refine hK _ ?_; clear hK K)
          refine ws_step (fun K hK => ?_)
          go_simp
          refine ⟨_, S0.out, hK _ ?_⟩
          clear hK K
          iterate 1 (refine ws_step (fun K hK => ?_); go_simp; refine hK _ ?_; clear hK K)
          iterate 4 (refine ws_step (fun K hK => ?_); go_simp; refine hK _ ?_; clear hK K)
          refine ws_step (fun K hK => ?_)
          go_simp
          refine ⟨_, S1.out, hK _ ?_⟩
          clear hK K
          iterate 2 (refine ws_step (fun K hK => ?_); go_simp; refine hK _ ?_; clear hK K)
          iterate 4 (refine ws_step (fun K hK => ?_); go_simp; refine hK _ ?_; clear hK K)
          refine ws_step (fun K hK => ?_)
          go_simp
          refine ⟨_, S2.out, hK _ ?_⟩
          clear hK K
          iterate 2 (refine ws_step (fun K hK => ?_); go_simp; refine hK _ ?_; clear hK K)
          refine ws_nil ?_
          go_wp2
          go_ret
          exact ⟨rfl, HB5.out⟩
    · have v1 : (((strOf sh).size : Int) == 2) = false := by simp; omega
      rw [if_neg h2] at i0 i1 i2
      clear hs hne h2 HRB p1
      generalize strOf sh = S at *
      generalize letter sh 0 = l0 at *
      generalize letter sh 1 = l1 at *
      generalize letter sh 2 = l2 at *
      clear hsz
      go_enter Tryd.func68, Tryd.ntmps68
      go_upto_region 6 with (go_at_call 93; refine SH.out.mono ?_; rintro e w2 ⟨rfl, hb2⟩)
      have HB2 := Lib.hid (chain2 HB1.out hb2)
      obtain ⟨W5, hW5⟩ : ∃ W5, w2.drew = W5 := ⟨_, rfl⟩
      have HB5 : Hid (Below w.heap.size w W5) := Lib.hid (by rw [← hW5]; exact (HB2.out).drew)
      have HX5 : IB W5 w.heap.size ⟨op, a, b, c⟩ := by rw [← hW5]; exact (HX.out.later hb2).later ((Below.refl _ _).drew)
      have HW5 := Lib.hid hW5
      obtain ⟨k0, k1, k2, k3⟩ := HX5.at
      simp only at k0 k1 k2 k3
      have S0 := Lib.hid (T0.out W5)
      have S1 := Lib.hid (T1.out W5)
      have S2 := Lib.hid (T2.out W5)
      clear HX5 hW5 T0 T1 T2 HB2 HX c0
      clear hb2
      cases f0 with
      | false =>
        have hR := HR.out
        rw [Bool.false_and, Bool.false_and] at hR
        subst hR
        go_wp2_with fail
        refine ws_reg (by kernel_rfl) (by kernel_rfl) W5 HW5.out ?_
        iterate 4 (refine ws_step (fun K hK => ?_); go_simp; refine hK _ ?_; clear hK K)
        refine ws_step (fun K hK => ?_)
        go_simp
        refine ⟨_, S0.out, hK _ ?_⟩
        clear hK K
        iterate 1 (refine ws_step (fun K hK => ?_); go_simp; refine hK _ ?_; clear hK K)
        iterate 5 (refine ws_skip (by kernel_rfl) ?_)
        iterate 2 (refine ws_step (fun K hK => ?_); go_simp; refine hK _ ?_; clear hK K)
        iterate 5 (refine ws_skip (by kernel_rfl) ?_)
        iterate 2 (refine ws_step (fun K hK => ?_); go_simp; refine hK _ ?_; clear hK K)
        refine ws_nil ?_
        go_wp2
        go_ret
        exact ⟨rfl, HB5.out⟩
      | true =>
        cases f1 with
        | false =>
          have hR := HR.out
          rw [Bool.true_and, Bool.false_and] at hR
          subst hR
          go_wp2_with fail
          refine ws_reg (by kernel_rfl) (by kernel_rfl) W5 HW5.out ?_
          iterate 4 (refine ws_step (fun K hK => ?_); go_simp; refine hK _ ?_; clear hK K)
          refine ws_step (fun K hK => ?_)
          go_simp
          refine ⟨_, S0.out, hK _ ?_⟩
          clear hK K
          iterate 1 (refine ws_step (fun K hK => ?_); go_simp; refine hK _ ?_; clear hK K)
          iterate 4 (refine ws_step (fun K hK => ?_); go_simp; refine hK _ ?_; clear hK K)
          refine ws_step (fun K hK => ?_)
          go_simp
          refine ⟨_, S1.out, hK _ ?_⟩
          clear hK K
          iterate 2 (refine ws_step (fun K hK => ?_); go_simp; refine hK _ ?_; clear hK K)
          iterate 5 (refine ws_skip (by kernel_rfl) ?_)
          iterate 2 (refine ws_step (fun K hK => ?_); go_simp; refine hK _ ?_; clear hK K)
          refine ws_nil ?_
          go_wp2
          go_ret
          exact ⟨rfl, HB5.out⟩
        | true =>
          have hR := HR.out
          rw [Bool.true_and, Bool.true_and] at hR
          subst hR
          go_wp2_with fail
          refine ws_reg (by kernel_rfl) (by kernel_rfl) W5 HW5.out ?_
          iterate 4 (refine ws_step (fun K hK => ?_); go_simp; refine hK _ ?_; clear hK K)
          refine ws_step (fun K hK => ?_)
          go_simp
          refine ⟨_, S0.out, hK _ ?_⟩
          clear hK K
          iterate 1 (refine ws_step (fun K hK => ?_); go_simp; refine hK _ ?_; clear hK K)
          iterate 4 (refine ws_step (fun K hK => ?_); go_simp; refine hK _ ?_; clear hK K)
          refine ws_step (fun K hK => ?_)
          go_simp
          refine ⟨_, S1.out, hK _ ?_⟩
          clear hK K
          iterate 2 (refine ws_step (fun K hK => ?_); go_simp; refine hK _ ?_; clear hK K)
          iterate 4 (refine ws_step (fun K hK => ?_); go_simp; refine hK _ ?_; clear hK K)
          refine ws_step (fun K hK => ?_)
          go_simp
          refine ⟨_, S2.out, hK _ ?_⟩
          clear hK K
          iterate 2 (refine ws_step (fun K hK => ?_); go_simp; refine hK _ ?_; clear hK K)
          refine ws_nil ?_
          go_wp2
          go_ret
          exact ⟨rfl, HB5.out⟩

end Go.Proofs.YtmloljfnnkfkjaaDoor.In

