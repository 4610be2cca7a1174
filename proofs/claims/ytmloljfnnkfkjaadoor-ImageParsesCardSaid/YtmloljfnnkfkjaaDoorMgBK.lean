/- The walk of the document's Light: its contract. The walk of the laws' known: its contract. The walk of chrysalisref01.Count: its contract. What the laws of units ask of the walks: their contracts at a unit that came in, at one that was read. More that the laws ask: a text cut, a text put together, how long a unit is in bytes. The walk of ImageParses. No condition but those that each states. -/
import Derived.Test.YtmloljfnnkfkjaaDoorMgBJ
import Derived.Test.YtmloljfnnkfkjaaDoorMgBG
import Derived.Test.YtmloljfnnkfkjaaDoorMgAQ
import Derived.Test.YtmloljfnnkfkjaaDoorMgBH
namespace Go.Proofs.YtmloljfnnkfkjaaDoor.Im
open Go.RowKit Dk In

def u0 : Un := ⟨[109], 1, [], 0, []⟩
def u1 : Un := ⟨[109], 0, [], 0, []⟩
def b18 : List UInt8 := [67, 72, 82, 89, 1, 0, 0, 0, 109, 1, 0, 0, 0, 0, 0, 0, 0, 0]
theorem build0 : buildU u0 = (b18, 0) := by decide +kernel
theorem build1 : buildU u1 = ([], 4) := by decide +kernel
theorem right0 : unB u0 = true := by decide +kernel
theorem fits0 : FitsU u0 := fun p h => by cases h
theorem parse0 : parseU fixI b18 = (u0, 0) := by
  have := parse_back (g := fixI) (fun x h => fix_right h) right0 fits0
  have e : encUn u0 = b18 := by decide +kernel
  rwa [e] at this
theorem parse1 : parseU fixI (b18.take 10) = (Un.zero, 2) := by
  have := parse_cut (g := fixI) (fun x h => fix_right h) right0 fits0 (k := 10) (by decide +kernel)
  have e : encUn u0 = b18 := by decide +kernel
  rwa [e] at this
theorem parse2 : parseU fixI (b18 ++ [120]) = (Un.zero, 4) := by
  have := parse_more (g := fixI) (fun x h => fix_right h) right0 fits0 (z := [120]) (by decide)
  have e : encUn u0 = b18 := by decide +kernel
  rwa [e] at this
theorem sm0 : SmU u0 := ⟨by decide, by decide, (fun x h => by cases h), by decide, (fun x h => by cases h)⟩
theorem sm1 : SmU u1 := ⟨by decide, by decide, (fun x h => by cases h), by decide, (fun x h => by cases h)⟩
theorem uc0 (X : Nat → Prop) (W : World) : UC X W [.string ⟨#[109]⟩, .int .i64 1, .slice none 0 0, .int .i64 0, .slice none 0 0] u0 := ⟨_, _, rfl, Rw.nil _ X W, ⟨[], Row.nil X W, Each.nil X W⟩⟩
theorem uc1 (X : Nat → Prop) (W : World) : UC X W [.string ⟨#[109]⟩, .int .i64 0, .slice none 0 0, .int .i64 0, .slice none 0 0] u1 := ⟨_, _, rfl, Rw.nil _ X W, ⟨[], Row.nil X W, Each.nil X W⟩⟩
theorem wpList_load_want {P : Program} {ops : Array Oper} {rest : List Oper} {op : Oper} {a : Act} {w : World} {Q : Exit → Act → World → Prop} (hw : Region.wanted op (yielded ops a.tmps) = true) (ty : TypeId) (x : Operand) (ho : op.op = .load ty x)
    (b o : Nat) (hx : a.eval x = .pointer (some ⟨b, o, none⟩)) (cs : List Value) (d : TypeDesc) (hc : w.rangeAt b o cs)
    (hu : P.underlying ty = some d) (hd : d.isRow = true) (hi : (P.info? ty).map (·.size) = some cs.length)
    (h : wpList P ops Q rest (a.put op.dst (.agg cs.toArray)) w) : wpList P ops Q (op :: rest) a w :=
  BigFrame.wpList_want hw fun _ hK => wp_load_mid ty x ho b o hx cs d hc hu hd hi (hK _ _ h)
theorem slice10 (W : World) : (Instr.slice 9 (.string ⟨#[67, 72, 82, 89, 1, 0, 0, 0, 109, 1, 0, 0, 0, 0, 0, 0, 0, 0]⟩) none (some (.int .i64 10)) none).run Tryd.prog W = .ok (.string ⟨#[67, 72, 82, 89, 1, 0, 0, 0, 109, 1]⟩) W := by kernel_rfl

set_option maxHeartbeats 4000000 in
set_option maxRecDepth 100000 in
theorem conBA (w : World) (HF : HasF w) : Hid (∀ W, Below w.heap.size w W → Calls Tryd.prog 10 #[.agg #[.string ⟨#[109]⟩, .int .i64 1, .slice none 0 0, .int .i64 0, .slice none 0 0]] W (fun e w' => e = .returned (.tuple #[.string ⟨#[67, 72, 82, 89, 1, 0, 0, 0, 109, 1, 0, 0, 0, 0, 0, 0, 0, 0]⟩, .int .i64 0]) ∧ Below W.heap.size W w')) := Lib.hid (fun W hb => by
  have h := ubuild_any W (uc0 (fun _ => True) W) sm0 (HF.later hb)
  rw [build0] at h
  exact h
)
set_option maxHeartbeats 4000000 in
set_option maxRecDepth 100000 in
theorem conBB (w : World) (HF : HasF w) : Hid (∀ W, Below w.heap.size w W → Calls Tryd.prog 10 #[.agg #[.string ⟨#[109]⟩, .int .i64 0, .slice none 0 0, .int .i64 0, .slice none 0 0]] W (fun e w' => e = .returned (.tuple #[.string ⟨#[]⟩, .int .i64 4]) ∧ Below W.heap.size W w')) := Lib.hid (fun W hb => by
  have h := ubuild_any W (uc1 (fun _ => True) W) sm1 (HF.later hb)
  rw [build1] at h
  exact h
)
set_option maxHeartbeats 4000000 in
set_option maxRecDepth 100000 in
theorem conRI (w : World) (HF : HasF w) : Hid (∀ W, Below w.heap.size w W → Calls Tryd.prog 12 #[.agg #[.string ⟨#[109]⟩, .int .i64 1, .slice none 0 0, .int .i64 0, .slice none 0 0]] W (fun e w' => e = .returned (.bool true) ∧ Below W.heap.size W w')) := Lib.hid (fun W hb => by
  have h := uright_any W (uc0 (fun _ => True) W) sm0 (HF.later hb)
  rw [right0] at h
  exact h
)
set_option maxHeartbeats 4000000 in
set_option maxRecDepth 100000 in
theorem conPA (w : World) (HF : HasF w) : Hid (∀ W, Below w.heap.size w W → Calls Tryd.prog 14 #[.string ⟨#[67, 72, 82, 89, 1, 0, 0, 0, 109, 1, 0, 0, 0, 0, 0, 0, 0, 0]⟩] W (ParseAny (u0, 0) W)) := Lib.hid (fun W hb => by
  have h := uparse_any b18 W (by decide) (HF.later hb)
  rw [parse0] at h
  exact h
)
set_option maxHeartbeats 4000000 in
set_option maxRecDepth 100000 in
theorem conPB (w : World) (HF : HasF w) : Hid (∀ W, Below w.heap.size w W → Calls Tryd.prog 14 #[.string ⟨#[67, 72, 82, 89, 1, 0, 0, 0, 109, 1]⟩] W (ParseAny (Un.zero, 2) W)) := Lib.hid (fun W hb => by
  have h := uparse_any (b18.take 10) W (by decide) (HF.later hb)
  rw [parse1] at h
  exact h
)
set_option maxHeartbeats 4000000 in
set_option maxRecDepth 100000 in
theorem conPC (w : World) (HF : HasF w) : Hid (∀ W, Below w.heap.size w W → Calls Tryd.prog 14 #[.string ⟨#[67, 72, 82, 89, 1, 0, 0, 0, 109, 1, 0, 0, 0, 0, 0, 0, 0, 0, 120]⟩] W (ParseAny (Un.zero, 4) W)) := Lib.hid (fun W hb => by
  have h := uparse_any (b18 ++ [120]) W (by decide) (HF.later hb)
  rw [parse2] at h
  exact h
)
set_option maxHeartbeats 4000000 in
set_option maxRecDepth 100000 in
theorem known14 (w : World) (HF : HasF w) : Calls Tryd.prog 9 #[] w fun e w' => e = .returned (.bool true) ∧ Below w.heap.size w w' := by
  have HFW := Lib.hid HF
  have BA := conBA w HF
  have BB := conBB w HF
  have RI := conRI w HF
  have PA := conPA w HF
  have PB := conPB w HF
  have PC := conPC w HF
  have sl := slice10
  have sm : ∀ W : World, (Op.stringOp .add ⟨#[67, 72, 82, 89, 1, 0, 0, 0, 109, 1, 0, 0, 0, 0, 0, 0, 0, 0]⟩ ⟨#[120]⟩).run Tryd.prog W = .ok (.string ⟨#[67, 72, 82, 89, 1, 0, 0, 0, 109, 1, 0, 0, 0, 0, 0, 0, 0, 0, 120]⟩) W := fun W => sum_run b18 [120] (by decide) W
  have HI : Hid ((Tryd.prog.info? 25).map (·.size) = some ([.string ⟨#[109]⟩, .int .i64 1, .slice none 0 0, .int .i64 0, .slice none 0 0] : List Value).length) := Lib.hid (by kernel_rfl)
  clear HF
  go_enter Tryd.func9, Tryd.ntmps9
  go_wp2_with fail
  generalize hW1 : World.alloc _ _ = W1
  have HB1 : Hid (Below w.heap.size w W1) := Lib.hid (by rw [← hW1]; exact (Below.refl _ _).alloc (Nat.le_refl _) _)
  have HX1 : Hid (El W1 w.heap.size [.string ⟨#[109]⟩, .int .i64 1, .slice none 0 0, .int .i64 0, .slice none 0 0]) := Lib.hid (by rw [← hW1]; exact el_new w _ _)
  clear hW1
  refine (BA.out _ HB1.out).mono ?_
  rintro e W2 ⟨rfl, hb⟩
  have HX2 := Lib.hid (HX1.out.later hb)
  have HB2 := Lib.hid (chain2 HB1.out hb)
  clear hb BA HB1 HX1
  go_wp2_with fail
  refine (PA.out _ HB2.out).mono ?_
  rintro e W3 ⟨cs1, rfl, huc, hb⟩
  obtain ⟨hl, hones⟩ := uc_ones huc
  have P1 := put_new W3 #[.string ⟨#[]⟩, .int .i64 0, .slice none 0 0, .int .i64 0, .slice none 0 0] 25 cs1 hl.symm
  have HT := Lib.hid P1.1
  have HP1 := Lib.hid P1.2
  have HIA : Hid ((Tryd.prog.info? 25).map (·.size) = some cs1.toArray.size) := Lib.hid (u_info cs1 hl)
  have HON := Lib.hid (all_oneCell_toArray hones)
  have HB3 := Lib.hid (chain2 HB2.out hb)
  have HX3 := Lib.hid (HX2.out.later hb)
  obtain ⟨vu, vp, hcs, -, -⟩ := huc
  have HCS := Lib.hid hcs
  clear hb hones hl P1 PA hcs
  go_wp2_with (refine wpList_store_mid rfl 25 (.tmp 4) (.tmp 21) rfl W3.heap.size 0 cs1.toArray rfl rfl HT.out HIA.out HON.out ?_; generalize World.setCells _ _ _ _ = W4 at HP1 ⊢; have HB4 := Lib.hid (chain2 HB3.out HP1.out.below); have HX4 := Lib.hid (HX3.out.later HP1.out.below); have HY4 : Hid (El W4 W3.heap.size [.string ⟨#[109]⟩, .int .i64 1, vu, .int .i64 0, vp]) := Lib.hid (show El W4 W3.heap.size [.string ⟨#[109]⟩, .int .i64 1, vu, .int .i64 0, vp] from ⟨by have h9 := HP1.out.cells; rw [HCS.out] at h9; exact h9, HP1.out.lt⟩))
  clear HT HIA HON
  refine (PB.out _ HB4.out).mono ?_
  rintro e W5 ⟨cs2, rfl, huc, hb⟩
  obtain ⟨hl, hones⟩ := uc_ones huc
  have P1 := put_new W5 #[.string ⟨#[]⟩, .int .i64 0, .slice none 0 0, .int .i64 0, .slice none 0 0] 25 cs2 hl.symm
  have HT := Lib.hid P1.1
  have HP2 := Lib.hid P1.2
  have HIA : Hid ((Tryd.prog.info? 25).map (·.size) = some cs2.toArray.size) := Lib.hid (u_info cs2 hl)
  have HON := Lib.hid (all_oneCell_toArray hones)
  have HB5 := Lib.hid (chain2 HB4.out hb)
  have HX5 := Lib.hid (HX4.out.later hb)
  have HY5 := Lib.hid (HY4.out.later hb)
  clear hb hones hl P1 PB huc
  go_wp2_with (refine wpList_store_mid rfl 25 (.tmp 6) (.tmp 30) rfl W5.heap.size 0 cs2.toArray rfl rfl HT.out HIA.out HON.out ?_; generalize World.setCells _ _ _ _ = W6 at HP2 ⊢; have HB6 := Lib.hid (chain2 HB5.out HP2.out.below); have HX6 := Lib.hid (HX5.out.later HP2.out.below); have HY6 := Lib.hid (HY5.out.later HP2.out.below))
  clear HT HIA HON
  refine (PC.out _ HB6.out).mono ?_
  rintro e W7 ⟨cs3, rfl, huc, hb⟩
  obtain ⟨hl, hones⟩ := uc_ones huc
  have P1 := put_new W7 #[.string ⟨#[]⟩, .int .i64 0, .slice none 0 0, .int .i64 0, .slice none 0 0] 25 cs3 hl.symm
  have HT := Lib.hid P1.1
  have HP3 := Lib.hid P1.2
  have HIA : Hid ((Tryd.prog.info? 25).map (·.size) = some cs3.toArray.size) := Lib.hid (u_info cs3 hl)
  have HON := Lib.hid (all_oneCell_toArray hones)
  have HB7 := Lib.hid (chain2 HB6.out hb)
  have HX7 := Lib.hid (HX6.out.later hb)
  have HY7 := Lib.hid (HY6.out.later hb)
  clear hb hones hl P1 PC huc
  go_wp2_with (refine wpList_store_mid rfl 25 (.tmp 8) (.tmp 36) rfl W7.heap.size 0 cs3.toArray rfl rfl HT.out HIA.out HON.out ?_; generalize World.setCells _ _ _ _ = W8 at HP3 ⊢; have HB8 := Lib.hid (chain2 HB7.out HP3.out.below); have HX8 := Lib.hid (HX7.out.later HP3.out.below); have HY8 := Lib.hid (HY7.out.later HP3.out.below))
  clear HT HIA HON
  refine (BB.out _ HB8.out).mono ?_
  rintro e W9 ⟨rfl, hb⟩
  have HB9 := Lib.hid (chain2 HB8.out hb)
  have HX9 := Lib.hid (HX8.out.later hb)
  have HY9 := Lib.hid (HY8.out.later hb)
  clear hb BB
  have y0 : W9.cell? ⟨W3.heap.size, 0, none⟩ = some (.string ⟨#[109]⟩) := HY9.out.at 0 _ rfl
  have y1 : W9.cell? ⟨W3.heap.size, 1, none⟩ = some (.int .i64 1) := HY9.out.at 1 _ rfl
  go_wp2_with (refine wpList_load_want (by rfl) 25 (.tmp 1) rfl w.heap.size 0 rfl [.string ⟨#[109]⟩, .int .i64 1, .slice none 0 0, .int .i64 0, .slice none 0 0] _ HX9.out.cells Tryd.underlying25 rfl HI.out ?_)
  refine (RI.out _ HB9.out).mono ?_
  rintro e W10 ⟨rfl, hb⟩
  have HB10 := Lib.hid (chain2 HB9.out hb)
  clear hb RI
  go_wp2
  go_ret
  exact ⟨rfl, HB10.out⟩

end Go.Proofs.YtmloljfnnkfkjaaDoor.Im

namespace Go.Proofs.YtmloljfnnkfkjaaDoor.Im
open Go.RowKit Dk In
open Go.ChangeShapes Go.WideShapes


theorem parse_cases (g : Ix → Ix) (s : List UInt8) : (∃ u t, rdUn g s = some (u, t) ∧ unB u = true ∧ encUn u = s ∧ parseU g s = (u, 0)) ∨ ∃ k : Int, (k = 2 ∨ k = 4) ∧ parseU g s = (Un.zero, k) := by
  unfold parseU
  cases hr : rdUn g s with
  | none => exact .inr ⟨2, .inl rfl, rfl⟩
  | some p =>
    obtain ⟨u, t⟩ := p
    by_cases h : unB u = true ∧ encUn u = s
    · exact .inl ⟨u, t, rfl, h.1, h.2, by simp only; rw [if_pos h]⟩
    · exact .inr ⟨4, .inr rfl, by simp only; rw [if_neg h]⟩
theorem smU_zero : SmU Un.zero := ⟨by decide, by decide, (fun x h => by cases h), by decide, (fun x h => by cases h)⟩
variable {X : Nat → Prop}
theorem conK (w : World) (HF : HasF w) : Hid (∀ W, Below w.heap.size w W → Calls Tryd.prog 9 #[] W fun e w' => e = .returned (.bool true) ∧ Below W.heap.size W w') := Lib.hid (fun W hb => known14 W (HF.later hb))
theorem uc_len {X : Nat → Prop} {W : World} {cs : List Value} {u : Un} (h : UC X W cs u) : cs.length = 5 := (uc_ones h).1

end Go.Proofs.YtmloljfnnkfkjaaDoor.Im

namespace Go.Proofs.YtmloljfnnkfkjaaDoor.Im
open Go.RowKit Dk In
open Go.ChangeShapes Go.WideShapes


theorem conPT (s : List UInt8) (w : World) (hs : s.length ≤ 1099511627776) (HF : HasF w) {u : Un} {k : Int} (hp : parseU fixI s = (u, k)) : Hid (∀ W, Below w.heap.size w W → Calls Tryd.prog 14 #[.string (Dk.strOf s)] W (ParseAnyT (u, k) W)) :=
  Lib.hid (fun W hw => by have := uparse_anyT s W hs (HF.later hw); rw [hp] at this; exact this)
theorem conPR (s : List UInt8) (w : World) (hs : s.length ≤ 1099511627776) {u : Un} {k : Int} (hp : parseU fixI s = (u, k)) : Hid (∀ W, Below w.heap.size w W → Calls Tryd.prog 15 #[.string (Dk.strOf s)] W (ParseAny (u, k) W)) :=
  Lib.hid (fun W _ => by have := rparse_any s W hs; rw [← parse_same, hp] at this; exact this)
theorem smU_parse (s : List UInt8) {u : Un} {k : Int} (hp : parseU fixI s = (u, k)) : SmU u ∧ u.prs.length ≤ 65536 := by
  rcases parse_cases fixI s with ⟨u2, t, hr, hu, he, hp2⟩ | ⟨k2, hk, hp2⟩
  · rw [hp2] at hp
    obtain ⟨rfl, rfl⟩ := Prod.mk.inj hp
    exact ⟨all_smU fixI s u2 t hr, by have := (un_parts hu).2.2.2.1.1; omega⟩
  · rw [hp2] at hp
    obtain ⟨rfl, rfl⟩ := Prod.mk.inj hp
    exact ⟨smU_zero, by decide⟩
set_option maxHeartbeats 4000000 in
set_option maxRecDepth 100000 in
theorem imageParses_law (s : ByteArray) (_hs : s.size ≤ maxLen) (w : World) (HF : HasF w) : Calls Tryd.prog 4 #[.string s] w fun e w' => e = .returned (.bool true) ∧ Below w.heap.size w w' := by
  obtain ⟨l, rfl⟩ : ∃ l, s = Dk.strOf l := ⟨s.data.toList, (strOf_self' s).symm⟩
  rw [strOf_size] at _hs
  have hsz := strOf_size l
  have K := conK w HF
  have HB1 : Hid (Below w.heap.size w w) := Lib.hid (Below.refl _ _)
  by_cases hl : l.length > 20000
  · have v0 : ((Dk.strOf l).size : Int) > 20000 := by omega
    generalize Dk.strOf l = ss at *
    clear hl hsz _hs HF
    go_enter Tryd.func4, Tryd.ntmps4
    go_wp2_with fail
    refine (K.out _ HB1.out).mono ?_
    rintro e W2 ⟨rfl, hb⟩
    have HB2 := Lib.hid (chain2 HB1.out hb)
    clear hb
    go_wp2
    go_ret
    exact ⟨by first | rfl | trivial, HB2.out⟩
  have v0 : ¬((Dk.strOf l).size : Int) > 20000 := by omega
  obtain ⟨u, k, hp⟩ : ∃ u k, parseU fixI l = (u, k) := ⟨_, _, rfl⟩
  obtain ⟨hsm, hpl⟩ := smU_parse l hp
  have P := conPT l w (by omega) HF hp
  have R := conPR l w (by omega) hp
  have HSM := Lib.hid hsm
  have HPL := Lib.hid hpl
  have e0 : ((k == k) : Bool) = true := by simp
  have e1 : ((k != k) : Bool) = false := by simp
  generalize Dk.strOf l = ss at *
  clear hl hsz _hs HF hp hsm hpl
  go_enter Tryd.func4, Tryd.ntmps4
  go_wp2_with fail
  refine (P.out _ HB1.out).mono ?_
  rintro e W2 ⟨cs, rfl, huT, hb⟩
  have huc := huT.uc
  have HU2 := Lib.hid huc
  have HZ2 : Hid (∃ (vu : Value) (p4 : Option Addr) (n4 c4 : Nat), cs = [.string (Dk.strOf u.nm), .int .i64 u.ver, vu, .int .i64 u.funs, .slice p4 n4 c4] ∧ n4 ≤ 65536 ∧ ∀ i, i < n4 → ∃ g o, p4 = some ⟨g, o, none⟩ ∧ (w.heap.size ≤ g ∧ g < W2.heap.size) ∧ W2.there g o (n4 * 6)) := Lib.hid (by
    obtain ⟨vu, vp, e, -, css, h2, h3⟩ := huT
    obtain ⟨p4, c4, e4⟩ := Row.form h2.1
    refine ⟨vu, p4, css.length, c4, by rw [e, e4], by rw [h3.len]; exact HPL.out, fun i hi => ?_⟩
    obtain ⟨p5, c5, e5, -, h5 | ⟨g, o, e6, -, -⟩⟩ := h2.1
    · rw [h5] at hi; simp at hi
    · rw [e4] at e5
      cases e5
      subst e6
      obtain ⟨h7, h8⟩ := h2.2 g o css.length c4 e4
      exact ⟨g, o, rfl, ⟨h7.1, h7.2⟩, h8⟩)
  have HB2 := Lib.hid (chain2 HB1.out hb)
  clear hb huc huT
  have HBW2 : Hid (Below W2.heap.size W2 W2) := Lib.hid (Below.refl _ _)
  have P1 := put_new W2 #[.string ⟨#[]⟩, .int .i64 0, .slice none 0 0, .int .i64 0, .slice none 0 0] 25 cs (uc_len HU2.out).symm
  have HT := Lib.hid P1.1
  have HP := Lib.hid P1.2
  have HIA : Hid ((Tryd.prog.info? 25).map (·.size) = some cs.toArray.size) := Lib.hid (u_info cs (uc_len HU2.out))
  have HON := Lib.hid (all_oneCell_toArray (uc_ones HU2.out).2)
  clear P1
  go_upto_region 4 with (first | (refine wpList_store_mid rfl 25 (.tmp 3) (.tmp 17) rfl W2.heap.size 0 cs.toArray rfl rfl HT.out HIA.out HON.out ?_; generalize World.setCells _ _ _ _ = V2 at HP ⊢))
  have HPB := Lib.hid HP.out.below
  have HU3 := Lib.hid (HU2.out.later HPB.out)
  have HB3 := Lib.hid (chain2 HB2.out HPB.out)
  have HBW3 := Lib.hid (chain2 HBW2.out HPB.out)
  have HX3 : Hid (El V2 W2.heap.size cs) := Lib.hid ⟨HP.out.cells, HP.out.lt⟩
  clear HT HP HIA HON HPB
  have HI := Lib.hid (u_info cs (uc_len HU3.out))
  have HS3 : Hid (W2.heap.size < V2.heap.size) := Lib.hid HX3.out.lt
  go_wp2_with fail
  refine (R.out _ HB3.out).mono ?_
  rintro e W4 ⟨ct, rfl, huc, hb⟩
  have HY4 := Lib.hid huc
  have HS4 : Hid (V2.heap.size ≤ W4.heap.size) := Lib.hid hb.size
  have HTB : Hid (Below V2.heap.size V2 W4) := Lib.hid hb
  have HX4 := Lib.hid (HX3.out.later hb)
  have HU4 := Lib.hid (HU3.out.later hb)
  have HB4 := Lib.hid (chain2 HB3.out hb)
  have HBW4 := Lib.hid (chain2 HBW3.out hb)
  clear hb huc R
  have P1 := put_new W4 #[.string ⟨#[]⟩, .int .i64 0, .slice none 0 0, .int .i64 0, .slice none 0 0] 25 ct (uc_len HY4.out).symm
  have HT := Lib.hid P1.1
  have HP := Lib.hid P1.2
  have HIA : Hid ((Tryd.prog.info? 25).map (·.size) = some ct.toArray.size) := Lib.hid (u_info ct (uc_len HY4.out))
  have HON := Lib.hid (all_oneCell_toArray (uc_ones HY4.out).2)
  clear P1
  go_upto_region 5 with (first | (refine wpList_store_mid rfl 25 (.tmp 5) (.tmp 22) rfl W4.heap.size 0 ct.toArray rfl rfl HT.out HIA.out HON.out ?_; generalize World.setCells _ _ _ _ = V4 at HP ⊢))
  have HPB := Lib.hid HP.out.below
  have HX5 := Lib.hid (HX4.out.later HPB.out)
  have HU5 := Lib.hid (HU4.out.later HPB.out)
  have HY5 := Lib.hid (HY4.out.later HPB.out)
  have HB5 := Lib.hid (chain2 HB4.out HPB.out)
  have HBW5 := Lib.hid (chain2 HBW4.out HPB.out)
  have HQ5 : Hid (El V4 W4.heap.size ct) := Lib.hid ⟨HP.out.cells, HP.out.lt⟩
  clear HT HP HIA HON HPB
  have HJ := Lib.hid (u_info ct (uc_len HY5.out))
  have SA : Hid (Calls Tryd.prog 16 #[.agg cs.toArray, .agg ct.toArray] V4 fun e w' => e = .returned (.bool true) ∧ Below V4.heap.size V4 w') := Lib.hid (by
      have := same_any V4 HU5.out HY5.out HSM.out HSM.out
      rw [decide_eq_true rfl] at this
      exact this)
  go_wp2_with (first | (refine wpList_load_mid rfl 25 (.tmp 3) rfl W2.heap.size 0 rfl cs _ HX5.out.cells Tryd.underlying25 rfl HI.out ?_) | (refine wpList_load_want (by rfl) 25 (.tmp 3) rfl W2.heap.size 0 rfl cs _ HX5.out.cells Tryd.underlying25 rfl HI.out ?_) | (refine wpList_load_mid rfl 25 (.tmp 5) rfl W4.heap.size 0 rfl ct _ HQ5.out.cells Tryd.underlying25 rfl HJ.out ?_) | (refine wpList_load_want (by rfl) 25 (.tmp 5) rfl W4.heap.size 0 rfl ct _ HQ5.out.cells Tryd.underlying25 rfl HJ.out ?_))
  refine SA.out.mono ?_
  rintro e W6 ⟨rfl, hb⟩
  have HX6 := Lib.hid (HX5.out.later hb)
  have HQ6 := Lib.hid (HQ5.out.later hb)
  have HU6 := Lib.hid (HU5.out.later hb)
  have HY6 := Lib.hid (HY5.out.later hb)
  have HB6 := Lib.hid (chain2 HB5.out hb)
  have HBW6 := Lib.hid (chain2 HBW5.out hb)
  clear hb SA
  have HBK : Hid (∀ g, g < W2.heap.size → W6.heap[g]? = W2.heap[g]?) := Lib.hid (fun g hg => HBW6.out.block g hg)
  obtain ⟨vu, p4, n4, c4, hcs, hn4, hrow⟩ := HZ2.out
  have HN4 := Lib.hid hn4
  have HROW := Lib.hid hrow
  clear HZ2 hn4 hrow
  have HX62 : Hid (El W6 W2.heap.size [.string (Dk.strOf u.nm), .int .i64 u.ver, vu, .int .i64 u.funs, .slice p4 n4 c4]) := Lib.hid (by rw [← hcs]; exact HX6.out)
  clear hcs
  go_wp2
  go_loopw [7] (fun vi wr => ∃ i : Nat, i ≤ n4 ∧ vi = .int .i64 (i : Int) ∧ Hid (wr.heap.size = W6.heap.size ∧ Only (fun j => ∃ g o, p4 = some ⟨g, o, none⟩ ∧ 0 < n4 ∧ j = g) W6 wr) ∧ Hid (∀ g o, p4 = some ⟨g, o, none⟩ → 0 < n4 → wr.there g o (n4 * 6))) (fun vi _ => n4 - (intOf vi).toNat)
  case atStart => exact ⟨0, Nat.zero_le _, rfl, Lib.hid ⟨rfl, Only.refl _ _⟩, Lib.hid (fun g o e h => by
    obtain ⟨g2, o2, e2, h2, h3⟩ := HROW.out 0 h
    rw [e] at e2; cases e2
    exact there_block h3 (HBK.out g h2.2))⟩
  case round =>
    obtain ⟨i, hi, rfl, HO, HT⟩ := hrel
    have HLO : Hid (∀ j, (∃ g o, p4 = some ⟨g, o, none⟩ ∧ 0 < n4 ∧ j = g) → w.heap.size ≤ j ∧ j < W2.heap.size) := Lib.hid (fun j ⟨g, o, e, h, ej⟩ => by
      obtain ⟨g2, o2, e2, h2, -⟩ := HROW.out 0 h
      rw [e] at e2; cases e2; subst ej; exact h2)
    have HXR : Hid (El wr W2.heap.size [.string (Dk.strOf u.nm), .int .i64 u.ver, vu, .int .i64 u.funs, .slice p4 n4 c4]) := Lib.hid (by
      have h1 := HX62.out
      exact ⟨rangeAt_block h1.cells (HO.out.2.block _ h1.lt (fun h => by have := (HLO.out _ h).2; omega)), by rw [HO.out.1]; exact h1.lt⟩)
    have c4x : wr.cell? ⟨W2.heap.size, 4, none⟩ = some (.slice p4 n4 c4) := HXR.out.at 4 _ rfl
    by_cases hlt : i < n4
    · have z0 : (0 : Int) ≤ (i : Int) := by omega
      have z1 : (i : Int) < (n4 : Int) := by omega
      have hn := HN4.out
      obtain ⟨g, o, hq, hg, -⟩ := HROW.out i hlt
      subst hq
      have hth := HT.out g o rfl (by omega)
      have h2 := hth (i * 6 + 2) (by omega)
      rw [← Nat.add_assoc] at h2
      obtain ⟨vv, hvv⟩ := Option.isSome_iff_exists.1 h2.1
      have hfr := h2.2
      have HO2 : Hid ((wr.setCell ⟨g, o + i * 6 + 2, none⟩ (.int .i64 99)).heap.size = W6.heap.size ∧ Only (fun j => ∃ g2 o2, (some ⟨g, o, none⟩ : Option Addr) = some ⟨g2, o2, none⟩ ∧ 0 < n4 ∧ j = g2) W6 (wr.setCell ⟨g, o + i * 6 + 2, none⟩ (.int .i64 99))) := Lib.hid ⟨by simp [HO.out.1], HO.out.2.setCell ⟨g, o + i * 6 + 2, none⟩ ⟨g, o, rfl, by omega, rfl⟩ _⟩
      have HT2 : Hid (∀ g2 o2, (some ⟨g, o, none⟩ : Option Addr) = some ⟨g2, o2, none⟩ → 0 < n4 → (wr.setCell ⟨g, o + i * 6 + 2, none⟩ (.int .i64 99)).there g2 o2 (n4 * 6)) := Lib.hid (fun g2 o2 e h => there_setCell (HT.out g2 o2 e h) _ _)
      clear hth h2 HO HT hg HLO
      go_wp2
      go_roundw
      case rel => exact ⟨i + 1, by omega, by go_num, HO2, HT2⟩
      case measure => simp [intOf]; omega
    · obtain rfl : n4 = i := by omega
      have HBR : Hid (Below w.heap.size w wr) := Lib.hid (HO.out.2.below HB6.out (fun j h => (HLO.out j h).1) (Nat.le_refl _))
      have HKY : Hid (Keeps (fun j => V2.heap.size ≤ j) W6 wr) := Lib.hid ⟨HO.out.2.size, fun j hj hl => HO.out.2.block j hl (fun h => by have := (HLO.out j h).2; have := HS3.out; omega)⟩
      have HYR := Lib.hid (HY6.out.keep HKY.out)
      have HQR : Hid (El wr W4.heap.size ct) := Lib.hid ⟨rangeAt_block HQ6.out.cells (HO.out.2.block _ HQ6.out.lt (fun h => by have := (HLO.out _ h).2; have := HS3.out; have := HS4.out; omega)), by rw [HO.out.1]; exact HQ6.out.lt⟩
      clear HO HT HLO HXR hi hlt
      have HB90 := HBR
      have HY90 := HYR
      have HQ90 := HQR
      clear HBR HYR HQR HKY
      go_wp2_with fail
      refine (P.out _ HB90.out).mono ?_
      rintro e W91 ⟨cz, rfl, huT, hb⟩
      have HZ91 := Lib.hid huT.uc
      have HQ91 := Lib.hid (HQ90.out.later hb)
      have HY91 := Lib.hid (HY90.out.later hb)
      have HB91 := Lib.hid (chain2 HB90.out hb)
      clear hb huT P
      have P1 := put_new W91 #[.string ⟨#[]⟩, .int .i64 0, .slice none 0 0, .int .i64 0, .slice none 0 0] 25 cz (uc_len HZ91.out).symm
      have HT := Lib.hid P1.1
      have HP := Lib.hid P1.2
      have HIA : Hid ((Tryd.prog.info? 25).map (·.size) = some cz.toArray.size) := Lib.hid (u_info cz (uc_len HZ91.out))
      have HON := Lib.hid (all_oneCell_toArray (uc_ones HZ91.out).2)
      clear P1
      go_upto_region 12 with (first | (refine wpList_store_mid rfl 25 (.tmp 8) (.tmp 48) rfl W91.heap.size 0 cz.toArray rfl rfl HT.out HIA.out HON.out ?_; generalize World.setCells _ _ _ _ = V91 at HP ⊢))
      have HPB := Lib.hid HP.out.below
      have HQ92 := Lib.hid (HQ91.out.later HPB.out)
      have HY92 := Lib.hid (HY91.out.later HPB.out)
      have HZ92 := Lib.hid (HZ91.out.later HPB.out)
      have HB92 := Lib.hid (chain2 HB91.out HPB.out)
      have HR92 : Hid (El V91 W91.heap.size cz) := Lib.hid ⟨HP.out.cells, HP.out.lt⟩
      clear HT HP HIA HON HPB
      have HL := Lib.hid (u_info cz (uc_len HZ92.out))
      have SA : Hid (Calls Tryd.prog 16 #[.agg cz.toArray, .agg ct.toArray] V91 fun e w' => e = .returned (.bool true) ∧ Below V91.heap.size V91 w') := Lib.hid (by
          have := same_any V91 HZ92.out HY92.out HSM.out HSM.out
          rw [decide_eq_true rfl] at this
          exact this)
      go_wp2_with (first | (refine wpList_load_mid rfl 25 (.tmp 5) rfl W4.heap.size 0 rfl ct _ HQ92.out.cells Tryd.underlying25 rfl HJ.out ?_) | (refine wpList_load_want (by rfl) 25 (.tmp 5) rfl W4.heap.size 0 rfl ct _ HQ92.out.cells Tryd.underlying25 rfl HJ.out ?_) | (refine wpList_load_mid rfl 25 (.tmp 8) rfl W91.heap.size 0 rfl cz _ HR92.out.cells Tryd.underlying25 rfl HL.out ?_) | (refine wpList_load_want (by rfl) 25 (.tmp 8) rfl W91.heap.size 0 rfl cz _ HR92.out.cells Tryd.underlying25 rfl HL.out ?_))
      refine SA.out.mono ?_
      rintro e W93 ⟨rfl, hb⟩
      have HQ93 := Lib.hid (HQ92.out.later hb)
      have HR93 := Lib.hid (HR92.out.later hb)
      have HY93 := Lib.hid (HY92.out.later hb)
      have HZ93 := Lib.hid (HZ92.out.later hb)
      have HB93 := Lib.hid (chain2 HB92.out hb)
      clear hb SA
      go_wp2_with (first | (refine wpList_load_mid rfl 25 (.tmp 5) rfl W4.heap.size 0 rfl ct _ HQ93.out.cells Tryd.underlying25 rfl HJ.out ?_) | (refine wpList_load_want (by rfl) 25 (.tmp 5) rfl W4.heap.size 0 rfl ct _ HQ93.out.cells Tryd.underlying25 rfl HJ.out ?_) | (refine wpList_load_mid rfl 25 (.tmp 8) rfl W91.heap.size 0 rfl cz _ HR93.out.cells Tryd.underlying25 rfl HL.out ?_) | (refine wpList_load_want (by rfl) 25 (.tmp 8) rfl W91.heap.size 0 rfl cz _ HR93.out.cells Tryd.underlying25 rfl HL.out ?_))
      refine (K.out _ HB93.out).mono ?_
      rintro e W94 ⟨rfl, hb⟩
      have HQ94 := Lib.hid (HQ93.out.later hb)
      have HR94 := Lib.hid (HR93.out.later hb)
      have HY94 := Lib.hid (HY93.out.later hb)
      have HZ94 := Lib.hid (HZ93.out.later hb)
      have HB94 := Lib.hid (chain2 HB93.out hb)
      clear hb
      go_wp2
      go_ret
      exact ⟨by first | rfl | trivial, HB94.out⟩
end Go.Proofs.YtmloljfnnkfkjaaDoor.Im

