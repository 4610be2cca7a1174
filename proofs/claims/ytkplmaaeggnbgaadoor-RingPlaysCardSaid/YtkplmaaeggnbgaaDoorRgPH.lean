/- What RingPlays lays down: the journal's calls of both disks side by side; no walk. No condition but those that each states. -/
import Derived.Test.YtkplmaaeggnbgaaDoorRgSa
import Derived.Test.YtkplmaaeggnbgaaDoorDkCn
namespace Go.Proofs.YtkplmaaeggnbgaaDoor.Rg
open Go.RowKit Dk

section
variable {w0 w w' : World} {P D : Nat → Prop} {g r : Nat} {S S' T T' : DS}
theorem pair_ok (h : Pair w0 w P g r S S) : S.Ok := by obtain ⟨F, G, h, -⟩ := h; exact h.d.ok
theorem pair_new {w w1 w2 : World} (n : Nat) (h1 : DiskAt w1 (fun k => w.heap.size ≤ k) (w.heap.size + 2) (new n)) (b1 : Below w.heap.size w w1) (h2 : RefAt w2 (fun k => w1.heap.size ≤ k) w1.heap.size (new n)) (b2 : Below w1.heap.size w1 w2) :
    Pair w w2 (fun _ => False) (w.heap.size + 2) w1.heap.size (new n) (new n) :=
  ⟨fun k => w.heap.size ≤ k ∧ k < w1.heap.size, fun k => w1.heap.size ≤ k ∧ k < w2.heap.size, ⟨h1.tight.below b2, h2.tight, fun _k h1 h2 => absurd h1.2 (Nat.not_lt.2 h2.1), fun _k hk => ⟨hk.1, Nat.lt_of_lt_of_le hk.2 b2.size⟩, fun _k hk => ⟨Nat.le_trans b1.size hk.1, hk.2⟩, chain2 b1 b2⟩, fun _k hk => hk.elim⟩

/-- What is written into P's blocks, or others that are none of the disks', is nothing to them. -/
theorem pair_stepD {f : Nat} {args : Array Value} {Ans : Ending → Prop} (h : Pair w0 w P g r T S) (C : ∀ F, DiskAt w F g T → (∀ k, F k → w0.heap.size ≤ k) → Calls Tryd.prog f args w fun e w' => Ans e ∧ DiskAt w' (More F w) g T' ∧ Only F w w') :
    Calls Tryd.prog f args w fun e w' => Ans e ∧ Pair w0 w' P g r T' S ∧ Only (fun k => ¬P k) w w' := by
  obtain ⟨F, G, h, hp⟩ := h
  refine (C F h.d (fun k hk => (h.lf k hk).1)).mono fun e w' ⟨ha, hd, ho⟩ => ⟨ha, ⟨fun k => More F w k ∧ k < w'.heap.size, G, ⟨hd.tight, h.r.kept ho (fun i h1 h2 => h.ap i h2 h1), fun k hk hg => hk.1.elim (fun e => h.ap k e hg) (fun e => absurd (h.lg k hg).2 (Nat.not_lt.2 e)), fun k hk => ⟨hk.1.elim (fun e => (h.lf k e).1) (fun e => Nat.le_trans h.below.size e), hk.2⟩, fun k hk => ⟨(h.lg k hk).1, Nat.lt_of_lt_of_le (h.lg k hk).2 ho.size⟩, ho.below h.below (fun i hi => (h.lf i hi).1) (Nat.le_refl _)⟩,
    fun k hk => ⟨Nat.lt_of_lt_of_le (hp k hk).1 ho.size, fun e => e.1.elim (hp k hk).2.1 (fun e => absurd (hp k hk).1 (Nat.not_lt.2 e)), (hp k hk).2.2⟩⟩, ho.mono (fun k e e2 => (hp k e2).2.1 e)⟩

theorem pair_appD (h : Pair w0 w P g r T S) (HK : HasK w0) (e : Ent) (hc : T.c < 2 ^ 40) (ho : T.ops < 2 ^ 40) :
    Calls Tryd.prog 16 #[.pointer (some ⟨g, 0, none⟩), .agg e.cells.toArray] w fun y w' => y = .returned (.tuple #[.agg (DS.app T e).2.1.cells.toArray, .int .i64 (DS.app T e).2.2]) ∧ Pair w0 w' P g r (DS.app T e).1 S ∧ Only (fun k => ¬P k) w w' :=
  pair_stepD (Ans := fun y => y = .returned (.tuple #[.agg (DS.app T e).2.1.cells.toArray, .int .i64 (DS.app T e).2.2])) h (fun F hd hlo => app_any F g T e w hd (fun e => absurd (hlo 0 e) (Nat.not_le.2 HK.lt)) (HK.later h.below) hc ho)
theorem pair_appR (h : Pair w0 w P g r T S) (hok : S.Ok) (e : Ent) (hc : S.c < 2 ^ 40) (ho : S.ops < 2 ^ 40) :
    Calls Tryd.prog 18 #[.pointer (some ⟨r, 0, none⟩), .agg e.cells.toArray] w fun y w' => y = .returned (.tuple #[.agg (DS.app S e).2.1.cells.toArray, .int .i64 (DS.app S e).2.2]) ∧ Pair w0 w' P g r T (DS.app S e).1 ∧ Only (fun k => ¬P k) w w' :=
  h.stepR (Ans := fun y => y = .returned (.tuple #[.agg (DS.app S e).2.1.cells.toArray, .int .i64 (DS.app S e).2.2])) (fun G hr => rapp_any G r S e w hr hok hc ho)

/-- What Scan answers. -/
def DS.scn (S : DS) : List Ent × Int := if S.on = false then ([], 7) else (scan S.read 8, 0)
theorem scn_len (S : DS) : (DS.scn S).1.length ≤ 8 := by
  unfold DS.scn; split
  · exact Nat.zero_le _
  · exact scan_length _ _

theorem pair_scanD (h : Pair w0 w P g r T S) (HK : HasK w0) (hc : T.c ≤ 2 ^ 40) :
    Calls Tryd.prog 29 #[.pointer (some ⟨g, 0, none⟩)] w fun y w' => ∃ v, y = .returned (.tuple #[v, .int .i64 (DS.scn T).2]) ∧ RowE w' v (DS.scn T).1 ∧ Below w.heap.size w w' := by
  have hb := h.below
  obtain ⟨F, G, h, -⟩ := h
  unfold DS.scn
  by_cases hon : T.on = false
  · rw [if_pos hon]
    exact (scan_off F g T w h.d hon).mono fun _ _ ⟨a, b⟩ => by subst b; exact ⟨_, a, ⟨World.ownsRow_nil _ _ _ _, fun b hb => by cases hb⟩, Below.refl _ _⟩
  · rw [if_neg hon]
    have hon' : T.on = true := by cases e : T.on; exact absurd e hon; rfl
    exact (scan_on F g T w h.d hon' hc (HK.later hb)).mono fun _ _ ⟨v, a, b⟩ => ⟨v, a, b.rowE, b.below⟩
theorem pair_scanR (h : Pair w0 w P g r T S) (hok : S.Ok) (hc : S.c ≤ 2 ^ 40) :
    Calls Tryd.prog 30 #[.pointer (some ⟨r, 0, none⟩)] w fun y w' => ∃ v, y = .returned (.tuple #[v, .int .i64 (DS.scn S).2]) ∧ RowQ w' v (DS.scn S).1 ∧ Below w.heap.size w w' := by
  obtain ⟨F, G, h, -⟩ := h
  unfold DS.scn
  by_cases hon : S.on = false
  · rw [if_pos hon]
    exact (rscan_off G r S w h.r hon).mono fun _ _ ⟨a, b⟩ => by subst b; exact ⟨_, a, ⟨World.ownsRow_nil _ _ _ _, fun b hb => by cases hb⟩, Below.refl _ _⟩
  · rw [if_neg hon]
    have hon' : S.on = true := by cases e : S.on; exact absurd e hon; rfl
    exact (rscan_on G r S w h.r hok hon' hc).mono fun _ _ ⟨v, a, b⟩ => ⟨v, a, b.rowQ, b.below⟩
theorem pair_lastD (h : Pair w0 w P g r T S) (HK : HasK w0) (hc : T.c ≤ 2 ^ 40) :
    Calls Tryd.prog 31 #[.pointer (some ⟨g, 0, none⟩)] w fun x w' => x = .returned (.tuple #[.agg (DS.last T).1.cells.toArray, .bool (DS.last T).2.1, .int .i64 (DS.last T).2.2]) ∧ Below w.heap.size w w' := by
  have hb := h.below
  obtain ⟨F, G, h, -⟩ := h
  exact last_any F g T w h.d hc (HK.later hb)
theorem pair_lastR (h : Pair w0 w P g r T S) (hok : S.Ok) (hc : S.c ≤ 2 ^ 40) :
    Calls Tryd.prog 32 #[.pointer (some ⟨r, 0, none⟩)] w fun x w' => x = .returned (.tuple #[.agg (DS.last S).1.cells.toArray, .bool (DS.last S).2.1, .int .i64 (DS.last S).2.2]) ∧ Below w.heap.size w w' := by
  obtain ⟨F, G, h, -⟩ := h
  exact rlast_any G r S w h.r hok hc
end

theorem writeP_few (S : DS) (i : Nat) (s : Bytes) : (S.write i s).1.c ≤ S.c + 1 ∧ (S.write i s).1.ops ≤ S.ops + 1 := by
  have := step_few (S.put i s)
  exact ⟨Nat.le_of_eq this.1, Nat.le_of_eq this.2⟩
theorem syncP_few (S : DS) : S.sync.1.c ≤ S.c ∧ S.sync.1.ops ≤ S.ops + 1 := by
  have := step_few S
  unfold DS.sync
  split
  · exact ⟨Nat.le_of_eq this.1, Nat.le_of_eq this.2⟩
  · exact ⟨Nat.le_of_eq this.1, Nat.le_of_eq this.2⟩
theorem app_few (S : DS) (e : Ent) : (DS.app S e).1.c ≤ S.c + 1 ∧ (DS.app S e).1.ops ≤ S.ops + 2 := by
  unfold DS.app
  have h1 := writeP_few S ((e.num (lastN S + 1)).number % 8).toNat (e.num (lastN S + 1)).blk
  have h2 := syncP_few (S.write ((e.num (lastN S + 1)).number % 8).toNat (e.num (lastN S + 1)).blk).1
  repeat' split
  all_goals (constructor <;> dsimp only <;> omega)

section
variable {W W' : World} {B : Nat} {o : OpC}
theorem OB.c5 (h : OB W B o) : W.cell? ⟨B, 5, none⟩ = some (.string (strOf o.e.sum)) := by have := h.cells 5 _ rfl; rwa [Nat.zero_add] at this
theorem OB.c7 (h : OB W B o) : W.cell? ⟨B, 7, none⟩ = some (.string o.s) := by have := h.cells 7 _ rfl; rwa [Nat.zero_add] at this
theorem OB.ent (h : OB W B o) : W.rangeAt B 1 o.e.cells := fun j v hv => by
  have hj : j < 5 := (List.getElem?_eq_some_iff.1 hv).1
  have := h.cells (1 + j) v (by
    show (Value.int .i64 o.kind :: (o.e.cells ++ _))[1 + j]? = _
    rw [Nat.add_comm, List.getElem?_cons_succ, List.getElem?_append_left hj]; exact hv)
  rwa [Nat.zero_add] at this
end

/-- Within a round: the operation lies in block b0, beside both disks. -/
structure PlX (w W : World) (b0 g r : Nat) (T S : DS) (o : OpC) : Prop where
  pair : Pair w W (fun k => k = b0) g r T S
  op : OB W b0 o
section
variable {w W W' : World} {b0 g r : Nat} {S T S' T' : DS} {o : OpC}
theorem PlX.later (h : PlX w W b0 g r T S o) (k : Below W.heap.size W W') : PlX w W' b0 g r T S o := ⟨h.pair.later k, h.op.later k⟩
theorem PlX.next (h : PlX w W b0 g r T S o) (h2 : Pair w W' (fun k => k = b0) g r T' S') (k : Only (fun k => ¬(k = b0)) W W') : PlX w W' b0 g r T' S' o := ⟨h2, h.op.only k (fun e => e rfl)⟩
theorem PlX.less (h : PlX w W b0 g r T S o) : Pair w W (fun _ => False) g r T S := h.pair.less (fun _ e => e.elim)
end

/-- Both entries, beside the operation and the disks. -/
structure PlE (w W : World) (b0 g r A B : Nat) (T S : DS) (o : OpC) (x y : Ent) : Prop where
  p : PlX w W b0 g r T S o
  a : EB W A x
  b : EB W B y
theorem PlE.later {w W W' : World} {b0 g r A B : Nat} {S T : DS} {o : OpC} {x y : Ent} (h : PlE w W b0 g r A B T S o x y) (k : Below W.heap.size W W') : PlE w W' b0 g r A B T S o x y := ⟨h.p.later k, h.a.later k, h.b.later k⟩

/-- What is compared at a round's end. -/
structure PlF (w W : World) (g r A B : Nat) (S : DS) (va vb : Value) (l : List Ent) (x : Ent) : Prop where
  pair : Pair w W (fun _ => False) g r S S
  ra : RowE W va l
  rb : RowQ W vb l
  a : EB W A x
  b : EB W B x
theorem PlF.later {w W W' : World} {g r A B : Nat} {S : DS} {va vb : Value} {l : List Ent} {x : Ent} (h : PlF w W g r A B S va vb l x) (k : Below W.heap.size W W') : PlF w W' g r A B S va vb l x := ⟨h.pair.later k, h.ra.later k, h.rb.later k, h.a.later k, h.b.later k⟩

end Go.Proofs.YtkplmaaeggnbgaaDoor.Rg
