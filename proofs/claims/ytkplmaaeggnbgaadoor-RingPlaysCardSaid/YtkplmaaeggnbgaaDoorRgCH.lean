/- What RingCrashes lays down, and what holds within a round; no walk. No condition but those that each states. -/
import Derived.Test.YtkplmaaeggnbgaaDoorRgRE
import Derived.Test.YtkplmaaeggnbgaaDoorDkCn
import Derived.Lib.SmallJoins
namespace Go.Proofs.YtkplmaaeggnbgaaDoor.Rg
open Go.RowKit Dk

/-- An operation of a script, as its cells hold it. -/
structure OpC where
  kind : Int
  e : Ent
  i : Int
  s : ByteArray
  mask : Nat

def OpC.cells (o : OpC) : List Value := .int .i64 o.kind :: (o.e.cells ++ [.int .i64 o.i, .string o.s, .int .u64 (o.mask : Int)])

structure OpC.Ok (o : OpC) : Prop where
  kind : (Lit.int .i64 o.kind).wf = true
  i : (Lit.int .i64 o.i).wf = true
  mask : o.mask < 2 ^ 64

theorem oc_one (o : OpC) : ∀ u ∈ o.cells, u.oneCell' = true := by
  intro u hu
  unfold OpC.cells at hu
  rcases List.mem_cons.1 hu with rfl | hu
  · rfl
  · rcases List.mem_append.1 hu with h | h
    · exact ecells_one _ u h
    · simp at h; rcases h with rfl | rfl | rfl <;> rfl
theorem oc_info (o : OpC) : (Tryd.prog.info? 46).map (·.size) = some o.cells.length := by kernel_rfl
theorem oc_infoA (o : OpC) : (Tryd.prog.info? 46).map (·.size) = some o.cells.toArray.size := oc_info o
theorem oc_all (o : OpC) : o.cells.toArray.all (·.oneCell') = true := all_oneCell_toArray (oc_one o)

/-- An operation lies in block B. -/
structure OB (W : World) (B : Nat) (o : OpC) : Prop where
  cells : W.rangeAt B 0 o.cells
  lt : B < W.heap.size
theorem OB.of_block {W W' : World} {B : Nat} {o : OpC} (h : OB W B o) (hb : W'.heap[B]? = W.heap[B]?) (hs : W.heap.size ≤ W'.heap.size) : OB W' B o := ⟨rangeAt_block h.cells hb, Nat.lt_of_lt_of_le h.lt hs⟩
theorem OB.later {W W' : World} {B : Nat} {o : OpC} (h : OB W B o) (k : Below W.heap.size W W') : OB W' B o := h.of_block (k.block B h.lt) k.size
theorem OB.only {W W' : World} {G : Nat → Prop} {B : Nat} {o : OpC} (h : OB W B o) (k : Only G W W') (hG : ¬G B) : OB W' B o := h.of_block (k.block B h.lt hG) k.size
theorem OB.c0 {W : World} {B : Nat} {o : OpC} (h : OB W B o) : W.cell? ⟨B, 0, none⟩ = some (.int .i64 o.kind) := by have := h.cells 0 _ rfl; rwa [Nat.zero_add] at this
theorem OB.c6 {W : World} {B : Nat} {o : OpC} (h : OB W B o) : W.cell? ⟨B, 6, none⟩ = some (.int .i64 o.i) := by have := h.cells 6 _ rfl; rwa [Nat.zero_add] at this
theorem OB.c8 {W : World} {B : Nat} {o : OpC} (h : OB W B o) : W.cell? ⟨B, 8, none⟩ = some (.int .u64 (o.mask : Int)) := by have := h.cells 8 _ rfl; rwa [Nat.zero_add] at this

/-- A new block of an operation that is none, into which one is stored. -/
theorem ob_room (W : World) : (W.alloc (.cells #[.int .i64 0, .int .i64 0, .int .i64 0, .int .i64 0, .int .i64 0, .string ⟨#[]⟩, .int .i64 0, .string ⟨#[]⟩, .int .u64 0] 46)).there W.heap.size 0 9 := there_new W _ _
theorem ob_put (W : World) (o : OpC) : OB ((W.alloc (.cells #[.int .i64 0, .int .i64 0, .int .i64 0, .int .i64 0, .int .i64 0, .string ⟨#[]⟩, .int .i64 0, .string ⟨#[]⟩, .int .u64 0] 46)).setCells W.heap.size 0 o.cells.toArray.toList) W.heap.size o ∧
    Below W.heap.size W ((W.alloc (.cells #[.int .i64 0, .int .i64 0, .int .i64 0, .int .i64 0, .int .i64 0, .string ⟨#[]⟩, .int .i64 0, .string ⟨#[]⟩, .int .u64 0] 46)).setCells W.heap.size 0 o.cells.toArray.toList) :=
  ⟨⟨World.rangeAt_setCells_same _ _ _ o.cells (ob_room W), by rw [Dk.size_setCells]; simp⟩, below_setCells (Below.refl _ _) _ (Nat.le_refl _) _ _ _ ((Below.refl _ _).alloc (Nat.le_refl _) _)⟩

/-- At a round's beginning. -/
structure CrW (w wr : World) (A g : Nat) (S : DS) : Prop where
  solo : Solo w wr (fun k => k = A) g S
  last : EB wr A ((lastE S).getD Ent.zero)

theorem solo_wrote {w0 w w' : World} {P G : Nat → Prop} {g : Nat} {S : DS} (h : Solo w0 w P g S) (k : Only G w w') (hG : ∀ i, G i → P i ∧ w0.heap.size ≤ i) : Solo w0 w' P g S := by
  obtain ⟨F, h, hb, h2, h3⟩ := h
  exact ⟨F, h.kept k (fun i h1 h4 => (h3 i (hG i h4).1).2 h1), k.below hb (fun i hi => (hG i hi).2) (Nat.le_refl _), fun i hi => ⟨(h2 i hi).1, Nat.lt_of_lt_of_le (h2 i hi).2 k.size⟩, fun i hi => ⟨Nat.lt_of_lt_of_le (h3 i hi).1 k.size, (h3 i hi).2⟩⟩

/-- Blocks beside a disk: A, and all since b0. -/
def PA (A b0 : Nat) (W : World) : Nat → Prop := fun k => k = A ∨ (b0 ≤ k ∧ k < W.heap.size)

/-- Within a round, before the disk is called: the operation lies in block b0, the entry of the last round in block A. -/
structure CrX (w W : World) (b0 A g : Nat) (S : DS) (x : Ent) (o : OpC) : Prop where
  solo : Solo w W (PA A b0 W) g S
  last : EB W A x
  op : OB W b0 o
  lt : A < b0 ∧ w.heap.size ≤ b0
theorem CrX.later {w W W' : World} {A b0 g : Nat} {S : DS} {x : Ent} {o : OpC} (h : CrX w W b0 A g S x o) (k : Below W.heap.size W W') : CrX w W' b0 A g S x o :=
  ⟨(h.solo.fresh (D := fun i => W.heap.size ≤ i ∧ i < W'.heap.size) k (fun i hi => hi)).less (fun i hi => hi.elim (fun e => .inl (.inl e)) (fun e => by
    rcases Nat.lt_or_ge i W.heap.size with h1 | h1
    · exact .inl (.inr ⟨e.1, h1⟩)
    · exact .inr ⟨h1, e.2⟩)), h.last.later k, h.op.later k, h.lt⟩
theorem CrX.put {w W : World} {A b0 g : Nat} {S : DS} {x : Ent} {o : OpC} (h : CrX w W b0 A g S x o) {B : Nat} (hB : b0 < B) (hB2 : B < W.heap.size) (vs : List Value) : CrX w (W.setCells B 0 vs) b0 A g S x o := by
  have ho : Only (fun k => k = B) W (W.setCells B 0 vs) := Only.setCells (F := fun k => k = B) B rfl vs 0 W (Only.refl _ _)
  have hs : (W.setCells B 0 vs).heap.size = W.heap.size := Dk.size_setCells _ _ _ _
  have h3 := h.lt
  refine ⟨?_, h.last.only ho (by omega), h.op.only ho (by omega), h.lt⟩
  have := solo_wrote h.solo ho (fun i hi => by subst hi; exact ⟨.inr ⟨Nat.le_of_lt hB, hB2⟩, by omega⟩)
  unfold PA at *
  rw [hs]
  exact this
/-- .. and the wanted entry in block B. -/
structure CrY (w W : World) (b0 A B g : Nat) (S : DS) (x e : Ent) (o : OpC) : Prop where
  x : CrX w W b0 A g S x o
  e : EB W B e
  lt : b0 < B

/-- A region that comes to its end, with a block whose number hangs on the order. -/
def AtB (f : Nat → Act) (F : Nat → World → Prop) : Exit → Act → World → Prop := fun e a w => e = .normal ∧ ∃ B, a = f B ∧ F B w
theorem region_at {P : Program} {c : Code} {Q : Exit → Act → World → Prop} {a : Act} {w : World} (f : Nat → Act) (F : Nat → World → Prop) (h : c.wp P (AtB f F) a w) (k : ∀ B w', F B w' → Q .normal (f B) w') : c.wp P Q a w :=
  Code.wp_mono (fun e a w hh => by obtain ⟨rfl, B, rfl, h⟩ := hh; exact k B w h) h

section
variable {Pr : Program} {ops : Array Oper} {Q : Exit → Act → World → Prop} {K : Act → World → Prop} {a : Act} {w : World}
theorem wpOp_wp {i : Nat} {o : Oper} (hi : ops[i]? = some o) (hw : Region.wanted o (yielded ops a.tmps) = true) (h : ∀ K' : Act → World → Prop, Hid (∀ a' w', K a' w' → K' a' w') → o.wp Pr a w K' Q) : wpOp Pr ops Q i K a w := by
  unfold Go.wpOp
  simp only [hi, hw, if_true]
  exact .inl (h K (Lib.hid fun _ _ h => h))
end

def wantE (c3 c2 n : Int) (i : Nat) : Ent := ⟨1 + c3, n, c2, i, sumB (UInt8.ofNat i)⟩
theorem wantE_valid {c3 c2 n : Int} {i : Nat} (h1 : 0 ≤ c3 ∧ c3 < 3) (h2 : 0 ≤ c2 ∧ c2 < 2) (h3 : 1 ≤ n ∧ n ≤ 4294967295) (h4 : i < 1000) : (wantE c3 c2 n i).valid = true :=
  decide_eq_true ⟨show 1 ≤ 1 + c3 by omega, show 1 + c3 ≤ 3 by omega, h3.1, h3.2, show 0 ≤ c2 by omega, show c2 ≤ 2 by omega, show (0 : Int) ≤ (i : Int) by omega, show (i : Int) ≤ 4294967295 by omega, sumB_length _⟩

theorem RowE.form3 {W : World} {v : Value} {l : List Ent} (h : RowE W v l) : ∃ pa n cap, v = .slice pa n cap ∧ n = l.length ∧ (0 < n → ∃ g, pa = some ⟨g, 0, none⟩) := by
  obtain ⟨pa, cap, h1, h2⟩ := h.form
  exact ⟨pa, _, cap, h1, rfl, h2⟩

theorem below_drewQ (w : World) : ∀ n, Below w.heap.size w (w.drewN n)
  | 0 => Below.refl _ _
  | n + 1 => by
    have h := below_drewQ w n
    have e : (w.drewN (n + 1)).heap = (w.drewN n).heap := rfl
    exact ⟨h.os, h.tape, h.output, by rw [e]; exact h.size, fun k hk => by rw [e]; exact h.block k hk⟩

/-- A disk in the state S, beside what I says of the blocks of P. -/
structure Rnd (w W : World) (P : Nat → Prop) (g : Nat) (S : DS) (I : World → Prop) : Prop where
  solo : Solo w W P g S
  inv : I W
  stab : ∀ W1 W2, (∀ k, P k → k < W1.heap.size) → Only (fun k => ¬P k) W1 W2 → I W1 → I W2

section
variable {w W W' : World} {P : Nat → Prop} {g : Nat} {S S' : DS} {I : World → Prop}
theorem Rnd.lt (h : Rnd w W P g S I) : ∀ k, P k → k < W.heap.size := by obtain ⟨F, -, -, -, h⟩ := h.solo; exact fun k hk => (h k hk).1
theorem Rnd.later (h : Rnd w W P g S I) (k : Below W.heap.size W W') : Rnd w W' P g S I := ⟨h.solo.later k, h.stab W W' h.lt (Only.of_below k) h.inv, h.stab⟩
theorem Rnd.step {f : Nat} {args : Array Value} {Ans : Ending → Prop} (h : Rnd w W P g S I) (C : ∀ F, DiskAt W F g S → (∀ k, F k → w.heap.size ≤ k) → Calls Tryd.prog f args W fun e w' => Ans e ∧ DiskAt w' (More F W) g S' ∧ Only F W w') :
    Calls Tryd.prog f args W fun e w' => Ans e ∧ Rnd w w' P g S' I ∧ Only (fun k => ¬P k) W w' :=
  (h.solo.step C).mono fun _ _ ⟨a, b, c⟩ => ⟨a, ⟨b, h.stab _ _ h.lt c h.inv, h.stab⟩, c⟩
theorem Rnd.add {I2 : World → Prop} {D : Nat → Prop} (h : Rnd w W P g S I) (k : Below W.heap.size W W') (hD : ∀ i, D i → W.heap.size ≤ i ∧ i < W'.heap.size) (h2 : I2 W')
    (hst : ∀ W1 W2, (∀ k, D k → k < W1.heap.size) → W1.heap.size ≤ W2.heap.size → (∀ k, D k → W2.heap[k]? = W1.heap[k]?) → I2 W1 → I2 W2) : Rnd w W' (fun i => P i ∨ D i) g S (fun W => I W ∧ I2 W) :=
  ⟨h.solo.fresh k hD, ⟨(h.later k).inv, h2⟩, fun W1 W2 hlt ho hi => ⟨h.stab W1 W2 (fun k hk => hlt k (.inl hk)) (ho.mono (fun _ e e2 => e (.inl e2))) hi.1, hst W1 W2 (fun k hk => hlt k (.inr hk)) ho.size (fun k hk => ho.block k (hlt k (.inr hk)) (fun e => e (.inr hk))) hi.2⟩⟩
/-- An entry's block is new. -/
theorem Rnd.addE (h : Rnd w W P g S I) (k : Below W.heap.size W W') {B : Nat} {e : Ent} (hB : B = W.heap.size) (he : EB W' B e) : Rnd w W' (fun i => P i ∨ i = B) g S (fun W => I W ∧ EB W B e) :=
  h.add (D := fun i => i = B) k (fun i hi => by subst hi; exact ⟨Nat.le_of_eq hB.symm, he.lt⟩) he (fun W1 W2 h1 h2 h3 h4 => h4.of_block (h3 B rfl) h2)
/-- A row of entries is new. -/
theorem Rnd.addR (h : Rnd w W P g S I) {v : Value} {l : List Ent} (hr : ScanR W W' v l) : Rnd w W' (fun i => P i ∨ (W.heap.size ≤ i ∧ i < W'.heap.size)) g S (fun U => I U ∧ RowE U v l ∧ ∀ b, v.ownBlock = some b → W.heap.size ≤ b ∧ b < W'.heap.size) :=
  h.add (D := fun i => W.heap.size ≤ i ∧ i < W'.heap.size) hr.below (fun _ hi => hi) ⟨hr.rowE, fun b hb => own_lo hr.row b hb⟩ (fun _ _ _ h2 h3 h4 => ⟨⟨ownsRow_block h4.1.row (fun b hb => h3 b (h4.2 b hb)), fun b hb => Nat.lt_of_lt_of_le (h4.1.lt b hb) h2⟩, h4.2⟩)
theorem Rnd.cut (h : Rnd w W P g S I) (k m : Nat) (hk : k < 2 ^ 63) (hm : m < 2 ^ 64) :
    Calls Tryd.prog 24 #[.pointer (some ⟨g, 0, none⟩), .int .i64 (k : Int), .int .u64 (m : Int)] W fun e w' => e = .returned (.int .i64 0) ∧ Rnd w w' P g (S.plan k m) I ∧ Only (fun k => ¬P k) W w' :=
  h.step (Ans := fun e => e = .returned (.int .i64 0)) (fun F hd _ => (cut_ok F g S k m W hd hk hm).mono fun _ _ ⟨a, b, c⟩ => ⟨a, b.mono (fun _ e => .inl e), c⟩)
theorem Rnd.fail (h : Rnd w W P g S I) (m : Nat) (hm : m < 2 ^ 64) (hc : S.c ≤ 2 ^ 40) :
    Calls Tryd.prog 26 #[.pointer (some ⟨g, 0, none⟩), .int .u64 (m : Int)] W fun e w' => e = .returned (.tuple #[]) ∧ Rnd w w' P g (S.fail m) I ∧ Only (fun k => ¬P k) W w' :=
  h.step (Ans := fun e => e = .returned (.tuple #[])) (fun F hd _ => (fail_any F g m S W hd hm hc).mono fun _ _ ⟨a, b, c⟩ => ⟨a, b.mono (fun _ e => .inl e), c⟩)
theorem Rnd.start (h : Rnd w W P g S I) :
    Calls Tryd.prog 28 #[.pointer (some ⟨g, 0, none⟩)] W fun e w' => e = .returned (.tuple #[]) ∧ Rnd w w' P g S.start I ∧ Only (fun k => ¬P k) W w' :=
  h.step (Ans := fun e => e = .returned (.tuple #[])) (fun F hd _ => (start_any F g S W hd).mono fun _ _ ⟨a, b, c⟩ => ⟨a, b.mono (fun _ e => .inl e), c⟩)
theorem Rnd.app (h : Rnd w W P g S I) (HK : HasK w) (e : Ent) (hc : S.c < 2 ^ 40) (ho : S.ops < 2 ^ 40) {x : Ent} {f : Int} (hR : (DS.app S e).2 = (x, f)) :
    Calls Tryd.prog 16 #[.pointer (some ⟨g, 0, none⟩), .agg e.cells.toArray] W fun y w' => y = .returned (.tuple #[.agg x.cells.toArray, .int .i64 f]) ∧ Rnd w w' P g (DS.app S e).1 I ∧ Only (fun k => ¬P k) W w' :=
  h.step (Ans := fun y => y = .returned (.tuple #[.agg x.cells.toArray, .int .i64 f])) (fun F hd hF => by
    have := app_any F g S e W hd (fun h0 => by have := hF 0 h0; have := HK.lt; omega) (HK.later h.solo.below) hc ho
    rw [hR] at this
    exact this)
theorem Rnd.scan (h : Rnd w W P g S I) (HK : HasK w) (hon : S.on = true) (hc : S.c ≤ 2 ^ 40) :
    Calls Tryd.prog 29 #[.pointer (some ⟨g, 0, none⟩)] W fun x w' => ∃ v, x = .returned (.tuple #[v, .int .i64 0]) ∧ ScanR W w' v (Rg.scan S.read 8) := by
  obtain ⟨F, hd, -⟩ := h.solo.disk
  exact scan_on F g S W hd hon hc (HK.later h.solo.below)
theorem Rnd.last (h : Rnd w W P g S I) (HK : HasK w) (hon : S.on = true) (hc : S.c ≤ 2 ^ 40) {y : Ent} {is : Bool} (h1 : (lastE S).getD Ent.zero = y) (h2 : (lastE S).isSome = is) :
    Calls Tryd.prog 31 #[.pointer (some ⟨g, 0, none⟩)] W fun x w' => x = .returned (.tuple #[.agg y.cells.toArray, .bool is, .int .i64 0]) ∧ Below W.heap.size W w' := by
  obtain ⟨F, hd, -⟩ := h.solo.disk
  have := last_on F g S W hd hon hc (HK.later h.solo.below)
  rwa [h1, h2] at this
/-- What I says, less of it. -/
theorem Rnd.imp {J : World → Prop} (h : Rnd w W P g S I) (h1 : ∀ W, I W → J W) (h2 : ∀ W1 W2, (∀ k, P k → k < W1.heap.size) → Only (fun k => ¬P k) W1 W2 → J W1 → J W2) : Rnd w W P g S J := ⟨h.solo, h1 _ h.inv, h2⟩
end

theorem CrY.rnd {w W : World} {b0 A B g : Nat} {S : DS} {x e : Ent} {o : OpC} (h : CrY w W b0 A B g S x e o) : Rnd w W (PA A b0 W) g S (fun U => EB U A x ∧ OB U b0 o ∧ EB U B e) :=
  ⟨h.x.solo, ⟨h.x.last, h.x.op, h.e⟩, fun _ _ _ ho hi => ⟨hi.1.only ho (fun e => e (.inl rfl)), hi.2.1.only ho (fun e => e (.inr ⟨Nat.le_refl _, h.x.op.lt⟩)), hi.2.2.only ho (fun e => e (.inr ⟨Nat.le_of_lt h.lt, h.e.lt⟩))⟩⟩

end Go.Proofs.YtkplmaaeggnbgaaDoor.Rg
