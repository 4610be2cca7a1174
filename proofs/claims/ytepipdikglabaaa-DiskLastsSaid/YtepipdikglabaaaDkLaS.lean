/- What DiskLasts keeps: a row of texts for each block, beside a disk and an array of texts. No condition but those that each states. -/
import Derived.Test.YtepipdikglabaaaDkSuW
namespace Go.Proofs.Ytepipdikglabaaa.Dk
open Go.RowKit

theorem bit_all (j : Nat) : bit allM j = true := by
  have h : ∀ r, r < 64 → (allM / 2 ^ r % 2 == 1) = true := by decide
  exact h (j % 64) (Nat.mod_lt _ (by decide))
theorem bit_zero (j : Nat) : bit 0 j = false := by unfold bit; simp

theorem stl_zero (W : List (Nat × Bytes)) (L : List Bytes) : ∀ k, stl 0 W L k = L
  | 0 => rfl
  | k + 1 => by unfold stl; rw [if_neg (by rw [bit_zero]; decide)]; exact stl_zero W L k

theorem stl_or (m : Nat) (W : List (Nat × Bytes)) (L : List Bytes) (i : Nat) : ∀ n, bAt (stl m W L n) i = bAt L i ∨ ∃ j, j < n ∧ (wAt W j).1 = i ∧ bAt (stl m W L n) i = (wAt W j).2
  | 0 => .inl rfl
  | n + 1 => by
    unfold stl
    have ih := stl_or m W L i n
    split
    · rw [bAt_set]
      split
      · rename_i h
        exact .inr ⟨n, Nat.lt_succ_self _, h.1.symm, rfl⟩
      · exact ih.imp id (fun ⟨j, h1, h2⟩ => ⟨j, by omega, h2⟩)
    · exact ih.imp id (fun ⟨j, h1, h2⟩ => ⟨j, by omega, h2⟩)

theorem read_put (T : DS) (k : Nat) (s : Bytes) : (T.put k s).tick.read k = s := by
  unfold DS.read DS.readUpto
  show (match lastUpto (T.W ++ [(k, s)]) k (T.W ++ [(k, s)]).length with | some j => (wAt (T.W ++ [(k, s)]) j).2 | none => bAt T.L k) = s
  have h := lastIx_put T.W k k s
  unfold lastIx at h
  rw [h, if_pos rfl]
  show (wAt (T.W ++ [(k, s)]) T.W.length).2 = s
  rw [wAt_app_eq]

/-- Ahead of the Sync, behind i writes. -/
structure LaOne (T : DS) (last : Nat → Bytes) (i : Nat) : Prop where
  on : T.on = true
  next : T.next = none
  L : T.L.length = 16
  W : T.W.length = i
  c : T.c ≤ i
  ops : T.ops ≤ i
  all : ∀ k, k < 16 → bAt (stl allM T.W T.L i) k = last k

theorem laOne_new {last : Nat → Bytes} (h : ∀ i, i < 16 → last i = zeroB) : LaOne (new 16) last 0 :=
  ⟨rfl, rfl, rfl, rfl, Nat.le_refl _, Nat.le_refl _, fun k hk => by rw [h k hk]; exact bAt_rep 16 zeroB hk⟩

theorem LaOne.put {T : DS} {last : Nat → Bytes} {i : Nat} (h : LaOne T last i) (k : Nat) (hk : k < 16) (s : Bytes) : LaOne (T.write k s).1 (fun q => if q = k then s else last q) (i + 1) ∧ errOf (T.write k s).2 = 0 := by
  have hc := h.c
  have ho := h.ops
  have hL := h.L
  have hst : stl allM (T.W ++ [(k, s)]) T.L (i + 1) = (stl allM T.W T.L i).set k s := by
    have := stl_put allM T.W T.L k s
    rw [if_pos (bit_all _), h.W] at this
    exact this
  rw [write_none h.next]
  refine ⟨⟨h.on, h.next, h.L, ?_, ?_, ?_, fun q hq => ?_⟩, rfl⟩
  · show (T.W ++ [(k, s)]).length = i + 1; rw [List.length_append, h.W]; rfl
  · show T.c + 1 ≤ i + 1; omega
  · show T.ops + 1 ≤ i + 1; omega
  · show bAt (stl allM (T.W ++ [(k, s)]) T.L (i + 1)) q = _
    rw [hst, bAt_set]
    have : (stl allM T.W T.L i).length = 16 := by rw [stl_length, hL]
    by_cases e : q = k
    · rw [if_pos ⟨e, by omega⟩, if_pos e]
    · rw [if_neg (fun h => e h.1), if_neg e]; exact h.all q hq

/-- Behind the Sync and i writes more. -/
structure LaTwo (T : DS) (last : Nat → Bytes) (M : Nat → List Bytes) (i : Nat) : Prop where
  on : T.on = true
  next : T.next = none
  L : T.L.length = 16
  W : T.W.length = i
  c : T.c ≤ 40 + i
  ops : T.ops ≤ 41 + i
  all : ∀ k, k < 16 → bAt T.L k = last k
  each : ∀ j, j < i → (wAt T.W j).2 ∈ M (wAt T.W j).1
  few : ∀ q, (M q).length ≤ i

theorem LaOne.sync {T : DS} {last : Nat → Bytes} {i : Nat} (h : LaOne T last i) (hi : i ≤ 40) {M : Nat → List Bytes} (hM : ∀ q, M q = []) : LaTwo T.sync.1 last M 0 ∧ errOf T.sync.2 = 0 := by
  have hc := h.c
  have ho := h.ops
  have e : T.sync = (T.tick.settled allM, true) := by unfold DS.sync; rw [step_none h.next]; rfl
  rw [e]
  refine ⟨⟨h.on, h.next, (stl_length _ _ _ _).trans h.L, rfl, ?_, ?_, fun k hk => ?_, fun j hj => absurd hj (Nat.not_lt_zero j), fun q => by rw [hM q]; exact Nat.le_refl _⟩, rfl⟩
  · show T.c ≤ 40 + 0; omega
  · show T.ops + 1 ≤ 41 + 0; omega
  · show bAt (stl allM T.W T.L T.W.length) k = _
    rw [h.W]; exact h.all k hk

theorem LaTwo.put {T : DS} {last : Nat → Bytes} {M : Nat → List Bytes} {i : Nat} (h : LaTwo T last M i) (k : Nat) (s : Bytes) :
    LaTwo (T.write k s).1 last (fun q => if q = k then M k ++ [s] else M q) (i + 1) ∧ errOf (T.write k s).2 = 0 ∧ (T.write k s).1.read k = s := by
  have hc := h.c
  have ho := h.ops
  rw [write_none h.next]
  refine ⟨⟨h.on, h.next, h.L, ?_, ?_, ?_, h.all, fun j hj => ?_, fun q => ?_⟩, rfl, read_put T k s⟩
  · show (T.W ++ [(k, s)]).length = i + 1; rw [List.length_append, h.W]; rfl
  · show T.c + 1 ≤ 40 + (i + 1); omega
  · show T.ops + 1 ≤ 41 + (i + 1); omega
  · show (wAt (T.W ++ [(k, s)]) j).2 ∈ (if (wAt (T.W ++ [(k, s)]) j).1 = k then M k ++ [s] else M (wAt (T.W ++ [(k, s)]) j).1)
    by_cases e : j = i
    · subst e
      rw [show wAt (T.W ++ [(k, s)]) j = (k, s) by rw [← h.W]; exact wAt_app_eq _ _]
      rw [if_pos rfl]
      simp
    · rw [wAt_app_lt (by rw [h.W]; omega)]
      have := h.each j (by omega)
      by_cases e2 : (wAt T.W j).1 = k
      · rw [if_pos e2, ← e2]; exact List.mem_append_left _ this
      · rw [if_neg e2]; exact this
  · have := h.few q
    have := h.few k
    by_cases e : q = k
    · rw [if_pos e, List.length_append]; simp; omega
    · rw [if_neg e]; omega

/-- Behind the failure. -/
structure LaEnd (T : DS) (last : Nat → Bytes) (M : Nat → List Bytes) (m : Nat) : Prop where
  on : T.on = true
  L : T.L.length = 16
  c : T.c ≤ 140
  one : ∀ k, k < 16 → T.read k = last k ∨ ∃ p : Nat, p < (M k).length ∧ (M k)[p]? = some (T.read k)
  zero : m = 0 → ∀ k, k < 16 → T.read k = last k

theorem LaTwo.fail {T : DS} {last : Nat → Bytes} {M : Nat → List Bytes} {i : Nat} (h : LaTwo T last M i) (hi : i ≤ 100) (m : Nat) : (T.fail m).on = false ∧ LaEnd (T.fail m).start last M m := by
  have hc := h.c
  have e : T.fail m = T.lose m := by unfold DS.fail; rw [h.on]; rfl
  rw [e]
  have hr : ∀ k, (T.lose m).start.read k = bAt (stl m T.W T.L i) k := fun k => by
    show bAt (stl m T.W T.L T.W.length) k = _
    rw [h.W]
  refine ⟨rfl, rfl, (lose_len _ _).trans h.L, ?_, fun k hk => ?_, fun hm k hk => ?_⟩
  · show T.c ≤ 140; omega
  · rw [hr]
    rcases stl_or m T.W T.L k i with h1 | ⟨j, hj, h1, h2⟩
    · exact .inl (h1.trans (h.all k hk))
    · have := h.each j hj
      rw [h1] at this
      obtain ⟨p, hp, he⟩ := List.getElem_of_mem this
      exact .inr ⟨p, hp, by rw [h2, List.getElem?_eq_getElem hp, he]⟩
  · subst hm
    rw [hr, stl_zero]; exact h.all k hk

def strs (l : List Bytes) : List Value := l.map (fun s => .string (strOf s))
theorem strs_push (l : List Bytes) (s : Bytes) : strs (l ++ [s]) = strs l ++ [.string (strOf s)] := by simp [strs]

/-- Sixteen rows of texts: their slices lie in block B. -/
structure MayAt (w W : World) (A B : Nat) (F : Nat → Prop) (V : Nat → Value) (M : Nat → List Bytes) : Prop where
  lo : w.heap.size ≤ B
  lt : B < W.heap.size
  ne : A ≠ B
  notA : ¬F A
  notB : ¬F B
  cell : ∀ i, i < 16 → W.cell? ⟨B, i, none⟩ = some (V i)
  free : ∀ i, i < 16 → W.frozen? ⟨B, i, none⟩ = false
  row : ∀ i, i < 16 → W.ownsRow 0 9 1 (V i) (M i).length (strs (M i))
  blk : ∀ i, i < 16 → ∀ b, (V i).ownBlock = some b → w.heap.size ≤ b ∧ b < W.heap.size ∧ b ≠ A ∧ b ≠ B ∧ ¬F b
  apart : ∀ i j, i < 16 → j < 16 → i ≠ j → ∀ b, (V i).ownBlock = some b → (V j).ownBlock ≠ some b

theorem MayAt.kept {w W W' : World} {A B : Nat} {F G : Nat → Prop} {V : Nat → Value} {M : Nat → List Bytes} (h : MayAt w W A B F V M) (k : Only G W W') (hB : ¬G B) (hr : ∀ i, i < 16 → ∀ b, (V i).ownBlock = some b → ¬G b) : MayAt w W' A B F V M :=
  have e := k.block B h.lt hB
  ⟨h.lo, Nat.lt_of_lt_of_le h.lt k.size, h.ne, h.notA, h.notB, fun i hi => (World.cell?_of_block (a := ⟨B, i, none⟩) e).trans (h.cell i hi), fun i hi => (World.frozen?_of_block (a := ⟨B, i, none⟩) e).trans (h.free i hi),
    fun i hi => ownsRow_block (h.row i hi) (fun b hb => k.block b (h.blk i hi b hb).2.1 (hr i hi b hb)), fun i hi b hb => by obtain ⟨h1, h2, h3⟩ := h.blk i hi b hb; exact ⟨h1, Nat.lt_of_lt_of_le h2 k.size, h3⟩, h.apart⟩
theorem MayAt.only {w W W' : World} {A B : Nat} {F : Nat → Prop} {V : Nat → Value} {M : Nat → List Bytes} (h : MayAt w W A B F V M) (k : Only F W W') : MayAt w W' A B F V M := h.kept k h.notB (fun i hi b hb => (h.blk i hi b hb).2.2.2.2)
theorem MayAt.below {w W W' : World} {A B : Nat} {F : Nat → Prop} {V : Nat → Value} {M : Nat → List Bytes} (h : MayAt w W A B F V M) (k : Below W.heap.size W W') : MayAt w W' A B F V M := h.only (Only.of_below k)

theorem may_push {w W3 W7 : World} {A B : Nat} {F : Nat → Prop} {V : Nat → Value} {M : Nat → List Bytes} (h : MayAt w W3 A B F V M) (hA : A < W3.heap.size) (k : Nat) (hk : k < 16) (s : Bytes) {o : Obj} {g' cap n : Nat} (hn : n = (M k).length)
    (hrow : W7.ownsRow 0 9 1 (.slice (some ⟨g', 0, none⟩) (n + 1) cap) (n + 1) (strs (M k) ++ [.string (strOf s)])) (hgr : (W3.alloc o).grownBy W7 (V k).ownBlock) (hg : (V k).ownBlock = some g' ∨ g' = W3.heap.size + 1) (hlt : g' < W7.heap.size) :
    MayAt w (W7.setCell ⟨B, k, none⟩ (.slice (some ⟨g', 0, none⟩) (n + 1) cap)) A B (fun j => F j ∧ (j < W3.heap.size ∨ W7.heap.size ≤ j)) (fun q => if q = k then .slice (some ⟨g', 0, none⟩) (n + 1) cap else V q) (fun q => if q = k then M k ++ [s] else M q) ∧
    Only (fun j => j = B ∨ (V k).ownBlock = some j) W3 (W7.setCell ⟨B, k, none⟩ (.slice (some ⟨g', 0, none⟩) (n + 1) cap)) := by
  subst hn
  obtain ⟨U, hU⟩ : ∃ U, U = Value.slice (some ⟨g', 0, none⟩) ((M k).length + 1) cap := ⟨_, rfl⟩
  rw [← hU] at hrow ⊢
  have hown : U.ownBlock = some g' := by rw [hU]; rfl
  have o7 : Only (fun j => (V k).ownBlock = some j) W3 W7 := ((Only.refl _ W3).alloc o).trans (Only.of_grown hgr (fun k e => e)) (fun _ _ e => e)
  have hO : Only (fun j => j = B ∨ (V k).ownBlock = some j) W3 (W7.setCell ⟨B, k, none⟩ U) := (o7.mono (fun _ e => .inr e)).setCell ⟨B, k, none⟩ (.inl rfl) _
  have hB := h.lt
  have hs7 := o7.size
  have nB : (V k).ownBlock ≠ some B := fun e => (h.blk k hk B e).2.2.2.1 rfl
  have b7 := o7.block B hB nB
  have hbs : ∀ q, q ≠ B → (W7.setCell ⟨B, k, none⟩ U).heap[q]? = W7.heap[q]? := fun q hq => Below.heap_setCell _ _ _ _ hq
  have hg2 : w.heap.size ≤ g' ∧ g' ≠ A ∧ g' ≠ B ∧ ¬(F g' ∧ (g' < W3.heap.size ∨ W7.heap.size ≤ g')) := by
    have := h.lo
    rcases hg with e | e
    · obtain ⟨h1, h2, h3, h4, h5⟩ := h.blk k hk g' e
      exact ⟨h1, h3, h4, fun e => h5 e.1⟩
    · exact ⟨by omega, by omega, by omega, fun e => by omega⟩
  refine ⟨⟨h.lo, by simp; omega, h.ne, fun e => h.notA e.1, fun e => h.notB e.1, fun i hi => ?_, fun i hi => ?_, fun i hi => ?_, fun i hi b hb => ?_, fun i j hi hj hij b hb => ?_⟩, hO⟩
  · show World.cell? _ _ = some (if i = k then U else V i)
    have hc : ∀ q, q < 16 → W7.cell? ⟨B, q, none⟩ = some (V q) := fun q hq => (World.cell?_of_block (a := ⟨B, q, none⟩) b7).trans (h.cell q hq)
    by_cases e : i = k
    · subst e; rw [World.cell?_setCell_same _ _ _ (hc i hi), if_pos rfl]
    · rw [World.cell?_setCell_other _ _ _ _ (by intro e'; simp at e'; first | done | exact e e'.symm), if_neg e]; exact hc i hi
  · have := (World.frozen?_of_block (a := ⟨B, i, none⟩) b7).trans (h.free i hi)
    simpa using this
  · show World.ownsRow _ 0 _ 1 (if i = k then U else V i) (if i = k then M k ++ [s] else M i).length (strs (if i = k then M k ++ [s] else M i))
    by_cases e : i = k
    · subst e
      rw [if_pos rfl, if_pos rfl, strs_push, List.length_append]
      exact ownsRow_block hrow (fun b hb => hbs b (by rw [hown] at hb; cases hb; exact hg2.2.2.1))
    · rw [if_neg e, if_neg e]
      refine ownsRow_block (ownsRow_block (h.row i hi) (fun b hb => o7.block b (h.blk i hi b hb).2.1 ?_)) (fun b hb => hbs b (h.blk i hi b hb).2.2.2.1)
      exact fun e2 => h.apart i k hi hk e b hb e2
  · have hb' : (if i = k then U else V i).ownBlock = some b := hb
    by_cases e : i = k
    · rw [if_pos e, hown] at hb'
      cases hb'
      exact ⟨hg2.1, by simpa using hlt, hg2.2⟩
    · rw [if_neg e] at hb'
      obtain ⟨h1, h2, h3, h4, h5⟩ := h.blk i hi b hb'
      exact ⟨h1, by simp; omega, h3, h4, fun e => h5 e.1⟩
  · have hb' : (if i = k then U else V i).ownBlock = some b := hb
    show (if j = k then U else V j).ownBlock ≠ some b
    by_cases e : i = k
    · have e2 : j ≠ k := fun e2 => hij (e.trans e2.symm)
      rw [if_pos e, hown] at hb'
      cases hb'
      rw [if_neg e2]
      intro e3
      have := h.blk j hj g' e3
      rcases hg with e4 | e4
      · exact h.apart k j hk hj (fun e5 => e2 e5.symm) g' e4 e3
      · omega
    · rw [if_neg e] at hb'
      by_cases e2 : j = k
      · rw [if_pos e2, hown]
        intro e3
        cases e3
        have := h.blk i hi g' hb'
        rcases hg with e4 | e4
        · exact h.apart i k hi hk e g' hb' e4
        · omega
      · rw [if_neg e2]; exact h.apart i j hi hj hij b hb'

/-- A disk beside blocks that are none of its own. -/
theorem Dk.shrink {w W W' : World} {F G : Nat → Prop} {g : Nat} {S : DS} (h : Dk w W F g S) (k : Only G W W') (hG : ∀ j, F j → G j → False) (hlo : ∀ j, G j → w.heap.size ≤ j) : Dk w W' (fun j => F j ∧ (j < W.heap.size ∨ W'.heap.size ≤ j)) g S :=
  ⟨(h.here.tight.kept (G := G) k (fun i h1 h2 => hG i h1.1 h2)).mono (fun _ e => ⟨e.1, .inl e.2⟩), k.below h.below hlo (Nat.le_refl _), fun j e => h.lo j e.1, fun j hj => ⟨h.new j (Nat.le_trans k.size hj), .inr hj⟩⟩

/-- The law's memory. -/
structure LaW (w wr : World) (A B g : Nat) (F : Nat → Prop) (T : DS) (last : Nat → Bytes) (V : Nat → Value) (M : Nat → List Bytes) : Prop where
  lo : w.heap.size ≤ A
  dk : Dk w wr F g T
  arr : ArrAt wr A last
  may : MayAt w wr A B F V M

section
variable {w wr W : World} {A B g : Nat} {F : Nat → Prop} {T : DS} {last : Nat → Bytes} {V : Nat → Value} {M : Nat → List Bytes}
theorem LaW.later (h : LaW w wr A B g F T last V M) (k : Below wr.heap.size wr W) : LaW w W A B g F T last V M := ⟨h.lo, h.dk.later k, h.arr.below k, h.may.below k⟩
theorem LaW.next {S : DS} (h : LaW w wr A B g F T last V M) (hd : Dk w W F g S) (k : Only F wr W) : LaW w W A B g F S last V M := ⟨h.lo, hd, h.arr.only k h.may.notA, h.may.only k⟩
theorem LaW.set (h : LaW w wr A B g F T last V M) (k : Nat) (s : Bytes) : LaW w (wr.setCell ⟨A, k, none⟩ (.string (strOf s))) A B g F T (fun q => if q = k then s else last q) V M :=
  have ho : Only (fun j => j = A) wr (wr.setCell ⟨A, k, none⟩ (.string (strOf s))) := Only.setCell (F := fun j => j = A) (Only.refl _ wr) ⟨A, k, none⟩ rfl _
  ⟨h.lo, ⟨h.dk.here.kept ho (fun i h1 h2 => h.may.notA (h2 ▸ h1)), h.dk.below.setCell h.lo _, h.dk.lo, fun i hi => h.dk.new i (by simpa using hi)⟩, h.arr.put k s, h.may.kept ho (fun e => h.may.ne e.symm) (fun i hi b hb => (h.may.blk i hi b hb).2.2.1)⟩
theorem LaW.push {W7 : World} (h : LaW w wr A B g F T last V M) (k : Nat) (hk : k < 16) (s : Bytes) {o : Obj} {g' cap n : Nat} (hn : n = (M k).length)
    (hrow : W7.ownsRow 0 9 1 (.slice (some ⟨g', 0, none⟩) (n + 1) cap) (n + 1) (strs (M k) ++ [.string (strOf s)])) (hgr : (wr.alloc o).grownBy W7 (V k).ownBlock) (hg : (V k).ownBlock = some g' ∨ g' = wr.heap.size + 1) (hlt : g' < W7.heap.size) :
    LaW w (W7.setCell ⟨B, k, none⟩ (.slice (some ⟨g', 0, none⟩) (n + 1) cap)) A B g (fun j => F j ∧ (j < wr.heap.size ∨ W7.heap.size ≤ j)) T last (fun q => if q = k then .slice (some ⟨g', 0, none⟩) (n + 1) cap else V q) (fun q => if q = k then M k ++ [s] else M q) := by
  obtain ⟨hm, ho⟩ := may_push h.may h.arr.lt k hk s hn hrow hgr hg hlt
  have hd := h.dk.shrink ho (fun j h1 h2 => h2.elim (fun e => h.may.notB (e ▸ h1)) (fun e => (h.may.blk k hk j e).2.2.2.2 h1)) (fun j h2 => h2.elim (fun e => e ▸ h.may.lo) (fun e => (h.may.blk k hk j e).1))
  have e : (W7.setCell ⟨B, k, none⟩ (.slice (some ⟨g', 0, none⟩) (n + 1) cap)).heap.size = W7.heap.size := by simp
  rw [e] at hd
  exact ⟨h.lo, hd, h.arr.only ho (fun e => e.elim h.may.ne (fun e => (h.may.blk k hk A e).2.2.1 rfl)), hm⟩
end

/-- Both arrays laid behind a new disk. -/
theorem laW_new {w w1 : World} {g : Nat} {T : DS} (h : Dk w w1 (fun k => w.heap.size ≤ k) g T) (t u : TypeId) :
    LaW w ((w1.alloc (.cells (List.replicate 16 (Value.string ByteArray.empty)).toArray t)).alloc (.cells (List.replicate 16 (Value.slice none 0 0)).toArray u)) w1.heap.size (w1.heap.size + 1) g (fun k => w.heap.size ≤ k ∧ (k < w1.heap.size ∨ w1.heap.size + 2 ≤ k)) T (fun _ => []) (fun _ => .slice none 0 0) (fun _ => []) := by
  have hs := h.below.size
  generalize hZ : (List.replicate 16 (Value.string ByteArray.empty)).toArray = Z
  have harr : ArrAt (w1.alloc (.cells Z t)) w1.heap.size (fun _ => []) := hZ ▸ arr_new w1 t
  have e1 : (w1.alloc (.cells Z t)).heap.size = w1.heap.size + 1 := by simp
  generalize hw2 : w1.alloc (.cells Z t) = w2 at harr e1
  have hb : Below w1.heap.size w1 w2 := by rw [← hw2]; exact (Below.refl _ _).alloc (Nat.le_refl _) _
  have hb3 : Below w2.heap.size w2 (w2.alloc (.cells (List.replicate 16 (Value.slice none 0 0)).toArray u)) := (Below.refl _ _).alloc (Nat.le_refl _) _
  have hd := h.shrink (G := fun _ => False) (Only.of_below (hb.trans (hb3.mono (by omega)))) (fun _ _ e => e) (fun _ e => e.elim)
  have e3 : (w2.alloc (.cells (List.replicate 16 (Value.slice none 0 0)).toArray u)).heap.size = w1.heap.size + 2 := by simp [e1]
  rw [e3] at hd
  refine ⟨hs, hd, harr.below hb3, ⟨by omega, by rw [e3]; omega, by omega, fun e => by omega, fun e => by omega, fun i hi => ?_, fun i hi => ?_, fun i _ => World.ownsRow_nil _ _ _ _, fun i _ b hb => (by cases hb), fun i j _ _ _ b hb => (by cases hb)⟩⟩
  · have := range_new w2 (List.replicate 16 (Value.slice none 0 0)) u i (.slice none 0 0) (by rw [List.getElem?_replicate, if_pos hi])
    rw [Nat.zero_add, e1] at this
    exact this
  · have := (there_new w2 (List.replicate 16 (Value.slice none 0 0)).toArray u i (by simpa using hi)).2
    rwa [Nat.zero_add, e1] at this

theorem zero_array2 (W : World) : (zeroValue 44).run Try.prog W = .ok (.agg (List.replicate 16 (Value.slice none 0 0)).toArray) W := by kernel_rfl

end Go.Proofs.Ytepipdikglabaaa.Dk
