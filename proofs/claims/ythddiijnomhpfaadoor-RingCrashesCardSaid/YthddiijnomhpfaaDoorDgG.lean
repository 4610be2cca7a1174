/- A row that a call makes and lengthens one element at a time, whatever mark lies behind its end. No condition but those that each states. -/
import Derived.WalkKit
import Derived.ArgAppend
import Derived.Deep.AppendLies
import Derived.Deep.Draws
import Derived.Deep.MidRow
import Derived.Laws.IdiomStrings
import Derived.Test.YthddiijnomhpfaaDoorOctOwn
namespace Go.Proofs.YthddiijnomhpfaaDoor
open Go.RowKit

/-- A slice at block g's head holds xs; up to its capacity cells are there, and may be written. -/
structure Grows (w : World) (base g cap : Nat) (xs : List Value) : Prop where
  base : base ≤ g
  lt : g < w.heap.size
  le : xs.length ≤ cap
  max : cap ≤ maxLen
  cells : ∀ j u, xs[j]? = some u → w.cell? ⟨g, j, none⟩ = some u
  room : ∀ j, j < cap → (w.cell? ⟨g, j, none⟩).isSome = true ∧ w.frozen? ⟨g, j, none⟩ = false

theorem Grows.of_block {w w' : World} {base g cap : Nat} {xs : List Value} (h : Grows w base g cap xs) (hb : w'.heap[g]? = w.heap[g]?) (hs : w.heap.size ≤ w'.heap.size) : Grows w' base g cap xs :=
  ⟨h.base, Nat.lt_of_lt_of_le h.lt hs, h.le, h.max, fun j u hu => (World.cell?_of_block (a := ⟨g, j, none⟩) hb).trans (h.cells j u hu),
   fun j hj => by rw [World.cell?_of_block (w := w) (w' := w') (a := ⟨g, j, none⟩) hb, World.frozen?_of_block (w := w) (w' := w') (a := ⟨g, j, none⟩) hb]; exact h.room j hj⟩

theorem Grows.alloc {w : World} {base g cap : Nat} {xs : List Value} (h : Grows w base g cap xs) (o : Obj) : Grows (w.alloc o) base g cap xs :=
  h.of_block (Below.heap_alloc w o g h.lt) (by simp)

theorem Grows.of_owns {w : World} {base n cap g : Nat} {e : TypeId} {xs : List Value} (h : w.ownsRow base e 1 (.slice (some ⟨g, 0, none⟩) n cap) n xs) : Grows w base g cap xs := by
  rcases h.2 with ⟨h', _⟩ | ⟨g', cap', cur, h', hb, hg, hn, hm, hc, ht⟩
  · simp at h'
  · simp only [Value.slice.injEq, Option.some.injEq, Addr.mk.injEq, and_true, true_and] at h'
    obtain ⟨rfl, rfl⟩ := h'
    have hl := h.1
    refine ⟨hb, (Array.getElem?_eq_some_iff.1 hg).1, by omega, hm, fun j u hu => ?_, fun j hj => ?_⟩
    · have hj : j < xs.length := (List.getElem?_eq_some_iff.1 hu).1
      rw [h.cellAt j (by omega)]; exact hu
    · refine ⟨?_, frozen_of_row w g j cur e hg⟩
      rw [cell_of_row w g j cur e (0, 0) hg, Array.getElem?_eq_getElem (by omega)]; rfl

theorem below_setCells {B : Nat} {w w' : World} (_h : Below B w w') (g : Nat) (hg : B ≤ g) : ∀ (vs : List Value) (o : Nat) (w' : World), Below B w w' → Below B w (w'.setCells g o vs)
  | [], _, _, h => h
  | v :: r, o, w', h => by
    rw [World.setCells]
    exact below_setCells h g hg r (o + 1) _ (h.setCell (by simpa using hg) v)

/-- One element more. -/
theorem wpList_append_grow1 {P : Program} (w : World) {ops : Array Oper} {rest : List Oper} {o : Oper} {a : Act} {Q : Exit → Act → World → Prop}
    (hgd : o.guard = none) (s x : Operand) (t : TypeId) (hop : o.op = Op.call { callee := Callee.builtin Builtin.append, args := #[s, x], argTypes := #[t, t] })
    (e : TypeId) (i : TypeInfo) (z : Value) (bytes : Nat) (h1 : P.underlying t = some (.slice e)) (h2 : P.info? e = some i) (h3 : i.zero = some z) (h4 : i.size = 1) (h5 : i.bytes = bytes) (h6 : z.cells.size = 1)
    (base g cap n : Nat) (xs : List Value) (hs : a.eval s = .slice (some ⟨g, 0, none⟩) n cap) (hn : xs.length = n) (hG : Grows w base g cap xs)
    (ad : Addr) (c : Nat) (v : Value) (hx : a.eval x = .slice (some ad) 1 c) (hv : w.cell? ad = some v) (h1c : v.oneCell' = true) (hbase : base ≤ w.heap.size)
    (b1 : n + 1 ≤ maxLen) (b2 : (n + 1) * bytes ≤ 140737488355328)
    (hK : ∀ g' cap' w', Grows w' base g' cap' (xs ++ [v]) → Below base w w' → wpList P ops Q rest (a.put o.dst (.slice (some ⟨g', 0, none⟩) (n + 1) cap')) w') :
    wpList P ops Q (o :: rest) a w := by
  have hnews : ∀ j u, [v][j]? = some u → w.cell? (ad.add j) = some u := fun j u hu => by
    cases j with
    | zero => simp at hu; subst hu; simpa [Addr.add] using hv
    | succ j => simp at hu
  refine wpList_append_arg w hgd s x t hop e i z 1 bytes h1 h2 h3 h4 h5 h6 (by decide) g 0 n cap xs hs (by omega) (fun j u hu => by rw [Nat.zero_add]; exact hG.cells j u hu) ad 1 c [v] hx rfl hnews (by simpa using h1c)
    (fun hr j hj => by simp at hj; subst hj; simpa using hG.room n (by omega)) b1 b2 (fun hr => ?_) (fun hgr v' w' ho hg => ?_)
  · refine hK g cap _ ?_ (below_setCells (Below.refl _ _) g hG.base _ _ _ (Below.refl _ _))
    have hset : w.setCells g (0 + n * 1) [v] = w.setCell ⟨g, n, none⟩ v := by simp [World.setCells]
    rw [hset]
    refine ⟨hG.base, by simpa using hG.lt, by simp; omega, hG.max, fun j u hu => ?_, fun j hj => ?_⟩
    · by_cases hj : j = n
      · subst hj
        rw [List.getElem?_append_right (by omega)] at hu
        simp [hn] at hu
        subst hu
        obtain ⟨y, hy⟩ := Option.isSome_iff_exists.1 (hG.room j (by omega)).1
        exact World.cell?_setCell_same _ _ _ hy
      · have hjl : j < xs.length := by
          have := (List.getElem?_eq_some_iff.1 hu).1
          simp at this; omega
        rw [List.getElem?_append_left hjl] at hu
        rw [World.cell?_setCell_other _ _ _ _ (by intro h; simp at h <;> omega)]
        exact hG.cells j u hu
    · obtain ⟨hh1, hh2⟩ := hG.room j hj
      exact ⟨World.isSome_setCells g [v] n w _ hh1, by simpa using hh2⟩
  · obtain ⟨g', cap', rfl, hb', _⟩ := ho.form (by omega)
    have hG' := Grows.of_owns ho
    exact hK g' cap' w' ⟨by omega, hG'.lt, hG'.le, hG'.max, hG'.cells, hG'.room⟩ ((Below.refl _ _).grown hg hbase (fun k hk => by cases hk))

end Go.Proofs.YthddiijnomhpfaaDoor
