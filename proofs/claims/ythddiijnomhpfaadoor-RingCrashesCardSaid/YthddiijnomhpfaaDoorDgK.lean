/- A Hash in memory; the walk of isValid and New: their contracts. No condition but those that each states. -/
import Derived.Test.YthddiijnomhpfaaDoorDgJ
import Derived.LaidEqlPtr
import Derived.Deep.Heap
namespace Go.Proofs.YthddiijnomhpfaaDoor
open Go.RowKit

/-- All but block g is as it was. -/
structure Just (g : Nat) (w w' : World) : Prop where
  os : w'.os = w.os
  tape : w'.tape = w.tape
  output : w'.output = w.output
  size : w.heap.size ≤ w'.heap.size
  block : ∀ k, k < w.heap.size → k ≠ g → w'.heap[k]? = w.heap[k]?

theorem Just.refl (g : Nat) (w : World) : Just g w w := ⟨rfl, rfl, rfl, Nat.le_refl _, fun _ _ _ => rfl⟩

theorem Just.trans {g : Nat} {a b c : World} (h : Just g a b) (k : Just g b c) : Just g a c :=
  ⟨k.os.trans h.os, k.tape.trans h.tape, k.output.trans h.output, Nat.le_trans h.size k.size, fun i hi hg => (k.block i (Nat.lt_of_lt_of_le hi h.size) hg).trans (h.block i hi hg)⟩

theorem Just.of_below {g : Nat} {w w' : World} (h : Below w.heap.size w w') : Just g w w' := ⟨h.os, h.tape, h.output, h.size, fun k hk _ => h.block k hk⟩

theorem Just.setCell {g : Nat} {a b : World} (h : Just g a b) (o : Nat) (v : Value) : Just g a (b.setCell ⟨g, o, none⟩ v) :=
  have hb : Below 0 b (b.setCell ⟨g, o, none⟩ v) := (Below.refl 0 b).setCell (Nat.zero_le _) v
  h.trans ⟨hb.os, hb.tape, hb.output, hb.size, fun k _ hk => Go.Deep.blk_setCell_other _ _ _ _ (by simpa using hk)⟩

theorem Just.setCells {g : Nat} {a : World} : ∀ (vs : List Value) (o : Nat) (b : World), Just g a b → Just g a (b.setCells g o vs)
  | [], _, _, h => h
  | v :: r, o, b, h => by
    rw [World.setCells]
    exact Just.setCells r (o + 1) _ (h.setCell o v)

theorem Just.below {g B : Nat} {a w w' : World} (k : Just g w w') (h : Below B a w) (hg : B ≤ g) (ha : B ≤ a.heap.size) : Below B a w' :=
  ⟨k.os.trans h.os, k.tape.trans h.tape, k.output.trans h.output, Nat.le_trans h.size k.size, fun i hi => (k.block i (by have := h.size; omega) (by omega)).trans (h.block i hi)⟩

/-- The Hash at block g was written the bytes l. -/
structure HashAt (w : World) (g : Nat) (l : List UInt8) : Prop where
  pos : 0 < g
  lt : g < w.heap.size
  room : w.there g 0 74
  self : w.cell? ⟨g, 0, none⟩ = some (.pointer (some ⟨g, 0, none⟩))
  words : w.rangeAt g 1 (r8v (absorb l (l.length / 64)))
  last : ∃ L : List UInt8, L.length = 64 ∧ w.rangeAt g 9 (bv L) ∧ L.take (l.length % 64) = l.drop (64 * (l.length / 64))
  size : w.cell? ⟨g, 73, none⟩ = some (.int .i64 (l.length : Int))

theorem HashAt.of_block {w w' : World} {g : Nat} {l : List UInt8} (h : HashAt w g l) (hb : w'.heap[g]? = w.heap[g]?) (hs : w.heap.size ≤ w'.heap.size) : HashAt w' g l := by
  have hc : ∀ o, w'.cell? ⟨g, o, none⟩ = w.cell? ⟨g, o, none⟩ := fun o => World.cell?_of_block (a := ⟨g, o, none⟩) hb
  have hf : ∀ o, w'.frozen? ⟨g, o, none⟩ = w.frozen? ⟨g, o, none⟩ := fun o => World.frozen?_of_block (a := ⟨g, o, none⟩) hb
  obtain ⟨L, h1, h2, h3⟩ := h.last
  exact ⟨h.pos, Nat.lt_of_lt_of_le h.lt hs, fun j hj => by rw [hc, hf]; exact h.room j hj, by rw [hc]; exact h.self, fun j v hv => by rw [hc]; exact h.words j v hv,
    ⟨L, h1, fun j v hv => by rw [hc]; exact h2 j v hv, h3⟩, by rw [hc]; exact h.size⟩

theorem HashAt.later {w w' : World} {g B : Nat} {l : List UInt8} (h : HashAt w g l) (k : Below B w w') (hg : g < B) : HashAt w' g l := h.of_block (k.block g hg) k.size

theorem HashAt.just {w w' : World} {g g' : Nat} {l : List UInt8} (h : HashAt w g l) (k : Just g' w w') (hg : g ≠ g') : HashAt w' g l := h.of_block (k.block g h.lt hg) k.size

theorem HasK.just {w w' : World} {g : Nat} (h : HasK w) (k : Just g w w') (hg : 0 < g) : HasK w' :=
  ⟨Nat.lt_of_lt_of_le h.lt k.size, fun j v hv => (World.cell?_of_block (w := w) (w' := w') (a := ⟨0, 0 + j, none⟩) (k.block 0 h.lt (by omega))).trans (h.cells j v hv)⟩

theorem eql_self (a : Addr) (w : World) : (binOp .eql 22 (.pointer (some a)) (.pointer (some a))).run Tryd.prog w = .ok (.bool true) w := by
  obtain ⟨j, hj⟩ : ∃ j, Tryd.prog.info? 27 = some j := Option.isSome_iff_exists.1 (by kernel_rfl)
  exact run_eql_ptr_same w a Tryd.underlying22 hj

theorem eql_nil_left (a : Addr) (w : World) : (binOp .eql 22 (.pointer none) (.pointer (some a))).run Tryd.prog w = .ok (.bool false) w := by kernel_rfl

set_option maxHeartbeats 400000 in
theorem isValid_yes (g : Nat) (w : World) (h : w.cell? ⟨g, 0, none⟩ = some (.pointer (some ⟨g, 0, none⟩))) :
    Calls Tryd.prog 35 #[.pointer (some ⟨g, 0, none⟩)] w fun e w' => e = .returned (.bool true) ∧ w = w' := by
  have hq := eql_self
  have hr := eql_nil_left
  go_enter Tryd.func35, Tryd.ntmps35
  go_wp2
  go_ret
  exact ⟨rfl, rfl⟩

set_option maxHeartbeats 400000 in
theorem isValid_nil (w : World) :
    Calls Tryd.prog 35 #[.pointer none] w fun e w' => e = .returned (.bool false) ∧ w = w' := by
  have hq := eql_self
  have hr := eql_nil_left
  go_enter Tryd.func35, Tryd.ntmps35
  go_wp2
  go_ret
  exact ⟨rfl, rfl⟩

set_option maxHeartbeats 400000 in
theorem isValid_zero (g : Nat) (w : World) (h : w.cell? ⟨g, 0, none⟩ = some (.pointer none)) :
    Calls Tryd.prog 35 #[.pointer (some ⟨g, 0, none⟩)] w fun e w' => e = .returned (.bool false) ∧ w = w' := by
  have hq := eql_self
  have hr := eql_nil_left
  go_enter Tryd.func35, Tryd.ntmps35
  go_wp2
  go_ret
  exact ⟨rfl, rfl⟩

/-- The cells of a Hash. -/
def hashCells (g : Nat) (s : R8) (L : List UInt8) (n : Int) : List Value := .pointer (some ⟨g, 0, none⟩) :: (r8v s ++ (bv L ++ [.int .i64 n]))

def hash0 : List Value := .pointer none :: (r8v ⟨0, 0, 0, 0, 0, 0, 0, 0⟩ ++ (bv (List.replicate 64 0) ++ [.int .i64 0]))

theorem zero_hash (w : World) : (zeroValue 27).run Tryd.prog w = .ok (.agg hash0.toArray) w := by kernel_rfl

theorem hashAt_cells {w : World} {g : Nat} {s : R8} {L : List UInt8} {n : Int} (h : w.rangeAt g 0 (hashCells g s L n)) (hL : L.length = 64) :
    w.cell? ⟨g, 0, none⟩ = some (.pointer (some ⟨g, 0, none⟩)) ∧ w.rangeAt g 1 (r8v s) ∧ w.rangeAt g 9 (bv L) ∧ w.cell? ⟨g, 73, none⟩ = some (.int .i64 n) := by
  have h0 : ∀ j v, (hashCells g s L n)[j]? = some v → w.cell? ⟨g, j, none⟩ = some v := fun j v hv => by have := h j v hv; rwa [Nat.zero_add] at this
  refine ⟨h0 0 _ rfl, fun j v hv => ?_, fun j v hv => ?_, ?_⟩
  · rw [show 1 + j = j + 1 by omega]
    refine h0 _ _ ?_
    have hj : j < (r8v s).length := (List.getElem?_eq_some_iff.1 hv).1
    simp only [hashCells, List.getElem?_cons_succ]
    rw [List.getElem?_append_left hj]; exact hv
  · refine h0 _ _ ?_
    have hj : j < (bv L).length := (List.getElem?_eq_some_iff.1 hv).1
    rw [show 9 + j = (8 + j) + 1 by omega]
    simp only [hashCells, List.getElem?_cons_succ]
    rw [List.getElem?_append_right (by simp [r8v]), show 8 + j - (r8v s).length = j by simp [r8v], List.getElem?_append_left hj]; exact hv
  · refine h0 _ _ ?_
    rw [show 73 = (8 + 64) + 1 by omega]
    simp only [hashCells, List.getElem?_cons_succ]
    rw [List.getElem?_append_right (by simp [r8v]), show 8 + 64 - (r8v s).length = 64 by simp [r8v], List.getElem?_append_right (by simp [bv, hL])]
    simp [bv, hL]

set_option maxHeartbeats 1000000 in
set_option maxRecDepth 100000 in
theorem new_any (w : World) (h0 : 0 < w.heap.size) :
    Calls Tryd.prog 39 #[] w fun e w' => e = .returned (.pointer (some ⟨w.heap.size, 0, none⟩)) ∧ HashAt w' w.heap.size [] ∧ Below w.heap.size w w' ∧ w.heap.size < w'.heap.size := by
  have hz := zero_hash
  have hl : hash0.length = 74 := by kernel_rfl
  go_enter Tryd.func39, Tryd.ntmps39
  go_wp2
  go_ret
  have hR : (w.alloc (Obj.cells (hashCells w.heap.size init8 (List.replicate 64 0) 0).toArray 27)).rangeAt w.heap.size 0 (hashCells w.heap.size init8 (List.replicate 64 0) 0) := range_new w _ _
  obtain ⟨h1, h2, h3, h4⟩ := hashAt_cells hR (by simp)
  refine ⟨rfl, ⟨h0, by simp, there_new w _ _, h1, h2, ⟨List.replicate 64 0, by simp, h3, rfl⟩, h4⟩, (Below.refl _ _).alloc (Nat.le_refl _) _, by simp⟩

end Go.Proofs.YthddiijnomhpfaaDoor
