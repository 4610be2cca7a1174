/- Facts on memory that the disk's proofs share: drawn regions in a world of one name, ranges of cells, all but some blocks as they were. The state of a disk by definition, and what is done to it. A disk in memory; the walks of isValid, access, On and has: their contracts. The walk of New: its contract. No condition but those that each states. -/
import Derived.Test.YtkplmaaeggnbgaaDoorDgU
import Derived.Test.YtkplmaaeggnbgaaDoorRows
import Derived.WalkKit
import Derived.WalkLawsBesides
import Derived.WalkSpells
import Derived.ArgAppend
import Derived.Lib.Hide
import Derived.Lib.SlBuf
import Derived.Deep.OwnRows
import Derived.Deep.QuietTactic
import Derived.Deep.MidRow
import Derived.Deep.AppendLies
import Derived.Deep.RegionHeld3
import Derived.Deep.DrawnRows
import Derived.Deep.Heap
import Derived.Laws.IdiomStrings
import Derived.LaidEqlPtr
import Derived.BigQuiet
import Derived.StillTailTactics
import Derived.Maps.OwnSet
import Derived.Maps.Views
import Derived.Shelf.SlMaps.Clone
namespace Go.Proofs.YtkplmaaeggnbgaaDoor.Dk
open Go.RowKit

/-- A drawn region whose head reads, in a world of one name. -/
theorem region_still_tail {P : Program} {id : Nat} {Q : Exit → Act → World → Prop} {a : Act} {w : World} {l : List Oper} (n : Nat) (hm : P.follows .mixedOrders = true) (hB : Region.lexTailB .any l.toArray n = true)
    (w1 : World) (hw : w.drew = w1) (h : wpStill P l.toArray w1 (fun a' => wpList P l.toArray Q (l.drop n) a' w1) (l.take n) a) : (Code.region id l.toArray true).wp P Q a w := by
  subst hw
  exact wp_region_still_tail n hm hB h

/-- A drawn region that only reads, in a world of one name. -/
theorem region_still {P : Program} {id : Nat} {Q : Exit → Act → World → Prop} {a : Act} {w : World} {l : List Oper} (hm : P.follows .mixedOrders = true) (hB : Region.lexB .any l.toArray = true)
    (w1 : World) (hw : w.drew = w1) (h : wpStill P l.toArray w1 (fun a' => Q .normal a' w1) l a) : (Code.region id l.toArray true).wp P Q a w := by
  subst hw
  exact wp_region_still_lit hm hB h

/-- One name for a world that has drawn. -/
theorem drawn_world (w0 : World) : ∃ w1 : World, Hid (w0.drew = w1) ∧ (∀ a, w1.cell? a = w0.cell? a) ∧ (∀ a, w1.frozen? a = w0.frozen? a) ∧ Hid (w1.heap = w0.heap) ∧ Hid (Below w0.heap.size w0 w1) :=
  ⟨_, rfl, fun _ => rfl, fun _ => rfl, rfl, ⟨rfl, rfl, rfl, Nat.le_refl _, fun _ _ => rfl⟩⟩

theorem held_true {P : Program} {md : Region.Mode} {ops : Array Oper} {Q : Exit → Act → World → Prop} : ∀ (fuel : Nat) (listed : Array Bool) (a : Act) (w : World), wpAny P md ops Q fuel listed a w → wpAnyH P md ops Q (fun _ => True) fuel listed a w
  | 0, _, _, _, h => h
  | fuel + 1, _, _, _, h => ⟨h.1, fun i hi => wpOp_mono (fun a' w' h' => ⟨trivial, held_true fuel _ a' w' h'⟩) (h.2 i hi)⟩

/-- What is left of a drawn region comes up one behind the other. -/
theorem held_rest {P : Program} {md : Region.Mode} {ops : Array Oper} {Q : Exit → Act → World → Prop} (n fuel : Nat) {listed : Array Bool} {a : Act} {w : World} (hn : (ops.toList.drop n).length = fuel)
    (hq : Region.seqB md ops (ops.toList.drop n).length n listed = true) (h : wpList P ops Q (ops.toList.drop n) a w) : wpAnyH P md ops Q (fun _ => True) fuel listed a w := by
  subst hn
  exact held_true _ _ _ _ (wpAny_of_seq (ops.toList.drop n) n _ _ _ (fun j => by simp [List.getElem?_drop]) hq h)

theorem held_rest_at {P : Program} {md : Region.Mode} {ops : Array Oper} {Q : Exit → Act → World → Prop} (n fuel : Nat) (b : Act) {listed : Array Bool} {a : Act} {w : World} (hab : a = b) (hn : (ops.toList.drop n).length = fuel)
    (hq : Region.seqB md ops (ops.toList.drop n).length n listed = true) (h : wpList P ops Q (ops.toList.drop n) b w) : wpAnyH P md ops Q (fun _ => True) fuel listed a w := by
  subst hab
  exact held_rest n fuel hn hq h

theorem yieldsIf_load_cell {P : Program} {ops : Array Oper} {S : World → Prop} {op : Oper} {a : Act} (hw : Region.wanted op (yielded ops a.tmps) = true) (ty : TypeId) (x : Operand) (ho : op.op = .load ty x)
    (ad : Addr) (hx : a.eval x = .pointer (some ad)) (v : Value) (hS : ∀ w, S w → w.cell? ad = some v)
    (hu : ∀ w, (isAgg ty).run P w = .ok false w) : YieldsIf P ops S op v a :=
  .inl ⟨hw, fun w hw' => by
    have hc := hS w hw'
    have hl : (loadVar ty ad).run P w = .ok v w := by simp [loadVar, hu, hc, go_sem]
    unfold execOp
    simp only [ho, hx, Instr.loadAt, Instr.sureAddr, Sem.run_bind, Sem.run_pure, Result.andThen_ok, hl]⟩

/-- An operation that runs, in a drawn region. -/
theorem wpOp_run {P : Program} {ops : Array Oper} {Q : Exit → Act → World → Prop} {K : Act → World → Prop} {i : Nat} {o : Oper} {a : Act} {w w' : World} {v : Value} (hi : ops[i]? = some o) (hw : Region.wanted o (yielded ops a.tmps) = true)
    (hr : (execOp a.eval o).run P w = .ok (.value v) w') (h : K (a.put o.dst v) w') : wpOp P ops Q i K a w := by
  unfold Go.wpOp
  simp only [hi, hw, if_true, Oper.wp, hr, Oper.upon]
  exact .inl h

/-- An operation that runs, in a list. -/
theorem wpList_run {P : Program} {ops : Array Oper} {rest : List Oper} {Q : Exit → Act → World → Prop} {o : Oper} {a : Act} {w w' : World} {v : Value} (hg : o.guard = none)
    (hr : (execOp a.eval o).run P w = .ok (.value v) w') (h : wpList P ops Q rest (a.put o.dst v) w') : wpList P ops Q (o :: rest) a w :=
  wpList_plain hg fun K hK => by
    simp only [Oper.wp, hr, Oper.upon]
    exact hK _ _ h

/-- A drawn region whose orders are gone through by hand, in a world of one name. -/
theorem region_held_at {P : Program} {id : Nat} {ops : Array Oper} {Q : Exit → Act → World → Prop} {a : Act} {w : World} (hm : P.follows .mixedOrders = true)
    (w1 : World) (hw : w.drew = w1) (h : wpAnyH P .any ops (NoPanic Q) (fun _ => True) ops.size (Array.replicate ops.size false) a w1) : (Code.region id ops true).wp P Q a w := by
  subst hw
  exact wp_region_noPanic (wp_region_held hm h)

theorem chain2 {w w1 w2 : World} (h : Below w.heap.size w w1) (k : Below w1.heap.size w1 w2) : Below w.heap.size w w2 := h.trans (k.mono h.size)

theorem below_setCells {B : Nat} {w w' : World} (_h : Below B w w') (g : Nat) (hg : B ≤ g) : ∀ (vs : List Value) (o : Nat) (w' : World), Below B w w' → Below B w (w'.setCells g o vs)
  | [], _, _, h => h
  | v :: r, o, w', h => by
    rw [World.setCells]
    exact below_setCells h g hg r (o + 1) _ (h.setCell (by simpa using hg) v)

theorem size_setCells (g : Nat) : ∀ (vs : List Value) (o : Nat) (w : World), (w.setCells g o vs).heap.size = w.heap.size
  | [], _, _ => rfl
  | v :: r, o, w => by
    rw [World.setCells, size_setCells g r (o + 1)]
    simp

theorem block_setCells (g k : Nat) (hk : k ≠ g) : ∀ (vs : List Value) (o : Nat) (w : World), (w.setCells g o vs).heap[k]? = w.heap[k]?
  | [], _, _ => rfl
  | v :: r, o, w => by
    rw [World.setCells, block_setCells g k hk r (o + 1)]
    exact Below.heap_setCell _ _ _ _ (by simpa using hk)

theorem range_new (W : World) (l : List Value) (u : TypeId) : (W.alloc (.cells l.toArray u)).rangeAt W.heap.size 0 l := fun j v hv => by
  rw [Nat.zero_add, World.cell?_alloc_mark]; simpa using hv

theorem there_new (W : World) (Z : Array Value) (u : TypeId) : (W.alloc (.cells Z u)).there W.heap.size 0 Z.size := fun j hj => by
  rw [Nat.zero_add]
  refine ⟨?_, frozen_of_row _ _ _ Z u (heap_alloc_new W _)⟩
  rw [cell_of_row _ _ _ Z u (0, 0) (heap_alloc_new W _), Array.getElem?_eq_getElem hj]; rfl

theorem there_setCell {w : World} {b o n : Nat} (h : w.there b o n) (a : Addr) (v : Value) : (w.setCell a v).there b o n := fun j hj => by
  obtain ⟨h1, h2⟩ := h j hj
  refine ⟨?_, by simpa using h2⟩
  obtain ⟨u, hu⟩ := Option.isSome_iff_exists.1 h1
  by_cases e : a = ⟨b, o + j, none⟩
  · subst e; rw [World.cell?_setCell_same _ _ _ hu]; rfl
  · rw [World.cell?_setCell_other _ _ _ _ e, hu]; rfl

theorem rangeAt_setCell {w : World} {g o : Nat} {cs : List Value} (h : w.rangeAt g o cs) (i : Nat) (v : Value) (hi : i < o ∨ o + cs.length ≤ i) : (w.setCell ⟨g, i, none⟩ v).rangeAt g o cs := fun j u hu => by
  have hj : j < cs.length := (List.getElem?_eq_some_iff.1 hu).1
  rw [World.cell?_setCell_other _ _ _ _ (by intro e; simp at e <;> omega)]
  exact h j u hu

theorem rangeAt_add {w : World} {b o : Nat} {xs ys : List Value} (h1 : w.rangeAt b o xs) (h2 : w.rangeAt b (o + xs.length) ys) : w.rangeAt b o (xs ++ ys) := fun j v hv => by
  by_cases hj : j < xs.length
  · rw [List.getElem?_append_left hj] at hv; exact h1 j v hv
  · rw [List.getElem?_append_right (by omega)] at hv
    have := h2 _ v hv
    rwa [show o + xs.length + (j - xs.length) = o + j by omega] at this

theorem rangeAt_left {w : World} {b o : Nat} {xs ys : List Value} (h : w.rangeAt b o (xs ++ ys)) : w.rangeAt b o xs := fun j v hv => by
  have hj : j < xs.length := (List.getElem?_eq_some_iff.1 hv).1
  exact h j v (by rw [List.getElem?_append_left hj]; exact hv)
theorem rangeAt_right {w : World} {b o n : Nat} {xs ys : List Value} (h : w.rangeAt b o (xs ++ ys)) (hn : n = xs.length) : w.rangeAt b (o + n) ys := fun j v hv => by
  subst hn
  have := h (xs.length + j) v (by rw [List.getElem?_append_right (by omega)]; simpa using hv)
  rwa [← Nat.add_assoc] at this

theorem rangeAt_block {w w' : World} {b o : Nat} {cs : List Value} (h : w.rangeAt b o cs) (hb : w'.heap[b]? = w.heap[b]?) : w'.rangeAt b o cs := fun j v hv =>
  (World.cell?_of_block (w := w) (w' := w') (a := ⟨b, o + j, none⟩) hb).trans (h j v hv)
theorem there_block {w w' : World} {b o n : Nat} (h : w.there b o n) (hb : w'.heap[b]? = w.heap[b]?) : w'.there b o n := fun j hj => by
  rw [World.cell?_of_block (w := w) (w' := w') (a := ⟨b, o + j, none⟩) hb, World.frozen?_of_block (w := w) (w' := w') (a := ⟨b, o + j, none⟩) hb]; exact h j hj

theorem ownsRow_block {w w' : World} {base : Nat} {e : TypeId} {size : Nat} {v : Value} {n : Nat} {xs : List Value} (h : w.ownsRow base e size v n xs) (hb : ∀ b, v.ownBlock = some b → w'.heap[b]? = w.heap[b]?) : w'.ownsRow base e size v n xs := by
  refine ⟨h.1, ?_⟩
  rcases h.2 with h0 | ⟨g, cap, cur, hv, hbg, hg, rest⟩
  · exact .inl h0
  · exact .inr ⟨g, cap, cur, hv, hbg, (hb g (by rw [hv]; rfl)).trans hg, rest⟩

theorem ownsRow_base {w : World} {base base' : Nat} {e : TypeId} {size : Nat} {v : Value} {n : Nat} {xs : List Value} (h : w.ownsRow base e size v n xs) (hb : ∀ b, v.ownBlock = some b → base' ≤ b) : w.ownsRow base' e size v n xs := by
  refine ⟨h.1, ?_⟩
  rcases h.2 with h0 | ⟨g, cap, cur, hv, hbg, rest⟩
  · exact .inl h0
  · exact .inr ⟨g, cap, cur, hv, hb g (by rw [hv]; rfl), rest⟩

theorem ownsRow_range {w : World} {base : Nat} {e : TypeId} {size : Nat} {g n cap : Nat} {xs : List Value} (h : w.ownsRow base e size (.slice (some ⟨g, 0, none⟩) n cap) n xs) : w.rangeAt g 0 xs := fun j v hv => by
  have := h.cells (g := g) rfl j v hv
  rwa [Addr.add_lit] at this

theorem ownsMap_block {H : Type} {w w' : World} {P : Program} {k : TypeId} {R : Value → Option (DataW H × List MemPlace)} {b n : Nat} {D : DataW H} (h : w.ownsMap P k R b n D) (hb : w'.heap[b]? = w.heap[b]?) : w'.ownsMap P k R b n D := by
  obtain ⟨es, clock, h1, h2⟩ := h
  exact ⟨es, clock, hb.trans h1, h2⟩

/-- All blocks that lay there, but those of F, are as they were. -/
structure Only (F : Nat → Prop) (w w' : World) : Prop where
  os : w'.os = w.os
  tape : w'.tape = w.tape
  output : w'.output = w.output
  size : w.heap.size ≤ w'.heap.size
  block : ∀ k, k < w.heap.size → ¬F k → w'.heap[k]? = w.heap[k]?

theorem Only.refl (F : Nat → Prop) (w : World) : Only F w w := ⟨rfl, rfl, rfl, Nat.le_refl _, fun _ _ _ => rfl⟩

theorem Only.trans {F G : Nat → Prop} {a b c : World} (h : Only F a b) (k : Only G b c) (hG : ∀ i, i < a.heap.size → G i → F i) : Only F a c :=
  ⟨k.os.trans h.os, k.tape.trans h.tape, k.output.trans h.output, Nat.le_trans h.size k.size, fun i hi hf => (k.block i (Nat.lt_of_lt_of_le hi h.size) (fun hg => hf (hG i hi hg))).trans (h.block i hi hf)⟩

theorem Only.mono {F G : Nat → Prop} {a b : World} (h : Only F a b) (hFG : ∀ i, F i → G i) : Only G a b := ⟨h.os, h.tape, h.output, h.size, fun i hi hg => h.block i hi (fun hf => hg (hFG i hf))⟩

theorem Only.of_below {F : Nat → Prop} {w w' : World} (h : Below w.heap.size w w') : Only F w w' := ⟨h.os, h.tape, h.output, h.size, fun k hk _ => h.block k hk⟩

theorem Only.drew {F : Nat → Prop} {a b : World} (h : Only F a b) : Only F a b.drew := ⟨h.os, h.tape, h.output, h.size, h.block⟩

theorem Only.alloc {F : Nat → Prop} {a b : World} (h : Only F a b) (o : Obj) : Only F a (b.alloc o) :=
  h.trans (Only.of_below (F := F) ((Below.refl _ _).alloc (Nat.le_refl _) _)) (fun _ _ h => h)

theorem Only.setCell {F : Nat → Prop} {a b : World} (h : Only F a b) (p : Addr) (hp : F p.block) (v : Value) : Only F a (b.setCell p v) :=
  have hb : Below 0 b (b.setCell p v) := (Below.refl 0 b).setCell (Nat.zero_le _) v
  h.trans (G := F) ⟨hb.os, hb.tape, hb.output, hb.size, fun _k _ hk => Below.heap_setCell _ _ _ _ (fun e => hk (e ▸ hp))⟩ (fun _ _ h => h)

theorem Only.setCells {F : Nat → Prop} {a : World} (g : Nat) (hg : F g) : ∀ (vs : List Value) (o : Nat) (b : World), Only F a b → Only F a (b.setCells g o vs)
  | [], _, _, h => h
  | v :: r, o, b, h => by
    rw [World.setCells]
    exact Only.setCells g hg r (o + 1) _ (h.setCell ⟨g, o, none⟩ hg v)

theorem Only.below {F : Nat → Prop} {B : Nat} {a w w' : World} (k : Only F w w') (h : Below B a w) (hF : ∀ i, F i → B ≤ i) (ha : B ≤ a.heap.size) : Below B a w' :=
  ⟨k.os.trans h.os, k.tape.trans h.tape, k.output.trans h.output, Nat.le_trans h.size k.size, fun i hi => (k.block i (by have := h.size; omega) (fun hf => by have := hF i hf; omega)).trans (h.block i hi)⟩

theorem Only.of_grown {F : Nat → Prop} {w w' : World} {row : Option Nat} (h : w.grownBy w' row) (hr : ∀ k, row = some k → F k) : Only F w w' :=
  ⟨h.os, h.tape, h.output, h.size, fun k hk hf => h.block k hk (fun e => hf (hr k e.symm))⟩

theorem slice_all {P : Program} (t e : TypeId) (n : Nat) (hu : P.underlying t = some (.array n e)) (hs : (P.info? e).map (·.size) = some 1) (b o : Nat) (w : World) :
    (Instr.sliceAt t (.pointer (some ⟨b, o, none⟩)) none none none).run P w = .ok (.slice (some ⟨b, o, none⟩) n n) w := by
  have hz : (sizeOf e).run P w = .ok 1 w := by
    cases hq : P.info? e with
    | none => simp [hq] at hs
    | some i => simp [hq] at hs; simp [sizeOf, typeInfo, hq, hs]
  simp [Instr.sliceAt, Instr.sureAddr, run_underlying hu, Instr.sliceBounds, hz, Addr.add_mid]

theorem convert_range {P : Program} {w : World} {src dst e : TypeId} (g o cap n : Nat) (l : List UInt8) (hs : P.underlying src = some (.slice e)) (he : P.underlying e = some (.int .u8)) (hd : P.underlying dst = some .string)
    (hn : l.length = n) (h : w.rangeAt g o (bv l)) : (convert src dst (.slice (some ⟨g, o, none⟩) n cap)).run P w = .ok (.string ⟨l.toArray⟩) w := by
  subst hn
  refine run_convert_bytes_back w src dst e ⟨g, o, none⟩ cap l hs he hd (fun i hi => ?_)
  rw [Addr.add_mid]
  exact h i _ (by simp [bv, List.getElem?_eq_getElem hi])

theorem run_copy_string {P : Program} (w : World) (dT sT ty elem : TypeId) (b o dLen dCap n : Nat) (r : ByteArray)
    (hu : P.underlying dT = some (.slice elem)) (hs : (P.info? elem).map (·.size) = some 1) (hn : n = Nat.min r.size dLen)
    (ht : w.there b o n) :
    (Builtin.copy_ #[dT, sT] ty #[.slice (some ⟨b, o, none⟩) dLen dCap, .string r]).run P w = .ok (goInt n) (w.setCells b o (bv (r.data.toList.take n))) := by
  have hl : (bv (r.data.toList.take n)).length = n := by
    have : r.data.toList.length = r.size := by simp
    have : n ≤ r.size := by rw [hn]; exact Nat.min_le_left _ _
    simp [bv]; omega
  have hst := run_storeCells_cells (P := P) b o (bv (r.data.toList.take n)) 0 w (fun j hj => by rw [hl] at hj; have := (ht j hj).1; simpa using this) (fun j hj => by rw [hl] at hj; have := (ht j hj).2; simpa using this) (bv_one _)
  have hcells : ((r.extract 0 n).data.map fun b => Value.int .u8 b.toNat).toList = bv (r.data.toList.take n) := by
    simp [bv, ByteArray.data_extract]
  cases hq : P.info? elem with
  | none => simp [hq] at hs
  | some i =>
    have hi : i.size = 1 := by simpa [hq] using hs
    simp [Builtin.copy_, run_underlying hu, Builtin.lenOf, Builtin.firstCells, sizeOf, typeInfo, hq, ← hn]
    have h3 : List.take n (List.map (fun b => Value.int .u8 b.toNat) r.data.toList) = bv (r.data.toList.take n) := by simp [bv, List.map_take]
    rw [h3, hst]
    simp

def strOf (l : List UInt8) : ByteArray := ⟨l.toArray⟩
theorem strOf_size (l : List UInt8) : (strOf l).size = l.length := by simp [strOf, ByteArray.size]
theorem strOf_toList (l : List UInt8) : (strOf l).data.toList = l := by simp [strOf]
theorem strOf_self (s : ByteArray) : strOf s.data.toList = s := by apply ByteArray.ext; simp [strOf]
theorem strOf_inj {a b : List UInt8} (h : strOf a = strOf b) : a = b := by
  have := congrArg (fun s : ByteArray => s.data.toList) h
  simpa [strOf] using this
theorem toS (s : ByteArray) : ∃ l : List UInt8, s = strOf l ∧ l.length = s.size := ⟨s.data.toList, (strOf_self s).symm, by simp⟩

end Go.Proofs.YtkplmaaeggnbgaaDoor.Dk
namespace Go.Proofs.YtkplmaaeggnbgaaDoor.Dk
open Go.RowKit

abbrev Bytes := List UInt8

/-- The state of a disk: the power, what lasts, what waits, how many operations there were, the planned failure (after how many more, with which mask); c: how many writes were laid down so far. -/
structure DS where
  on : Bool
  L : List Bytes
  W : List (Nat × Bytes)
  ops : Nat
  next : Option (Nat × Nat)
  c : Nat

/-- Does the mask let write j last? -/
def bit (m j : Nat) : Bool := m / 2 ^ (j % 64) % 2 == 1

def wAt (W : List (Nat × Bytes)) (j : Nat) : Nat × Bytes := W.getD j (0, [])

/-- What lasts when the first k of those that wait were settled. -/
def stl (m : Nat) (W : List (Nat × Bytes)) (L : List Bytes) : Nat → List Bytes
  | 0 => L
  | k + 1 => if bit m k then (stl m W L k).set (wAt W k).1 (wAt W k).2 else stl m W L k

/-- The last of the first k writes that is one to block i. -/
def lastUpto (W : List (Nat × Bytes)) (i : Nat) : Nat → Option Nat
  | 0 => none
  | k + 1 => if (wAt W k).1 = i then some k else lastUpto W i k

def lastIx (W : List (Nat × Bytes)) (i : Nat) : Option Nat := lastUpto W i W.length

def bAt (L : List Bytes) (i : Nat) : Bytes := L.getD i []

def DS.readUpto (S : DS) (i k : Nat) : Bytes := match lastUpto S.W i k with
  | some j => (wAt S.W j).2
  | none => bAt S.L i
def DS.read (S : DS) (i : Nat) : Bytes := S.readUpto i S.W.length

def DS.settled (S : DS) (m : Nat) : DS := { S with L := stl m S.W S.L S.W.length, W := [] }
def DS.lose (S : DS) (m : Nat) : DS := { S.settled m with on := false }
def DS.put (S : DS) (i : Nat) (s : Bytes) : DS := { S with W := S.W ++ [(i, s)], c := S.c + 1 }
def DS.tick (S : DS) : DS := { S with ops := S.ops + 1 }
def DS.plan (S : DS) (k m : Nat) : DS := { S with next := some (k, m) }
/-- An operation is counted; false: it was interrupted. -/
def DS.step (S : DS) : DS × Bool := match S.next with
  | none => (S.tick, true)
  | some (0, m) => ({ S.tick with next := none }.lose m, false)
  | some (k + 1, m) => (S.tick.plan k m, true)
def allM : Nat := 18446744073709551615
def DS.write (S : DS) (i : Nat) (s : Bytes) : DS × Bool := (S.put i s).step
def DS.sync (S : DS) : DS × Bool := if S.step.2 then (S.step.1.settled allM, true) else S.step
def DS.fail (S : DS) (m : Nat) : DS := if S.on then S.lose m else S
def DS.start (S : DS) : DS := { S with on := true }
def zeroB : Bytes := List.replicate 64 0
def new (n : Nat) : DS := { on := true, L := List.replicate n zeroB, W := [], ops := 0, next := none, c := 0 }

/-- What holds of every disk. -/
structure DS.Ok (S : DS) : Prop where
  lo : 16 ≤ S.L.length
  hi : S.L.length ≤ 512
  blk : ∀ i, i < S.L.length → (bAt S.L i).length = 64
  wat : ∀ j, j < S.W.length → (wAt S.W j).1 < S.L.length ∧ (wAt S.W j).2.length = 64
  few : S.W.length ≤ S.c
  next : ∀ k m, S.next = some (k, m) → k < 2 ^ 63 ∧ m < 2 ^ 64

theorem wAt_lt {W : List (Nat × Bytes)} {j : Nat} (h : j < W.length) : W[j]? = some (wAt W j) := by
  unfold wAt; rw [List.getD_eq_getElem?_getD, List.getElem?_eq_getElem h]; rfl
theorem bAt_lt {L : List Bytes} {j : Nat} (h : j < L.length) : L[j]? = some (bAt L j) := by
  unfold bAt; rw [List.getD_eq_getElem?_getD, List.getElem?_eq_getElem h]; rfl
theorem wAt_app_lt {W V : List (Nat × Bytes)} {j : Nat} (h : j < W.length) : wAt (W ++ V) j = wAt W j := by
  unfold wAt; rw [List.getD_eq_getElem?_getD, List.getD_eq_getElem?_getD, List.getElem?_append_left h]
theorem wAt_app_eq (W : List (Nat × Bytes)) (x : Nat × Bytes) : wAt (W ++ [x]) W.length = x := by
  unfold wAt; simp [List.getD]

theorem stl_length (m : Nat) (W : List (Nat × Bytes)) (L : List Bytes) : ∀ k, (stl m W L k).length = L.length
  | 0 => rfl
  | k + 1 => by
    unfold stl
    split
    · rw [List.length_set]; exact stl_length m W L k
    · exact stl_length m W L k

theorem bAt_set (L : List Bytes) (a i : Nat) (s : Bytes) : bAt (L.set a s) i = if i = a ∧ a < L.length then s else bAt L i := by
  unfold bAt
  rw [List.getD_eq_getElem?_getD, List.getD_eq_getElem?_getD, List.getElem?_set]
  by_cases h : a = i
  · subst h
    by_cases h2 : a < L.length
    · simp [h2]
    · simp [h2]
  · rw [if_neg h, if_neg (fun h2 => h h2.1.symm)]

theorem stl_blk {m : Nat} {W : List (Nat × Bytes)} {L : List Bytes} (hL : ∀ i, i < L.length → (bAt L i).length = 64) (hW : ∀ j, j < W.length → (wAt W j).1 < L.length ∧ (wAt W j).2.length = 64) :
    ∀ k, k ≤ W.length → ∀ i, i < L.length → (bAt (stl m W L k) i).length = 64
  | 0, _, i, hi => hL i hi
  | k + 1, hk, i, hi => by
    unfold stl
    have ih := stl_blk (m := m) hL hW k (by omega) i hi
    split
    · rw [bAt_set]
      split
      · exact (hW k (by omega)).2
      · exact ih
    · exact ih

theorem lastUpto_some {W : List (Nat × Bytes)} {i : Nat} : ∀ {k j : Nat}, lastUpto W i k = some j → j < k ∧ (wAt W j).1 = i
  | 0, _, h => by cases h
  | k + 1, j, h => by
    unfold lastUpto at h
    split at h
    · cases h; exact ⟨Nat.lt_succ_self _, by assumption⟩
    · have := lastUpto_some h; exact ⟨by omega, this.2⟩

theorem lastUpto_none {W : List (Nat × Bytes)} {i : Nat} : ∀ {k : Nat}, lastUpto W i k = none → ∀ j, j < k → (wAt W j).1 ≠ i
  | 0, _, j, hj => absurd hj (Nat.not_lt_zero j)
  | k + 1, h, j, hj => by
    unfold lastUpto at h
    split at h
    · cases h
    · rename_i hne
      by_cases e : j = k
      · subst e; exact hne
      · exact lastUpto_none h j (by omega)

theorem lastUpto_app (W V : List (Nat × Bytes)) (i : Nat) : ∀ k, k ≤ W.length → lastUpto (W ++ V) i k = lastUpto W i k
  | 0, _ => rfl
  | k + 1, hk => by
    unfold lastUpto
    rw [wAt_app_lt (by omega), lastUpto_app W V i k (by omega)]

theorem lastIx_put (W : List (Nat × Bytes)) (a i : Nat) (s : Bytes) : lastIx (W ++ [(a, s)]) i = if a = i then some W.length else lastIx W i := by
  unfold lastIx
  rw [List.length_append, List.length_singleton]
  show (if (wAt (W ++ [(a, s)]) W.length).1 = i then some W.length else lastUpto (W ++ [(a, s)]) i W.length) = _
  rw [wAt_app_eq, lastUpto_app _ _ _ _ (Nat.le_refl _)]

theorem stl_nil (m : Nat) (L : List Bytes) : stl m [] L 0 = L := rfl

theorem DS.Ok.settled {S : DS} (h : S.Ok) (m : Nat) : (S.settled m).Ok := by
  have hl : (S.settled m).L.length = S.L.length := stl_length _ _ _ _
  refine ⟨by rw [hl]; exact h.lo, by rw [hl]; exact h.hi, fun i hi => ?_, fun j hj => ?_, Nat.zero_le _, h.next⟩
  · exact stl_blk h.blk h.wat _ (Nat.le_refl _) i (by rw [hl] at hi; exact hi)
  · exact absurd hj (Nat.not_lt_zero j)
theorem DS.Ok.put {S : DS} (h : S.Ok) {i : Nat} {s : Bytes} (hi : i < S.L.length) (hs : s.length = 64) : (S.put i s).Ok := by
  refine ⟨h.lo, h.hi, h.blk, fun j hj => ?_, ?_, h.next⟩
  · have hj' : j < S.W.length + 1 := by simpa [DS.put] using hj
    by_cases e : j = S.W.length
    · subst e
      show (wAt (S.W ++ [(i, s)]) S.W.length).1 < _ ∧ (wAt (S.W ++ [(i, s)]) S.W.length).2.length = 64
      rw [wAt_app_eq]; exact ⟨hi, hs⟩
    · show (wAt (S.W ++ [(i, s)]) j).1 < _ ∧ (wAt (S.W ++ [(i, s)]) j).2.length = 64
      rw [wAt_app_lt (by omega)]; exact h.wat j (by omega)
  · have := h.few
    show (S.W ++ [(i, s)]).length ≤ S.c + 1
    rw [List.length_append, List.length_singleton]; omega
theorem DS.Ok.lose {S : DS} (h : S.Ok) (m : Nat) : (S.lose m).Ok :=
  have k := h.settled m
  ⟨k.lo, k.hi, k.blk, k.wat, k.few, k.next⟩
theorem DS.Ok.tick {S : DS} (h : S.Ok) : S.tick.Ok := ⟨h.lo, h.hi, h.blk, h.wat, h.few, h.next⟩
theorem DS.Ok.plan {S : DS} (h : S.Ok) {k m : Nat} (hk : k < 2 ^ 63) (hm : m < 2 ^ 64) : (S.plan k m).Ok := ⟨h.lo, h.hi, h.blk, h.wat, h.few, fun k' m' e => by cases e; exact ⟨hk, hm⟩⟩
theorem DS.Ok.start {S : DS} (h : S.Ok) : S.start.Ok := ⟨h.lo, h.hi, h.blk, h.wat, h.few, h.next⟩
theorem DS.Ok.clear {S : DS} (h : S.Ok) : ({ S with next := none } : DS).Ok := ⟨h.lo, h.hi, h.blk, h.wat, h.few, fun _ _ e => by cases e⟩

theorem new_ok {n : Nat} (h1 : 16 ≤ n) (h2 : n ≤ 512) : (new n).Ok := by
  have hl : (new n).L.length = n := by simp [new]
  refine ⟨by rw [hl]; exact h1, by rw [hl]; exact h2, fun i hi => ?_, fun j hj => absurd hj (Nat.not_lt_zero j), Nat.zero_le _, fun _ _ e => by cases e⟩
  rw [hl] at hi
  have : bAt (new n).L i = zeroB := by unfold bAt new; rw [List.getD_eq_getElem?_getD, List.getElem?_replicate, if_pos hi]; rfl
  rw [this]; rfl

/-! ### the cells -/
def dcells (L : List Bytes) : List Value := L.flatMap bv
def wcell (p : Nat × Bytes) : List Value := .int .i64 (p.1 : Int) :: bv p.2
def wcells (W : List (Nat × Bytes)) : List Value := W.flatMap wcell

theorem bv_length (l : Bytes) : (bv l).length = l.length := by simp [bv]

theorem dcells_length {L : List Bytes} (h : ∀ i, i < L.length → (bAt L i).length = 64) : (dcells L).length = L.length * 64 := by
  unfold dcells
  induction L with
  | nil => rfl
  | cons a L ih =>
    have h0 := h 0 (Nat.zero_lt_succ _)
    rw [List.flatMap_cons, List.length_append, ih (fun i hi => h (i + 1) (by simpa using hi)), bv_length]
    have : (bAt (a :: L) 0) = a := rfl
    rw [this] at h0
    rw [h0, List.length_cons]; omega

theorem wcells_length {W : List (Nat × Bytes)} (h : ∀ j, j < W.length → (wAt W j).2.length = 64) : (wcells W).length = W.length * 65 := by
  unfold wcells
  induction W with
  | nil => rfl
  | cons a W ih =>
    have h0 := h 0 (Nat.zero_lt_succ _)
    rw [List.flatMap_cons, List.length_append, ih (fun i hi => h (i + 1) (by simpa using hi))]
    have : (wAt (a :: W) 0) = a := rfl
    rw [this] at h0
    rw [wcell, List.length_cons, bv_length, h0, List.length_cons]; omega

/-- Block i of the cells of all blocks. -/
theorem dcells_at {L : List Bytes} (h : ∀ i, i < L.length → (bAt L i).length = 64) : ∀ {i : Nat}, i < L.length → ∃ A B, dcells L = A ++ (bv (bAt L i) ++ B) ∧ A.length = i * 64 := by
  unfold dcells
  induction L with
  | nil => intro i hi; exact absurd hi (Nat.not_lt_zero i)
  | cons a L ih =>
    intro i hi
    have h0 := h 0 (Nat.zero_lt_succ _)
    have e0 : (bAt (a :: L) 0) = a := rfl
    rw [e0] at h0
    cases i with
    | zero => exact ⟨[], L.flatMap bv, rfl, rfl⟩
    | succ i =>
      obtain ⟨A, B, e, hA⟩ := ih (fun i hi => h (i + 1) (by simpa using hi)) (i := i) (by simpa using hi)
      refine ⟨bv a ++ A, B, ?_, ?_⟩
      · rw [List.flatMap_cons, e, List.append_assoc]; rfl
      · rw [List.length_append, bv_length, h0, hA]; omega

theorem wcells_at {W : List (Nat × Bytes)} (h : ∀ j, j < W.length → (wAt W j).2.length = 64) : ∀ {i : Nat}, i < W.length → ∃ A B, wcells W = A ++ (wcell (wAt W i) ++ B) ∧ A.length = i * 65 := by
  unfold wcells
  induction W with
  | nil => intro i hi; exact absurd hi (Nat.not_lt_zero i)
  | cons a L ih =>
    intro i hi
    have h0 := h 0 (Nat.zero_lt_succ _)
    have e0 : (wAt (a :: L) 0) = a := rfl
    rw [e0] at h0
    cases i with
    | zero => exact ⟨[], L.flatMap wcell, rfl, rfl⟩
    | succ i =>
      obtain ⟨A, B, e, hA⟩ := ih (fun i hi => h (i + 1) (by simpa using hi)) (i := i) (by simpa using hi)
      refine ⟨wcell a ++ A, B, ?_, ?_⟩
      · rw [List.flatMap_cons, e, List.append_assoc]; rfl
      · rw [List.length_append, wcell, List.length_cons, bv_length, h0, hA]; omega

theorem dcells_set {L : List Bytes} (h : ∀ i, i < L.length → (bAt L i).length = 64) : ∀ {i : Nat} (s : Bytes), i < L.length → s.length = 64 → ∀ A B, dcells L = A ++ (bv (bAt L i) ++ B) → A.length = i * 64 → dcells (L.set i s) = A ++ (bv s ++ B) := by
  unfold dcells
  induction L with
  | nil => intro i s hi; exact absurd hi (Nat.not_lt_zero i)
  | cons a L ih =>
    intro i s hi hs A B e hA
    have h0 := h 0 (Nat.zero_lt_succ _)
    have e0 : (bAt (a :: L) 0) = a := rfl
    rw [e0] at h0
    cases i with
    | zero =>
      obtain rfl : A = [] := List.eq_nil_of_length_eq_zero (by omega)
      rw [List.flatMap_cons, List.nil_append, e0] at e
      have := List.append_cancel_left e
      rw [List.set_cons_zero, List.flatMap_cons, this]; rfl
    | succ i =>
      rw [List.flatMap_cons] at e
      have hb : (bv a).length = 64 := by rw [bv_length, h0]
      have hsplit : A = bv a ++ A.drop 64 := by
        have h1 : (bv a ++ L.flatMap bv).take 64 = (A ++ (bv (bAt (a :: L) (i + 1)) ++ B)).take 64 := by rw [e]
        rw [List.take_append_of_le_length (by omega), List.take_append_of_le_length (by omega), ← hb, List.take_length] at h1
        rw [h1, hb, List.take_append_drop]
      rw [hsplit, List.append_assoc] at e
      have e2 := List.append_cancel_left e
      rw [List.set_cons_succ, List.flatMap_cons, ih (fun i hi => h (i + 1) (by simpa using hi)) s (by simpa using hi) hs (A.drop 64) B e2 (by rw [List.length_drop]; omega)]
      rw [hsplit, List.append_assoc, List.drop_append_of_le_length (by omega), ← hb, List.drop_length, List.nil_append]

theorem wcells_put (W : List (Nat × Bytes)) (p : Nat × Bytes) : wcells (W ++ [p]) = wcells W ++ wcell p := by
  unfold wcells; rw [List.flatMap_append]; simp

theorem wcell_one (p : Nat × Bytes) : ∀ u ∈ wcell p, u.oneCell' = true := by
  intro u hu
  rcases List.mem_cons.1 hu with rfl | hu
  · rfl
  · exact bv_one _ u hu

theorem wcells_one (W : List (Nat × Bytes)) : ∀ u ∈ wcells W, u.oneCell' = true := by
  intro u hu
  obtain ⟨p, _, hp⟩ := List.mem_flatMap.1 hu
  exact wcell_one p u hp
theorem dcells_one (L : List Bytes) : ∀ u ∈ dcells L, u.oneCell' = true := by
  intro u hu
  obtain ⟨p, _, hp⟩ := List.mem_flatMap.1 hu
  exact bv_one p u hp

/-! ### what the map of the last writes holds -/
open Go.Maps in
abbrev key (i : Nat) : Lit := .int .i64 (i : Int)
theorem key_lit (i : Nat) : WideAt.IsKeyLit (key i) := trivial
theorem key_inj {i j : Nat} (h : key i = key j) : i = j := by simp [key] at h; omega

structure MapOk (D : DataW Unit) (W : List (Nat × Bytes)) : Prop where
  no : ∀ i, lastIx W i = none → Maps.has D (key i) = false
  yes : ∀ i j, lastIx W i = some j → Maps.has D (key i) = true ∧ ∀ z, D.atKey (key i) z = .lit (.int .i64 (j : Int))

theorem MapOk.put {D : DataW Unit} {W : List (Nat × Bytes)} (h : MapOk D W) (hm : Maps.IsMap D) (a : Nat) (s : Bytes) : MapOk (D.put (key a) (.lit (.int .i64 (W.length : Int)))) (W ++ [(a, s)]) := by
  refine ⟨fun i hi => ?_, fun i j hi => ?_⟩
  · rw [lastIx_put] at hi
    by_cases e : a = i
    · rw [if_pos e] at hi; cases hi
    · rw [if_neg e] at hi
      rw [Maps.has_put_other (fun h2 => e (key_inj h2).symm)]; exact h.no i hi
  · rw [lastIx_put] at hi
    by_cases e : a = i
    · rw [if_pos e] at hi; cases hi; subst e
      exact ⟨Maps.has_put_same hm (key_lit _) _, fun z => Maps.atKey_put_same hm (key_lit _) _ z⟩
    · rw [if_neg e] at hi
      obtain ⟨h1, h2⟩ := h.yes i j hi
      refine ⟨?_, fun z => ?_⟩
      · rw [Maps.has_put_other (fun h2 => e (key_inj h2).symm)]; exact h1
      · rw [Maps.atKey_put_other (fun h2 => e (key_inj h2).symm)]; exact h2 z

theorem mapOk_nil : MapOk (.map []) [] := ⟨fun _ _ => rfl, fun i j h => by cases h⟩

/-- Of the map the keys of the first k writes are struck, and it had no others. -/
structure DelOk (D : DataW Unit) (W : List (Nat × Bytes)) (k : Nat) : Prop where
  no : ∀ i, lastIx W i = none → Maps.has D (key i) = false
  gone : ∀ i j, j < k → (wAt W j).1 = i → Maps.has D (key i) = false

theorem MapOk.del {D : DataW Unit} {W : List (Nat × Bytes)} (h : MapOk D W) : DelOk D W 0 := ⟨h.no, fun _ j hj => absurd hj (Nat.not_lt_zero j)⟩

theorem has_del {D : DataW Unit} {a : Lit} {i : Lit} (h : Maps.has D i = false) : Maps.has (D.del a) i = false := by
  by_cases e : i = a
  · subst e; exact Maps.has_del_same
  · rw [Maps.has_del_other e]; exact h

theorem DelOk.step {D : DataW Unit} {W : List (Nat × Bytes)} {k : Nat} (h : DelOk D W k) : DelOk (D.del (key (wAt W k).1)) W (k + 1) := by
  refine ⟨fun i hi => has_del (h.no i hi), fun i j hj e => ?_⟩
  by_cases hk : j = k
  · subst hk; rw [e]; exact Maps.has_del_same
  · exact has_del (h.gone i j (by omega) e)

theorem DelOk.done {D : DataW Unit} {W : List (Nat × Bytes)} (h : DelOk D W W.length) : MapOk D [] := by
  refine ⟨fun i _ => ?_, fun i j hi => by cases hi⟩
  cases hl : lastIx W i with
  | none => exact h.no i hl
  | some j =>
    have := lastUpto_some hl
    exact h.gone i j this.1 this.2

end Go.Proofs.YtkplmaaeggnbgaaDoor.Dk
namespace Go.Proofs.YtkplmaaeggnbgaaDoor.Dk
open Go.RowKit

/-- The cells of the plan. -/
def planCells : Option (Nat × Nat) → List Value
  | none => [.bool false, .int .i64 0, .int .u64 0]
  | some (k, m) => [.bool true, .int .i64 (k : Int), .int .u64 (m : Int)]

/-- Block g is a disk in the state S: its blocks' bytes lie in gd, the map of the last writes is gm, vp is the slice of those that wait. -/
structure DiskIn (w : World) (g gd cd gm : Nat) (vp : Value) (S : DS) (D : DataW Unit) : Prop where
  room : w.there g 0 9
  self : w.cell? ⟨g, 0, none⟩ = some (.pointer (some ⟨g, 0, none⟩))
  on : w.cell? ⟨g, 1, none⟩ = some (.bool S.on)
  dur : w.cell? ⟨g, 2, none⟩ = some (.slice (some ⟨gd, 0, none⟩) S.L.length cd)
  pend : w.cell? ⟨g, 3, none⟩ = some vp
  last : w.cell? ⟨g, 4, none⟩ = some (.map (some gm))
  ops : w.cell? ⟨g, 5, none⟩ = some (.int .i64 (S.ops : Int))
  plan : w.rangeAt g 6 (planCells S.next)
  durs : w.rangeAt gd 0 (dcells S.L)
  room2 : w.there gd 0 (S.L.length * 64)
  cap : S.L.length ≤ cd ∧ cd ≤ maxLen
  row : w.ownsRow 0 136 65 vp S.W.length (wcells S.W)
  map : w.ownsMap Tryd.prog 3 (plainElem Tryd.prog 3) gm S.c D
  mapOk : MapOk D S.W
  ok : S.Ok
  lt : g < w.heap.size ∧ gd < w.heap.size ∧ gm < w.heap.size
  ne : g ≠ gd ∧ g ≠ gm ∧ gd ≠ gm
  nep : ∀ b, vp.ownBlock = some b → b < w.heap.size ∧ b ≠ g ∧ b ≠ gd ∧ b ≠ gm

/-- Block g is a disk in the state S; all its blocks are of F. -/
def DiskAt (w : World) (F : Nat → Prop) (g : Nat) (S : DS) : Prop :=
  ∃ gd cd gm vp D, DiskIn w g gd cd gm vp S D ∧ F g ∧ F gd ∧ F gm ∧ ∀ b, vp.ownBlock = some b → F b

theorem DiskIn.of_blocks {w w' : World} {g gd cd gm : Nat} {vp : Value} {S : DS} {D : DataW Unit} (h : DiskIn w g gd cd gm vp S D) (hg : w'.heap[g]? = w.heap[g]?) (hgd : w'.heap[gd]? = w.heap[gd]?) (hgm : w'.heap[gm]? = w.heap[gm]?)
    (hvp : ∀ b, vp.ownBlock = some b → w'.heap[b]? = w.heap[b]?) (hs : w.heap.size ≤ w'.heap.size) : DiskIn w' g gd cd gm vp S D := by
  have hc : ∀ o, w'.cell? ⟨g, o, none⟩ = w.cell? ⟨g, o, none⟩ := fun o => World.cell?_of_block (a := ⟨g, o, none⟩) hg
  obtain ⟨l1, l2, l3⟩ := h.lt
  exact ⟨there_block h.room hg, (hc _).trans h.self, (hc _).trans h.on, (hc _).trans h.dur, (hc _).trans h.pend, (hc _).trans h.last, (hc _).trans h.ops, rangeAt_block h.plan hg, rangeAt_block h.durs hgd, there_block h.room2 hgd, h.cap,
    ownsRow_block h.row hvp, ownsMap_block h.map hgm, h.mapOk, h.ok, ⟨by omega, by omega, by omega⟩, h.ne, fun b hb => ⟨by have := (h.nep b hb).1; omega, (h.nep b hb).2⟩⟩

theorem DiskAt.lt {w : World} {F : Nat → Prop} {g : Nat} {S : DS} (h : DiskAt w F g S) : g < w.heap.size := by
  obtain ⟨gd, cd, gm, vp, D, h, _⟩ := h; exact h.lt.1
theorem DiskAt.self {w : World} {F : Nat → Prop} {g : Nat} {S : DS} (h : DiskAt w F g S) : w.cell? ⟨g, 0, none⟩ = some (.pointer (some ⟨g, 0, none⟩)) := by
  obtain ⟨gd, cd, gm, vp, D, h, _⟩ := h; exact h.self
theorem DiskAt.on {w : World} {F : Nat → Prop} {g : Nat} {S : DS} (h : DiskAt w F g S) : w.cell? ⟨g, 1, none⟩ = some (.bool S.on) := by
  obtain ⟨gd, cd, gm, vp, D, h, _⟩ := h; exact h.on
theorem DiskAt.ok {w : World} {F : Nat → Prop} {g : Nat} {S : DS} (h : DiskAt w F g S) : S.Ok := by
  obtain ⟨gd, cd, gm, vp, D, h, _⟩ := h; exact h.ok
theorem DiskAt.in_F {w : World} {F : Nat → Prop} {g : Nat} {S : DS} (h : DiskAt w F g S) : F g := by
  obtain ⟨gd, cd, gm, vp, D, h, hF, _⟩ := h; exact hF

theorem DiskAt.mono {w : World} {F G : Nat → Prop} {g : Nat} {S : DS} (h : DiskAt w F g S) (hFG : ∀ k, F k → G k) : DiskAt w G g S := by
  obtain ⟨gd, cd, gm, vp, D, h, h1, h2, h3, h4⟩ := h
  exact ⟨gd, cd, gm, vp, D, h, hFG _ h1, hFG _ h2, hFG _ h3, fun b hb => hFG _ (h4 b hb)⟩

/-- Its blocks are such as lie there. -/
theorem DiskAt.tight {w : World} {F : Nat → Prop} {g : Nat} {S : DS} (h : DiskAt w F g S) : DiskAt w (fun k => F k ∧ k < w.heap.size) g S := by
  obtain ⟨gd, cd, gm, vp, D, h, h1, h2, h3, h4⟩ := h
  exact ⟨gd, cd, gm, vp, D, h, ⟨h1, h.lt.1⟩, ⟨h2, h.lt.2.1⟩, ⟨h3, h.lt.2.2⟩, fun b hb => ⟨h4 b hb, (h.nep b hb).1⟩⟩

/-- A disk stays what it is while other blocks are written. -/
theorem DiskAt.kept {w w' : World} {F G : Nat → Prop} {g : Nat} {S : DS} (h : DiskAt w F g S) (k : Only G w w') (hFG : ∀ i, F i → G i → False) : DiskAt w' F g S := by
  obtain ⟨gd, cd, gm, vp, D, h, h1, h2, h3, h4⟩ := h
  exact ⟨gd, cd, gm, vp, D, h.of_blocks (k.block _ h.lt.1 (hFG _ h1)) (k.block _ h.lt.2.1 (hFG _ h2)) (k.block _ h.lt.2.2 (hFG _ h3)) (fun b hb => k.block _ (h.nep b hb).1 (hFG _ (h4 b hb))) k.size, h1, h2, h3, h4⟩

theorem DiskAt.below {w w' : World} {F : Nat → Prop} {g : Nat} {S : DS} (h : DiskAt w F g S) (k : Below w.heap.size w w') : DiskAt w' F g S :=
  h.kept (G := fun _ => False) (Only.of_below k) (fun _ _ h => h)

theorem eql_self (a : Addr) (w : World) : (binOp .eql 35 (.pointer (some a)) (.pointer (some a))).run Tryd.prog w = .ok (.bool true) w := by
  obtain ⟨j, hj⟩ : ∃ j, Tryd.prog.info? 103 = some j := Option.isSome_iff_exists.1 (by kernel_rfl)
  exact run_eql_ptr_same w a Tryd.underlying35 hj

theorem eql_nil_left (a : Addr) (w : World) : (binOp .eql 35 (.pointer none) (.pointer (some a))).run Tryd.prog w = .ok (.bool false) w := by kernel_rfl

set_option maxHeartbeats 400000 in
theorem isValid_yes (g : Nat) (w : World) (h : w.cell? ⟨g, 0, none⟩ = some (.pointer (some ⟨g, 0, none⟩))) :
    Calls Tryd.prog 63 #[.pointer (some ⟨g, 0, none⟩)] w fun e w' => e = .returned (.bool true) ∧ w = w' := by
  have hq := eql_self
  have hr := eql_nil_left
  go_enter Tryd.func63, Tryd.ntmps63
  go_wp2
  go_ret
  exact ⟨rfl, rfl⟩

set_option maxHeartbeats 400000 in
theorem isValid_nil (w : World) :
    Calls Tryd.prog 63 #[.pointer none] w fun e w' => e = .returned (.bool false) ∧ w = w' := by
  have hq := eql_self
  have hr := eql_nil_left
  go_enter Tryd.func63, Tryd.ntmps63
  go_wp2
  go_ret
  exact ⟨rfl, rfl⟩

set_option maxHeartbeats 400000 in
theorem isValid_zero (g : Nat) (w : World) (h : w.cell? ⟨g, 0, none⟩ = some (.pointer none)) :
    Calls Tryd.prog 63 #[.pointer (some ⟨g, 0, none⟩)] w fun e w' => e = .returned (.bool false) ∧ w = w' := by
  have hq := eql_self
  have hr := eql_nil_left
  go_enter Tryd.func63, Tryd.ntmps63
  go_wp2
  go_ret
  exact ⟨rfl, rfl⟩

/-- A pointer that is no disk: nil, or to one whose first cell is nil. -/
def NoDisk (w : World) (p : Option Addr) : Prop := p = none ∨ ∃ g, p = some ⟨g, 0, none⟩ ∧ w.cell? ⟨g, 0, none⟩ = some (.pointer none)

theorem NoDisk.below {w w' : World} {B : Nat} {p : Option Addr} (h : NoDisk w p) (k : Below B w w') (hp : ∀ a, p = some a → a.block < B) : NoDisk w' p := by
  rcases h with h | ⟨g, h1, h2⟩
  · exact .inl h
  · exact .inr ⟨g, h1, (k.cell (p := ⟨g, 0, none⟩) (hp _ h1)).trans h2⟩

theorem isValid_no (p : Option Addr) (w : World) (h : NoDisk w p) :
    Calls Tryd.prog 63 #[.pointer p] w fun e w' => e = .returned (.bool false) ∧ w = w' := by
  rcases h with rfl | ⟨g, rfl, h⟩
  · exact isValid_nil w
  · exact isValid_zero g w h

set_option maxHeartbeats 400000 in
theorem on_yes (g : Nat) (b : Bool) (w : World) (h : w.cell? ⟨g, 0, none⟩ = some (.pointer (some ⟨g, 0, none⟩))) (hb : w.cell? ⟨g, 1, none⟩ = some (.bool b)) :
    Calls Tryd.prog 64 #[.pointer (some ⟨g, 0, none⟩)] w fun e w' => e = .returned (.bool b) ∧ w = w' := by
  go_enter Tryd.func64, Tryd.ntmps64
  go_wp2_with (go_at_call 63; refine (isValid_yes _ _ h).mono ?_; rintro e w' ⟨rfl, rfl⟩)
  go_ret
  exact ⟨rfl, rfl⟩

set_option maxHeartbeats 400000 in
theorem on_no (p : Option Addr) (w : World) (h : NoDisk w p) :
    Calls Tryd.prog 64 #[.pointer p] w fun e w' => e = .returned (.bool false) ∧ w = w' := by
  go_enter Tryd.func64, Tryd.ntmps64
  go_wp2_with (go_at_call 63; refine (isValid_no _ _ h).mono ?_; rintro e w' ⟨rfl, rfl⟩)
  go_ret
  exact ⟨rfl, rfl⟩

def accErr (b : Bool) : Int := if b then 0 else 7

set_option maxHeartbeats 400000 in
theorem access_yes (g : Nat) (b : Bool) (w : World) (h : w.cell? ⟨g, 0, none⟩ = some (.pointer (some ⟨g, 0, none⟩))) (hb : w.cell? ⟨g, 1, none⟩ = some (.bool b)) :
    Calls Tryd.prog 56 #[.pointer (some ⟨g, 0, none⟩)] w fun e w' => e = .returned (.int .i64 (accErr b)) ∧ w = w' := by
  cases b
  all_goals
    go_enter Tryd.func56, Tryd.ntmps56
    go_wp2_with (go_at_call 63; refine (isValid_yes _ _ h).mono ?_; rintro e w' ⟨rfl, rfl⟩)
    go_ret
    exact ⟨rfl, rfl⟩

set_option maxHeartbeats 400000 in
theorem access_no (p : Option Addr) (w : World) (h : NoDisk w p) :
    Calls Tryd.prog 56 #[.pointer p] w fun e w' => e = .returned (.int .i64 16) ∧ w = w' := by
  go_enter Tryd.func56, Tryd.ntmps56
  go_wp2_with (go_at_call 63; refine (isValid_no _ _ h).mono ?_; rintro e w' ⟨rfl, rfl⟩)
  go_ret
  exact ⟨rfl, rfl⟩

/-- Is there such a block? -/
def hasB (i : Int) (n : Nat) : Bool := decide (0 ≤ i ∧ i < n)

set_option maxHeartbeats 400000 in
theorem has_any (g n c : Nat) (i : Int) (a : Option Addr) (w : World) (hb : w.cell? ⟨g, 2, none⟩ = some (.slice a n c)) :
    Calls Tryd.prog 57 #[.pointer (some ⟨g, 0, none⟩), .int .i64 i] w fun e w' => e = .returned (.bool (hasB i n)) ∧ w = w' := by
  by_cases h0 : 0 ≤ i
  · by_cases h1 : i < n
    · have e : Hid (hasB i n = true) := Lib.hid (decide_eq_true ⟨h0, h1⟩)
      have t0 : decide ((0 : Int) ≤ i) = true := decide_eq_true h0
      have t1 : decide (i < (n : Int)) = true := decide_eq_true h1
      go_enter Tryd.func57, Tryd.ntmps57
      go_wp2
      go_ret
      exact ⟨by rw [e.out]; rfl, rfl⟩
    · have e : Hid (hasB i n = false) := Lib.hid (decide_eq_false (fun h => h1 h.2))
      have t0 : decide ((0 : Int) ≤ i) = true := decide_eq_true h0
      have t1 : decide (i < (n : Int)) = false := decide_eq_false h1
      go_enter Tryd.func57, Tryd.ntmps57
      go_wp2
      go_ret
      exact ⟨by rw [e.out]; rfl, rfl⟩
  · have e : Hid (hasB i n = false) := Lib.hid (decide_eq_false (fun h => h0 h.1))
    have t0 : decide ((0 : Int) ≤ i) = false := decide_eq_false h0
    go_enter Tryd.func57, Tryd.ntmps57
    go_wp2
    go_ret
    exact ⟨by rw [e.out]; rfl, rfl⟩

end Go.Proofs.YtkplmaaeggnbgaaDoor.Dk
namespace Go.Proofs.YtkplmaaeggnbgaaDoor.Dk
open Go.RowKit

theorem blk_info : (Tryd.prog.info? 134).map (fun i => (i.zero, i.size, i.bytes)) = some (some (.agg (bv zeroB).toArray), 64, 64) := by kernel_rfl

theorem bv_zero (n : Nat) : bv (List.replicate n 0) = List.replicate n (.int .u8 0) := by simp [bv]

theorem dcells_zero (n : Nat) : dcells (List.replicate n zeroB) = List.replicate (n * 64) (.int .u8 0) := by
  unfold dcells
  induction n with
  | zero => rfl
  | succ n ih =>
    rw [List.replicate_succ, List.flatMap_cons, ih, zeroB, bv_zero, List.replicate_append_replicate]
    congr 1; omega

theorem made_rep (s m : Nat) (v : Value) (hs : 0 < s) : (madeCells (List.replicate s v).toArray m).toList = List.replicate m v := by
  apply List.ext_getElem?
  intro j
  by_cases hj : j < m
  · have h64 : j % s < s := Nat.mod_lt _ hs
    simp [madeCells, hj, h64]
  · simp [madeCells, hj]

def zcells (n : Nat) : Array Value := (List.replicate (n * 64) (.int .u8 0)).toArray

theorem make_blocks (n : Nat) (h : n ≤ 512) (W : World) : (Instr.makeSlice 97 (.int .i64 (n : Int)) (.int .i64 (n : Int))).run Tryd.prog W = .ok (.slice (some ⟨W.heap.size, 0, none⟩) n n) (W.alloc (.cells (zcells n) 134)) := by
  obtain ⟨i, hi, hz, hs, hb⟩ := info_parts blk_info
  have hr := run_make (P := Tryd.prog) W 97 134 i _ Tryd.underlying97 hi hz .i64 .i64 n n (by omega) (Int.le_refl _) (by rw [hb]; omega) (by omega)
  simp only [Int.toNat_natCast, hs] at hr
  rw [hr]
  have e : madeCells (Value.agg (bv zeroB).toArray).cells (n * 64) = zcells n := by
    apply Array.ext'
    show (madeCells (bv zeroB).toArray (n * 64)).toList = _
    rw [zeroB, bv_zero, made_rep 64 _ _ (by decide)]; rfl
  rw [e]

set_option maxHeartbeats 1000000 in
set_option maxRecDepth 100000 in
theorem new_bad (n : Int) (h : n < 16 ∨ 512 < n) (w : World) :
    Calls Tryd.prog 14 #[.int .i64 n] w fun e w' => e = .returned (.tuple #[.pointer none, .int .i64 1]) ∧ w = w' := by
  by_cases h1 : n < 16
  · have t1 : decide (n < 16) = true := decide_eq_true h1
    clear h
    go_enter Tryd.func14, Tryd.ntmps14
    go_wp2
    go_ret2
    exact ⟨rfl, rfl⟩
  · have t1 : decide (n < 16) = false := decide_eq_false h1
    have t2 : decide (512 < n) = true := decide_eq_true (by omega)
    clear h
    go_enter Tryd.func14, Tryd.ntmps14
    go_wp2
    go_ret2
    exact ⟨rfl, rfl⟩

def newCells (h n : Nat) : List Value := [.pointer (some ⟨h + 1 + 1, 0, none⟩), .bool true, .slice (some ⟨h, 0, none⟩) n n, .slice none 0 0, .map (some (h + 1)), .int .i64 0, .bool false, .int .i64 0, .int .u64 0]

theorem disk_new (w : World) (n : Nat) (h1 : 16 ≤ n) (h2 : n ≤ 512) (W : World) (hW : ((w.alloc (.cells (zcells n) 134)).alloc (.map #[] 0)).alloc (.cells (newCells w.heap.size n).toArray 103) = W) :
    DiskAt W (fun k => w.heap.size ≤ k) (w.heap.size + 1 + 1) (new n) := by
  have e1 : (w.alloc (.cells (zcells n) 134)).heap.size = w.heap.size + 1 := by simp
  have e2 : ((w.alloc (.cells (zcells n) 134)).alloc (.map #[] 0)).heap.size = w.heap.size + 1 + 1 := by simp
  have e3 : W.heap.size = w.heap.size + 1 + 1 + 1 := by rw [← hW]; simp
  have b3 : W.heap[w.heap.size + 1 + 1]? = some (.cells (newCells w.heap.size n).toArray 103 (0, 0)) := by
    rw [← hW, ← e2]; exact heap_alloc_new _ _
  have b2 : W.heap[w.heap.size + 1]? = some (.map #[] 0) := by
    rw [← hW, Below.heap_alloc _ _ _ (by rw [e2]; omega), ← e1]; exact heap_alloc_new _ _
  have b1 : W.heap[w.heap.size]? = some (.cells (zcells n) 134 (0, 0)) := by
    rw [← hW, Below.heap_alloc _ _ _ (by rw [e2]; omega), Below.heap_alloc _ _ _ (by rw [e1]; omega)]; exact heap_alloc_new _ _
  have hc : ∀ o, W.cell? ⟨w.heap.size + 1 + 1, o, none⟩ = (newCells w.heap.size n)[o]? := fun o => by rw [cell_of_row W _ o _ _ _ b3]; simp
  have hf : ∀ o, W.frozen? ⟨w.heap.size + 1 + 1, o, none⟩ = false := fun o => frozen_of_row W _ o _ _ b3
  have hd : ∀ o, W.cell? ⟨w.heap.size, o, none⟩ = (dcells (List.replicate n zeroB))[o]? := fun o => by rw [cell_of_row W _ o _ _ _ b1, dcells_zero, zcells, List.getElem?_toArray]
  have hdl : (dcells (List.replicate n zeroB)).length = n * 64 := by rw [dcells_zero, List.length_replicate]
  have hL : (new n).L.length = n := by simp [new]
  refine ⟨w.heap.size, n, w.heap.size + 1, .slice none 0 0, .map [], ⟨fun j hj => ?_, hc 0, hc 1, ?_, hc 3, hc 4, hc 5, fun j v hv => ?_, fun j v hv => ?_, fun j hj => ?_, ?_, World.ownsRow_nil _ _ _ _, ⟨#[], 0, b2, ⟨by simp, MapKept.stamped_empty 0, by simp⟩, Nat.le_refl _, rfl⟩, mapOk_nil, new_ok h1 h2, by omega, by omega, fun b hb => by cases hb⟩, by omega, Nat.le_refl _, by omega, fun b hb => by cases hb⟩
  · rw [Nat.zero_add, hc, hf]
    rcases (show j = 0 ∨ j = 1 ∨ j = 2 ∨ j = 3 ∨ j = 4 ∨ j = 5 ∨ j = 6 ∨ j = 7 ∨ j = 8 by omega) with rfl | rfl | rfl | rfl | rfl | rfl | rfl | rfl | rfl <;> exact ⟨rfl, rfl⟩
  · rw [hL]; exact hc 2
  · rw [hc, ← hv]
    have : j < 3 := (List.getElem?_eq_some_iff.1 hv).1
    rcases (show j = 0 ∨ j = 1 ∨ j = 2 by omega) with rfl | rfl | rfl <;> rfl
  · rw [Nat.zero_add, hd]; exact hv
  · rw [hL] at hj
    rw [Nat.zero_add, hd]
    refine ⟨?_, frozen_of_row W _ j _ _ b1⟩
    rw [List.getElem?_eq_getElem (by omega)]; rfl
  · rw [hL]; exact ⟨Nat.le_refl _, by unfold maxLen; omega⟩

set_option maxHeartbeats 1000000 in
set_option maxRecDepth 100000 in
theorem new_ok_any (n : Nat) (h1 : 16 ≤ n) (h2 : n ≤ 512) (w : World) :
    Calls Tryd.prog 14 #[.int .i64 (n : Int)] w fun e w' => e = .returned (.tuple #[.pointer (some ⟨w.heap.size + 2, 0, none⟩), .int .i64 0]) ∧ DiskAt w' (fun k => w.heap.size ≤ k) (w.heap.size + 2) (new n) ∧ Below w.heap.size w w' := by
  have hmk := make_blocks n h2
  have hmm := @run_makeMap Tryd.prog
  have t1 : decide ((n : Int) < 16) = false := decide_eq_false (by omega)
  have t2 : decide ((512 : Int) < (n : Int)) = false := decide_eq_false (by omega)
  have t3 : decide (n < 16) = false := decide_eq_false (by omega)
  have t4 : decide (512 < n) = false := decide_eq_false (by omega)
  generalize hZ : zcells n = Z at hmk
  go_enter Tryd.func14, Tryd.ntmps14
  go_wp2
  go_ret2
  subst hZ
  have hD := disk_new w n h1 h2 _ rfl
  exact ⟨rfl, hD, (((Below.refl _ _).alloc (Nat.le_refl _) _).alloc (by simp) _).alloc (by simp; omega) _⟩

end Go.Proofs.YtkplmaaeggnbgaaDoor.Dk
