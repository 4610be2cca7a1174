/- Facts on memory that the disk's proofs share: drawn regions in a world of one name, ranges of cells, all but some blocks as they were. No condition but those that each states. -/
import Derived.Test.YtmljjpdodcpohaaDoorOctOwn
import Derived.Test.YtmljjpdodcpohaaDoorRows
import Derived.WalkKit
import Derived.WalkLawsBesides
import Derived.WalkSpells
import Derived.ArgAppend
import Derived.Lib.Hide
import Derived.Lib.SlBuf
import Derived.Deep.OwnRows
import Derived.Deep.QuietTactic
import Derived.Deep.MidRow
import Derived.Deep.AppendLies
import Derived.Deep.RegionHeld3
import Derived.Deep.DrawnRows
import Derived.Deep.Heap
import Derived.Laws.IdiomStrings
import Derived.LaidEqlPtr
import Derived.BigQuiet
import Derived.StillTailTactics
import Derived.Maps.OwnSet
import Derived.Maps.Views
import Derived.Shelf.SlMaps.Clone
namespace Go.Proofs.YtmljjpdodcpohaaDoor.Dk
open Go.RowKit

/-- A drawn region whose head reads, in a world of one name. -/
theorem region_still_tail {P : Program} {id : Nat} {Q : Exit → Act → World → Prop} {a : Act} {w : World} {l : List Oper} (n : Nat) (hm : P.follows .mixedOrders = true) (hB : Region.lexTailB .any l.toArray n = true)
    (w1 : World) (hw : w.drew = w1) (h : wpStill P l.toArray w1 (fun a' => wpList P l.toArray Q (l.drop n) a' w1) (l.take n) a) : (Code.region id l.toArray true).wp P Q a w := by
  subst hw
  exact wp_region_still_tail n hm hB h

/-- A drawn region that only reads, in a world of one name. -/
theorem region_still {P : Program} {id : Nat} {Q : Exit → Act → World → Prop} {a : Act} {w : World} {l : List Oper} (hm : P.follows .mixedOrders = true) (hB : Region.lexB .any l.toArray = true)
    (w1 : World) (hw : w.drew = w1) (h : wpStill P l.toArray w1 (fun a' => Q .normal a' w1) l a) : (Code.region id l.toArray true).wp P Q a w := by
  subst hw
  exact wp_region_still_lit hm hB h

/-- One name for a world that has drawn. -/
theorem drawn_world (w0 : World) : ∃ w1 : World, Hid (w0.drew = w1) ∧ (∀ a, w1.cell? a = w0.cell? a) ∧ (∀ a, w1.frozen? a = w0.frozen? a) ∧ Hid (w1.heap = w0.heap) ∧ Hid (Below w0.heap.size w0 w1) :=
  ⟨_, rfl, fun _ => rfl, fun _ => rfl, rfl, ⟨rfl, rfl, rfl, Nat.le_refl _, fun _ _ => rfl⟩⟩

theorem held_true {P : Program} {md : Region.Mode} {ops : Array Oper} {Q : Exit → Act → World → Prop} : ∀ (fuel : Nat) (listed : Array Bool) (a : Act) (w : World), wpAny P md ops Q fuel listed a w → wpAnyH P md ops Q (fun _ => True) fuel listed a w
  | 0, _, _, _, h => h
  | fuel + 1, _, _, _, h => ⟨h.1, fun i hi => wpOp_mono (fun a' w' h' => ⟨trivial, held_true fuel _ a' w' h'⟩) (h.2 i hi)⟩

/-- What is left of a drawn region comes up one behind the other. -/
theorem held_rest {P : Program} {md : Region.Mode} {ops : Array Oper} {Q : Exit → Act → World → Prop} (n fuel : Nat) {listed : Array Bool} {a : Act} {w : World} (hn : (ops.toList.drop n).length = fuel)
    (hq : Region.seqB md ops (ops.toList.drop n).length n listed = true) (h : wpList P ops Q (ops.toList.drop n) a w) : wpAnyH P md ops Q (fun _ => True) fuel listed a w := by
  subst hn
  exact held_true _ _ _ _ (wpAny_of_seq (ops.toList.drop n) n _ _ _ (fun j => by simp [List.getElem?_drop]) hq h)

theorem held_rest_at {P : Program} {md : Region.Mode} {ops : Array Oper} {Q : Exit → Act → World → Prop} (n fuel : Nat) (b : Act) {listed : Array Bool} {a : Act} {w : World} (hab : a = b) (hn : (ops.toList.drop n).length = fuel)
    (hq : Region.seqB md ops (ops.toList.drop n).length n listed = true) (h : wpList P ops Q (ops.toList.drop n) b w) : wpAnyH P md ops Q (fun _ => True) fuel listed a w := by
  subst hab
  exact held_rest n fuel hn hq h

theorem yieldsIf_load_cell {P : Program} {ops : Array Oper} {S : World → Prop} {op : Oper} {a : Act} (hw : Region.wanted op (yielded ops a.tmps) = true) (ty : TypeId) (x : Operand) (ho : op.op = .load ty x)
    (ad : Addr) (hx : a.eval x = .pointer (some ad)) (v : Value) (hS : ∀ w, S w → w.cell? ad = some v)
    (hu : ∀ w, (isAgg ty).run P w = .ok false w) : YieldsIf P ops S op v a :=
  .inl ⟨hw, fun w hw' => by
    have hc := hS w hw'
    have hl : (loadVar ty ad).run P w = .ok v w := by simp [loadVar, hu, hc, go_sem]
    unfold execOp
    simp only [ho, hx, Instr.loadAt, Instr.sureAddr, Sem.run_bind, Sem.run_pure, Result.andThen_ok, hl]⟩

/-- An operation that runs, in a drawn region. -/
theorem wpOp_run {P : Program} {ops : Array Oper} {Q : Exit → Act → World → Prop} {K : Act → World → Prop} {i : Nat} {o : Oper} {a : Act} {w w' : World} {v : Value} (hi : ops[i]? = some o) (hw : Region.wanted o (yielded ops a.tmps) = true)
    (hr : (execOp a.eval o).run P w = .ok (.value v) w') (h : K (a.put o.dst v) w') : wpOp P ops Q i K a w := by
  unfold Go.wpOp
  simp only [hi, hw, if_true, Oper.wp, hr, Oper.upon]
  exact .inl h

/-- An operation that runs, in a list. -/
theorem wpList_run {P : Program} {ops : Array Oper} {rest : List Oper} {Q : Exit → Act → World → Prop} {o : Oper} {a : Act} {w w' : World} {v : Value} (hg : o.guard = none)
    (hr : (execOp a.eval o).run P w = .ok (.value v) w') (h : wpList P ops Q rest (a.put o.dst v) w') : wpList P ops Q (o :: rest) a w :=
  wpList_plain hg fun K hK => by
    simp only [Oper.wp, hr, Oper.upon]
    exact hK _ _ h

/-- A drawn region whose orders are gone through by hand, in a world of one name. -/
theorem region_held_at {P : Program} {id : Nat} {ops : Array Oper} {Q : Exit → Act → World → Prop} {a : Act} {w : World} (hm : P.follows .mixedOrders = true)
    (w1 : World) (hw : w.drew = w1) (h : wpAnyH P .any ops (NoPanic Q) (fun _ => True) ops.size (Array.replicate ops.size false) a w1) : (Code.region id ops true).wp P Q a w := by
  subst hw
  exact wp_region_noPanic (wp_region_held hm h)

theorem chain2 {w w1 w2 : World} (h : Below w.heap.size w w1) (k : Below w1.heap.size w1 w2) : Below w.heap.size w w2 := h.trans (k.mono h.size)

theorem below_setCells {B : Nat} {w w' : World} (_h : Below B w w') (g : Nat) (hg : B ≤ g) : ∀ (vs : List Value) (o : Nat) (w' : World), Below B w w' → Below B w (w'.setCells g o vs)
  | [], _, _, h => h
  | v :: r, o, w', h => by
    rw [World.setCells]
    exact below_setCells h g hg r (o + 1) _ (h.setCell (by simpa using hg) v)

theorem size_setCells (g : Nat) : ∀ (vs : List Value) (o : Nat) (w : World), (w.setCells g o vs).heap.size = w.heap.size
  | [], _, _ => rfl
  | v :: r, o, w => by
    rw [World.setCells, size_setCells g r (o + 1)]
    simp

theorem block_setCells (g k : Nat) (hk : k ≠ g) : ∀ (vs : List Value) (o : Nat) (w : World), (w.setCells g o vs).heap[k]? = w.heap[k]?
  | [], _, _ => rfl
  | v :: r, o, w => by
    rw [World.setCells, block_setCells g k hk r (o + 1)]
    exact Below.heap_setCell _ _ _ _ (by simpa using hk)

theorem range_new (W : World) (l : List Value) (u : TypeId) : (W.alloc (.cells l.toArray u)).rangeAt W.heap.size 0 l := fun j v hv => by
  rw [Nat.zero_add, World.cell?_alloc_mark]; simpa using hv

theorem there_new (W : World) (Z : Array Value) (u : TypeId) : (W.alloc (.cells Z u)).there W.heap.size 0 Z.size := fun j hj => by
  rw [Nat.zero_add]
  refine ⟨?_, frozen_of_row _ _ _ Z u (heap_alloc_new W _)⟩
  rw [cell_of_row _ _ _ Z u (0, 0) (heap_alloc_new W _), Array.getElem?_eq_getElem hj]; rfl

theorem there_setCell {w : World} {b o n : Nat} (h : w.there b o n) (a : Addr) (v : Value) : (w.setCell a v).there b o n := fun j hj => by
  obtain ⟨h1, h2⟩ := h j hj
  refine ⟨?_, by simpa using h2⟩
  obtain ⟨u, hu⟩ := Option.isSome_iff_exists.1 h1
  by_cases e : a = ⟨b, o + j, none⟩
  · subst e; rw [World.cell?_setCell_same _ _ _ hu]; rfl
  · rw [World.cell?_setCell_other _ _ _ _ e, hu]; rfl

theorem rangeAt_setCell {w : World} {g o : Nat} {cs : List Value} (h : w.rangeAt g o cs) (i : Nat) (v : Value) (hi : i < o ∨ o + cs.length ≤ i) : (w.setCell ⟨g, i, none⟩ v).rangeAt g o cs := fun j u hu => by
  have hj : j < cs.length := (List.getElem?_eq_some_iff.1 hu).1
  rw [World.cell?_setCell_other _ _ _ _ (by intro e; simp at e <;> omega)]
  exact h j u hu

theorem rangeAt_add {w : World} {b o : Nat} {xs ys : List Value} (h1 : w.rangeAt b o xs) (h2 : w.rangeAt b (o + xs.length) ys) : w.rangeAt b o (xs ++ ys) := fun j v hv => by
  by_cases hj : j < xs.length
  · rw [List.getElem?_append_left hj] at hv; exact h1 j v hv
  · rw [List.getElem?_append_right (by omega)] at hv
    have := h2 _ v hv
    rwa [show o + xs.length + (j - xs.length) = o + j by omega] at this

theorem rangeAt_left {w : World} {b o : Nat} {xs ys : List Value} (h : w.rangeAt b o (xs ++ ys)) : w.rangeAt b o xs := fun j v hv => by
  have hj : j < xs.length := (List.getElem?_eq_some_iff.1 hv).1
  exact h j v (by rw [List.getElem?_append_left hj]; exact hv)
theorem rangeAt_right {w : World} {b o n : Nat} {xs ys : List Value} (h : w.rangeAt b o (xs ++ ys)) (hn : n = xs.length) : w.rangeAt b (o + n) ys := fun j v hv => by
  subst hn
  have := h (xs.length + j) v (by rw [List.getElem?_append_right (by omega)]; simpa using hv)
  rwa [← Nat.add_assoc] at this

theorem rangeAt_block {w w' : World} {b o : Nat} {cs : List Value} (h : w.rangeAt b o cs) (hb : w'.heap[b]? = w.heap[b]?) : w'.rangeAt b o cs := fun j v hv =>
  (World.cell?_of_block (w := w) (w' := w') (a := ⟨b, o + j, none⟩) hb).trans (h j v hv)
theorem there_block {w w' : World} {b o n : Nat} (h : w.there b o n) (hb : w'.heap[b]? = w.heap[b]?) : w'.there b o n := fun j hj => by
  rw [World.cell?_of_block (w := w) (w' := w') (a := ⟨b, o + j, none⟩) hb, World.frozen?_of_block (w := w) (w' := w') (a := ⟨b, o + j, none⟩) hb]; exact h j hj

theorem ownsRow_block {w w' : World} {base : Nat} {e : TypeId} {size : Nat} {v : Value} {n : Nat} {xs : List Value} (h : w.ownsRow base e size v n xs) (hb : ∀ b, v.ownBlock = some b → w'.heap[b]? = w.heap[b]?) : w'.ownsRow base e size v n xs := by
  refine ⟨h.1, ?_⟩
  rcases h.2 with h0 | ⟨g, cap, cur, hv, hbg, hg, rest⟩
  · exact .inl h0
  · exact .inr ⟨g, cap, cur, hv, hbg, (hb g (by rw [hv]; rfl)).trans hg, rest⟩

theorem ownsRow_base {w : World} {base base' : Nat} {e : TypeId} {size : Nat} {v : Value} {n : Nat} {xs : List Value} (h : w.ownsRow base e size v n xs) (hb : ∀ b, v.ownBlock = some b → base' ≤ b) : w.ownsRow base' e size v n xs := by
  refine ⟨h.1, ?_⟩
  rcases h.2 with h0 | ⟨g, cap, cur, hv, hbg, rest⟩
  · exact .inl h0
  · exact .inr ⟨g, cap, cur, hv, hb g (by rw [hv]; rfl), rest⟩

theorem ownsRow_range {w : World} {base : Nat} {e : TypeId} {size : Nat} {g n cap : Nat} {xs : List Value} (h : w.ownsRow base e size (.slice (some ⟨g, 0, none⟩) n cap) n xs) : w.rangeAt g 0 xs := fun j v hv => by
  have := h.cells (g := g) rfl j v hv
  rwa [Addr.add_lit] at this

theorem ownsMap_block {H : Type} {w w' : World} {P : Program} {k : TypeId} {R : Value → Option (DataW H × List MemPlace)} {b n : Nat} {D : DataW H} (h : w.ownsMap P k R b n D) (hb : w'.heap[b]? = w.heap[b]?) : w'.ownsMap P k R b n D := by
  obtain ⟨es, clock, h1, h2⟩ := h
  exact ⟨es, clock, hb.trans h1, h2⟩

/-- All blocks that lay there, but those of F, are as they were. -/
structure Only (F : Nat → Prop) (w w' : World) : Prop where
  os : w'.os = w.os
  tape : w'.tape = w.tape
  output : w'.output = w.output
  size : w.heap.size ≤ w'.heap.size
  block : ∀ k, k < w.heap.size → ¬F k → w'.heap[k]? = w.heap[k]?

theorem Only.refl (F : Nat → Prop) (w : World) : Only F w w := ⟨rfl, rfl, rfl, Nat.le_refl _, fun _ _ _ => rfl⟩

theorem Only.trans {F G : Nat → Prop} {a b c : World} (h : Only F a b) (k : Only G b c) (hG : ∀ i, i < a.heap.size → G i → F i) : Only F a c :=
  ⟨k.os.trans h.os, k.tape.trans h.tape, k.output.trans h.output, Nat.le_trans h.size k.size, fun i hi hf => (k.block i (Nat.lt_of_lt_of_le hi h.size) (fun hg => hf (hG i hi hg))).trans (h.block i hi hf)⟩

theorem Only.mono {F G : Nat → Prop} {a b : World} (h : Only F a b) (hFG : ∀ i, F i → G i) : Only G a b := ⟨h.os, h.tape, h.output, h.size, fun i hi hg => h.block i hi (fun hf => hg (hFG i hf))⟩

theorem Only.of_below {F : Nat → Prop} {w w' : World} (h : Below w.heap.size w w') : Only F w w' := ⟨h.os, h.tape, h.output, h.size, fun k hk _ => h.block k hk⟩

theorem Only.drew {F : Nat → Prop} {a b : World} (h : Only F a b) : Only F a b.drew := ⟨h.os, h.tape, h.output, h.size, h.block⟩

theorem Only.alloc {F : Nat → Prop} {a b : World} (h : Only F a b) (o : Obj) : Only F a (b.alloc o) :=
  h.trans (Only.of_below (F := F) ((Below.refl _ _).alloc (Nat.le_refl _) _)) (fun _ _ h => h)

theorem Only.setCell {F : Nat → Prop} {a b : World} (h : Only F a b) (p : Addr) (hp : F p.block) (v : Value) : Only F a (b.setCell p v) :=
  have hb : Below 0 b (b.setCell p v) := (Below.refl 0 b).setCell (Nat.zero_le _) v
  h.trans (G := F) ⟨hb.os, hb.tape, hb.output, hb.size, fun _k _ hk => Below.heap_setCell _ _ _ _ (fun e => hk (e ▸ hp))⟩ (fun _ _ h => h)

theorem Only.setCells {F : Nat → Prop} {a : World} (g : Nat) (hg : F g) : ∀ (vs : List Value) (o : Nat) (b : World), Only F a b → Only F a (b.setCells g o vs)
  | [], _, _, h => h
  | v :: r, o, b, h => by
    rw [World.setCells]
    exact Only.setCells g hg r (o + 1) _ (h.setCell ⟨g, o, none⟩ hg v)

theorem Only.below {F : Nat → Prop} {B : Nat} {a w w' : World} (k : Only F w w') (h : Below B a w) (hF : ∀ i, F i → B ≤ i) (ha : B ≤ a.heap.size) : Below B a w' :=
  ⟨k.os.trans h.os, k.tape.trans h.tape, k.output.trans h.output, Nat.le_trans h.size k.size, fun i hi => (k.block i (by have := h.size; omega) (fun hf => by have := hF i hf; omega)).trans (h.block i hi)⟩

theorem Only.of_grown {F : Nat → Prop} {w w' : World} {row : Option Nat} (h : w.grownBy w' row) (hr : ∀ k, row = some k → F k) : Only F w w' :=
  ⟨h.os, h.tape, h.output, h.size, fun k hk hf => h.block k hk (fun e => hf (hr k e.symm))⟩

theorem slice_all {P : Program} (t e : TypeId) (n : Nat) (hu : P.underlying t = some (.array n e)) (hs : (P.info? e).map (·.size) = some 1) (b o : Nat) (w : World) :
    (Instr.sliceAt t (.pointer (some ⟨b, o, none⟩)) none none none).run P w = .ok (.slice (some ⟨b, o, none⟩) n n) w := by
  have hz : (sizeOf e).run P w = .ok 1 w := by
    cases hq : P.info? e with
    | none => simp [hq] at hs
    | some i => simp [hq] at hs; simp [sizeOf, typeInfo, hq, hs]
  simp [Instr.sliceAt, Instr.sureAddr, run_underlying hu, Instr.sliceBounds, hz, Addr.add_mid]

theorem convert_range {P : Program} {w : World} {src dst e : TypeId} (g o cap n : Nat) (l : List UInt8) (hs : P.underlying src = some (.slice e)) (he : P.underlying e = some (.int .u8)) (hd : P.underlying dst = some .string)
    (hn : l.length = n) (h : w.rangeAt g o (bv l)) : (convert src dst (.slice (some ⟨g, o, none⟩) n cap)).run P w = .ok (.string ⟨l.toArray⟩) w := by
  subst hn
  refine run_convert_bytes_back w src dst e ⟨g, o, none⟩ cap l hs he hd (fun i hi => ?_)
  rw [Addr.add_mid]
  exact h i _ (by simp [bv, List.getElem?_eq_getElem hi])

theorem run_copy_string {P : Program} (w : World) (dT sT ty elem : TypeId) (b o dLen dCap n : Nat) (r : ByteArray)
    (hu : P.underlying dT = some (.slice elem)) (hs : (P.info? elem).map (·.size) = some 1) (hn : n = Nat.min r.size dLen)
    (ht : w.there b o n) :
    (Builtin.copy_ #[dT, sT] ty #[.slice (some ⟨b, o, none⟩) dLen dCap, .string r]).run P w = .ok (goInt n) (w.setCells b o (bv (r.data.toList.take n))) := by
  have hl : (bv (r.data.toList.take n)).length = n := by
    have : r.data.toList.length = r.size := by simp
    have : n ≤ r.size := by rw [hn]; exact Nat.min_le_left _ _
    simp [bv]; omega
  have hst := run_storeCells_cells (P := P) b o (bv (r.data.toList.take n)) 0 w (fun j hj => by rw [hl] at hj; have := (ht j hj).1; simpa using this) (fun j hj => by rw [hl] at hj; have := (ht j hj).2; simpa using this) (bv_one _)
  have hcells : ((r.extract 0 n).data.map fun b => Value.int .u8 b.toNat).toList = bv (r.data.toList.take n) := by
    simp [bv, ByteArray.data_extract]
  cases hq : P.info? elem with
  | none => simp [hq] at hs
  | some i =>
    have hi : i.size = 1 := by simpa [hq] using hs
    simp [Builtin.copy_, run_underlying hu, Builtin.lenOf, Builtin.firstCells, sizeOf, typeInfo, hq, ← hn]
    have h3 : List.take n (List.map (fun b => Value.int .u8 b.toNat) r.data.toList) = bv (r.data.toList.take n) := by simp [bv, List.map_take]
    rw [h3, hst]
    simp

def strOf (l : List UInt8) : ByteArray := ⟨l.toArray⟩
theorem strOf_size (l : List UInt8) : (strOf l).size = l.length := by simp [strOf, ByteArray.size]
theorem strOf_toList (l : List UInt8) : (strOf l).data.toList = l := by simp [strOf]
theorem strOf_self (s : ByteArray) : strOf s.data.toList = s := by apply ByteArray.ext; simp [strOf]
theorem strOf_inj {a b : List UInt8} (h : strOf a = strOf b) : a = b := by
  have := congrArg (fun s : ByteArray => s.data.toList) h
  simpa [strOf] using this
theorem toS (s : ByteArray) : ∃ l : List UInt8, s = strOf l ∧ l.length = s.size := ⟨s.data.toList, (strOf_self s).symm, by simp⟩

end Go.Proofs.YtmljjpdodcpohaaDoor.Dk
