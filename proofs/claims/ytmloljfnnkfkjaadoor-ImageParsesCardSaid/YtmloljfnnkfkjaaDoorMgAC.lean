/- Facts on rows of bytes that a call owns: a row's bytes as a string. Facts on memory that the disk's proofs share: drawn regions in a world of one name, ranges of cells, all but some blocks as they were. The table of formats lies where its variable is: what that gives. The walks of inst.known, Shape, Name, unused: their contracts. No condition but those that each states. -/
import Derived.WalkKit
import Derived.Laws.IdiomStrings
import Derived.Laws.OwnMore
import Derived.Test.YtmloljfnnkfkjaaDoorRows
import Derived.WalkLawsBesides
import Derived.WalkSpells
import Derived.ArgAppend
import Derived.Lib.Hide
import Derived.Lib.SlBuf
import Derived.Deep.OwnRows
import Derived.Deep.QuietTactic
import Derived.Deep.MidRow
import Derived.Deep.AppendLies
import Derived.Deep.RegionHeld3
import Derived.Deep.DrawnRows
import Derived.Deep.Heap
import Derived.LaidEqlPtr
import Derived.BigQuiet
import Derived.StillTailTactics
import Derived.Maps.OwnSet
import Derived.Maps.Views
import Derived.Shelf.SlMaps.Clone
import Derived.Test.YtmloljfnnkfkjaaDoorMgAA
import Derived.Test.YtmloljfnnkfkjaaDoorChecked
import Derived.Lib.LaidTab
import Derived.ProofKit
import Derived.Below
import Derived.ChangeSame
namespace Go.Proofs.YtmloljfnnkfkjaaDoor
open Go.RowKit

/-- Bytes as a row's cells. -/
def bv (l : List UInt8) : List Value := l.map fun b => .int .u8 (b.toNat : Int)

theorem bv_append (a b : List UInt8) : bv (a ++ b) = bv a ++ bv b := by simp [bv]

/-- A string of the bytes of an owned row, nil or not. -/
theorem run_convert_owned {P : Program} {w : World} {base : Nat} {src dst e : TypeId} {v : Value} {l : List UInt8} (hs : P.underlying src = some (.slice e)) (he : P.underlying e = some (.int .u8)) (hd : P.underlying dst = some .string)
    (hown : w.ownsRow base e 1 v l.length (bv l)) : (convert src dst v).run P w = .ok (.string ⟨l.toArray⟩) w := by
  rcases hown.2 with ⟨hv, h0⟩ | ⟨g, cap, cur, hv, hbg, hg, hnc, hcm, hcs, htake⟩
  · subst hv
    have hl : l = [] := List.eq_nil_of_length_eq_zero h0
    subst hl
    rw [run_convert_bytes_string w src dst e none 0 0 hs he hd]
    simp [Conv.bytesToString]
    rfl
  · subst hv
    refine run_convert_bytes_back w src dst e ⟨g, 0, none⟩ cap l hs he hd (fun i hi => ?_)
    rw [Addr.add_lit, Nat.zero_add, hown.cellAt i (by omega)]
    simp [bv, List.getElem?_eq_getElem hi]

theorem news_at (W : World) (cs : Array Value) (e : TypeId) : ∀ j u, cs.toList[j]? = some u → (W.alloc (.cells cs e)).cell? ((⟨W.heap.size, 0, none⟩ : Addr).add j) = some u := by
  intro j u h
  rw [Addr.add_lit, Nat.zero_add, World.cell?_alloc_mark]
  simpa using h

/-- What an append to an owned row keeps of the world below. -/
theorem below_append {B : Nat} {w wr w2 : World} {v : Value} {o : Obj} {e : TypeId} {n : Nat} {xs : List Value} (hb : Below B w wr) (hB : B ≤ wr.heap.size) (hown : wr.ownsRow B e 1 v n xs) (hg : (wr.alloc o).grownBy w2 v.ownBlock) : Below B w w2 :=
  (hb.alloc hB o).grown hg (by simp; omega) (fun k hk => (hown.lt k hk).1)

end Go.Proofs.YtmloljfnnkfkjaaDoor

namespace Go.Proofs.YtmloljfnnkfkjaaDoor.Dk
open Go.RowKit

/-- A drawn region whose head reads, in a world of one name. -/
theorem region_still_tail {P : Program} {id : Nat} {Q : Exit → Act → World → Prop} {a : Act} {w : World} {l : List Oper} (n : Nat) (hm : P.follows .mixedOrders = true) (hB : Region.lexTailB .any l.toArray n = true)
    (w1 : World) (hw : w.drew = w1) (h : wpStill P l.toArray w1 (fun a' => wpList P l.toArray Q (l.drop n) a' w1) (l.take n) a) : (Code.region id l.toArray true).wp P Q a w := by
  subst hw
  exact wp_region_still_tail n hm hB h

/-- A drawn region that only reads, in a world of one name. -/
theorem region_still {P : Program} {id : Nat} {Q : Exit → Act → World → Prop} {a : Act} {w : World} {l : List Oper} (hm : P.follows .mixedOrders = true) (hB : Region.lexB .any l.toArray = true)
    (w1 : World) (hw : w.drew = w1) (h : wpStill P l.toArray w1 (fun a' => Q .normal a' w1) l a) : (Code.region id l.toArray true).wp P Q a w := by
  subst hw
  exact wp_region_still_lit hm hB h

/-- One name for a world that has drawn. -/
theorem drawn_world (w0 : World) : ∃ w1 : World, Hid (w0.drew = w1) ∧ (∀ a, w1.cell? a = w0.cell? a) ∧ (∀ a, w1.frozen? a = w0.frozen? a) ∧ Hid (w1.heap = w0.heap) ∧ Hid (Below w0.heap.size w0 w1) :=
  ⟨_, rfl, fun _ => rfl, fun _ => rfl, rfl, ⟨rfl, rfl, rfl, Nat.le_refl _, fun _ _ => rfl⟩⟩

/-- An operation that runs, in a list. -/
theorem wpList_run {P : Program} {ops : Array Oper} {rest : List Oper} {Q : Exit → Act → World → Prop} {o : Oper} {a : Act} {w w' : World} {v : Value} (hg : o.guard = none)
    (hr : (execOp a.eval o).run P w = .ok (.value v) w') (h : wpList P ops Q rest (a.put o.dst v) w') : wpList P ops Q (o :: rest) a w :=
  wpList_plain hg fun K hK => by
    simp only [Oper.wp, hr, Oper.upon]
    exact hK _ _ h

theorem chain2 {w w1 w2 : World} (h : Below w.heap.size w w1) (k : Below w1.heap.size w1 w2) : Below w.heap.size w w2 := h.trans (k.mono h.size)

theorem below_setCells {B : Nat} {w w' : World} (_h : Below B w w') (g : Nat) (hg : B ≤ g) : ∀ (vs : List Value) (o : Nat) (w' : World), Below B w w' → Below B w (w'.setCells g o vs)
  | [], _, _, h => h
  | v :: r, o, w', h => by
    rw [World.setCells]
    exact below_setCells h g hg r (o + 1) _ (h.setCell (by simpa using hg) v)

theorem size_setCells (g : Nat) : ∀ (vs : List Value) (o : Nat) (w : World), (w.setCells g o vs).heap.size = w.heap.size
  | [], _, _ => rfl
  | v :: r, o, w => by
    rw [World.setCells, size_setCells g r (o + 1)]
    simp

theorem block_setCells (g k : Nat) (hk : k ≠ g) : ∀ (vs : List Value) (o : Nat) (w : World), (w.setCells g o vs).heap[k]? = w.heap[k]?
  | [], _, _ => rfl
  | v :: r, o, w => by
    rw [World.setCells, block_setCells g k hk r (o + 1)]
    exact Below.heap_setCell _ _ _ _ (by simpa using hk)

theorem range_new (W : World) (l : List Value) (u : TypeId) : (W.alloc (.cells l.toArray u)).rangeAt W.heap.size 0 l := fun j v hv => by
  rw [Nat.zero_add, World.cell?_alloc_mark]; simpa using hv

theorem there_new (W : World) (Z : Array Value) (u : TypeId) : (W.alloc (.cells Z u)).there W.heap.size 0 Z.size := fun j hj => by
  rw [Nat.zero_add]
  refine ⟨?_, frozen_of_row _ _ _ Z u (heap_alloc_new W _)⟩
  rw [cell_of_row _ _ _ Z u (0, 0) (heap_alloc_new W _), Array.getElem?_eq_getElem hj]; rfl

theorem there_setCell {w : World} {b o n : Nat} (h : w.there b o n) (a : Addr) (v : Value) : (w.setCell a v).there b o n := fun j hj => by
  obtain ⟨h1, h2⟩ := h j hj
  refine ⟨?_, by simpa using h2⟩
  obtain ⟨u, hu⟩ := Option.isSome_iff_exists.1 h1
  by_cases e : a = ⟨b, o + j, none⟩
  · subst e; rw [World.cell?_setCell_same _ _ _ hu]; rfl
  · rw [World.cell?_setCell_other _ _ _ _ e, hu]; rfl

theorem rangeAt_left {w : World} {b o : Nat} {xs ys : List Value} (h : w.rangeAt b o (xs ++ ys)) : w.rangeAt b o xs := fun j v hv => by
  have hj : j < xs.length := (List.getElem?_eq_some_iff.1 hv).1
  exact h j v (by rw [List.getElem?_append_left hj]; exact hv)
theorem rangeAt_right {w : World} {b o n : Nat} {xs ys : List Value} (h : w.rangeAt b o (xs ++ ys)) (hn : n = xs.length) : w.rangeAt b (o + n) ys := fun j v hv => by
  subst hn
  have := h (xs.length + j) v (by rw [List.getElem?_append_right (by omega)]; simpa using hv)
  rwa [← Nat.add_assoc] at this

theorem rangeAt_block {w w' : World} {b o : Nat} {cs : List Value} (h : w.rangeAt b o cs) (hb : w'.heap[b]? = w.heap[b]?) : w'.rangeAt b o cs := fun j v hv =>
  (World.cell?_of_block (w := w) (w' := w') (a := ⟨b, o + j, none⟩) hb).trans (h j v hv)
theorem there_block {w w' : World} {b o n : Nat} (h : w.there b o n) (hb : w'.heap[b]? = w.heap[b]?) : w'.there b o n := fun j hj => by
  rw [World.cell?_of_block (w := w) (w' := w') (a := ⟨b, o + j, none⟩) hb, World.frozen?_of_block (w := w) (w' := w') (a := ⟨b, o + j, none⟩) hb]; exact h j hj

theorem ownsRow_block {w w' : World} {base : Nat} {e : TypeId} {size : Nat} {v : Value} {n : Nat} {xs : List Value} (h : w.ownsRow base e size v n xs) (hb : ∀ b, v.ownBlock = some b → w'.heap[b]? = w.heap[b]?) : w'.ownsRow base e size v n xs := by
  refine ⟨h.1, ?_⟩
  rcases h.2 with h0 | ⟨g, cap, cur, hv, hbg, hg, rest⟩
  · exact .inl h0
  · exact .inr ⟨g, cap, cur, hv, hbg, (hb g (by rw [hv]; rfl)).trans hg, rest⟩

theorem ownsRow_range {w : World} {base : Nat} {e : TypeId} {size : Nat} {g n cap : Nat} {xs : List Value} (h : w.ownsRow base e size (.slice (some ⟨g, 0, none⟩) n cap) n xs) : w.rangeAt g 0 xs := fun j v hv => by
  have := h.cells (g := g) rfl j v hv
  rwa [Addr.add_lit] at this

/-- All blocks that lay there, but those of F, are as they were. -/
structure Only (F : Nat → Prop) (w w' : World) : Prop where
  os : w'.os = w.os
  tape : w'.tape = w.tape
  output : w'.output = w.output
  size : w.heap.size ≤ w'.heap.size
  block : ∀ k, k < w.heap.size → ¬F k → w'.heap[k]? = w.heap[k]?

theorem Only.refl (F : Nat → Prop) (w : World) : Only F w w := ⟨rfl, rfl, rfl, Nat.le_refl _, fun _ _ _ => rfl⟩

theorem Only.trans {F G : Nat → Prop} {a b c : World} (h : Only F a b) (k : Only G b c) (hG : ∀ i, i < a.heap.size → G i → F i) : Only F a c :=
  ⟨k.os.trans h.os, k.tape.trans h.tape, k.output.trans h.output, Nat.le_trans h.size k.size, fun i hi hf => (k.block i (Nat.lt_of_lt_of_le hi h.size) (fun hg => hf (hG i hi hg))).trans (h.block i hi hf)⟩

theorem Only.of_below {F : Nat → Prop} {w w' : World} (h : Below w.heap.size w w') : Only F w w' := ⟨h.os, h.tape, h.output, h.size, fun k hk _ => h.block k hk⟩

theorem Only.setCell {F : Nat → Prop} {a b : World} (h : Only F a b) (p : Addr) (hp : F p.block) (v : Value) : Only F a (b.setCell p v) :=
  have hb : Below 0 b (b.setCell p v) := (Below.refl 0 b).setCell (Nat.zero_le _) v
  h.trans (G := F) ⟨hb.os, hb.tape, hb.output, hb.size, fun _k _ hk => Below.heap_setCell _ _ _ _ (fun e => hk (e ▸ hp))⟩ (fun _ _ h => h)

theorem Only.setCells {F : Nat → Prop} {a : World} (g : Nat) (hg : F g) : ∀ (vs : List Value) (o : Nat) (b : World), Only F a b → Only F a (b.setCells g o vs)
  | [], _, _, h => h
  | v :: r, o, b, h => by
    rw [World.setCells]
    exact Only.setCells g hg r (o + 1) _ (h.setCell ⟨g, o, none⟩ hg v)

theorem Only.below {F : Nat → Prop} {B : Nat} {a w w' : World} (k : Only F w w') (h : Below B a w) (hF : ∀ i, F i → B ≤ i) (ha : B ≤ a.heap.size) : Below B a w' :=
  ⟨k.os.trans h.os, k.tape.trans h.tape, k.output.trans h.output, Nat.le_trans h.size k.size, fun i hi => (k.block i (by have := h.size; omega) (fun hf => by have := hF i hf; omega)).trans (h.block i hi)⟩

theorem Only.of_grown {F : Nat → Prop} {w w' : World} {row : Option Nat} (h : w.grownBy w' row) (hr : ∀ k, row = some k → F k) : Only F w w' :=
  ⟨h.os, h.tape, h.output, h.size, fun k hk hf => h.block k hk (fun e => hf (hr k e.symm))⟩

theorem convert_range {P : Program} {w : World} {src dst e : TypeId} (g o cap n : Nat) (l : List UInt8) (hs : P.underlying src = some (.slice e)) (he : P.underlying e = some (.int .u8)) (hd : P.underlying dst = some .string)
    (hn : l.length = n) (h : w.rangeAt g o (bv l)) : (convert src dst (.slice (some ⟨g, o, none⟩) n cap)).run P w = .ok (.string ⟨l.toArray⟩) w := by
  subst hn
  refine run_convert_bytes_back w src dst e ⟨g, o, none⟩ cap l hs he hd (fun i hi => ?_)
  rw [Addr.add_mid]
  exact h i _ (by simp [bv, List.getElem?_eq_getElem hi])

def strOf (l : List UInt8) : ByteArray := ⟨l.toArray⟩
theorem strOf_size (l : List UInt8) : (strOf l).size = l.length := by simp [strOf, ByteArray.size]
end Go.Proofs.YtmloljfnnkfkjaaDoor.Dk

namespace Go.Proofs.YtmloljfnnkfkjaaDoor.In
open Go.RowKit Lib Dk

theorem cells_of_pairs {H : Type} {enc : TypeId × Value → H} {P : Program} {w : World} {base : Nat} {sp : Nat → Bool} {held : Bool} {fuel : Nat} {t e s : TypeId} {n : Nat} {f0 f1 : Field} {cs : List Value} {rs : List (List UInt8 × List UInt8)} {p : List MemPlace}
    (ht : P.underlying t = some (.array n e)) (he : P.underlying e = some (.struct #[f0, f1])) (hs : P.underlying s = some .string) (h0 : f0.type = s ∧ f0.offset = 0) (h1 : f1.type = s ∧ f1.offset = 1) (hcs : P.cellsOf s = 1) (hce : P.cellsOf e = 2) (hct : P.cellsOf t = n * 2)
    (h : DataW.trod enc P w base sp held fuel t cs = some (.agg (rs.map fun r => .agg [.lit (.string r.1), .lit (.string r.2)]), p)) :
    ∀ i r, rs[i]? = some r → cs[i * 2]? = some (.string (strOf r.1)) ∧ cs[i * 2 + 1]? = some (.string (strOf r.2)) := by
  cases fuel with
  | zero => simp [DataW.trod] at h
  | succ fuel =>
    simp only [DataW.trod, ht, hce, hct] at h
    split at h
    · rename_i hl
      obtain ⟨xs, hm, hx⟩ := Option.map_eq_some_iff.1 h
      have hxs : xs.map (·.1) = rs.map fun r => (DataW.agg [.lit (.string r.1), .lit (.string r.2)] : DataW H) := by
        have := congrArg Prod.fst hx
        simpa using this
      have hxl : xs.length = n := by simpa using mapM_length hm
      have hzl : rs.length = n := by
        have := congrArg List.length hxs
        simp at this
        omega
      intro i r hr
      have hi : i < n := by have := (List.getElem?_eq_some_iff.1 hr).1; omega
      obtain ⟨b, hb, hf⟩ := mapM_at hm i i (by simp [hi])
      have h2 : (xs.map (·.1))[i]? = some b.1 := by simp [hb]
      rw [hxs] at h2
      simp only [List.getElem?_map, hr, Option.map_some, Option.some.injEq] at h2
      obtain ⟨y0, y1, m, hy, hlen, k0, k1⟩ := Go.ChangeShapes.trod_struct2 he hf
      rw [h0.1, h0.2, hcs] at k0
      rw [h1.1, h1.2, hcs] at k1
      obtain ⟨s0, e0, z0, -⟩ := DataW.trod_string hs k0
      obtain ⟨s1, e1, z1, -⟩ := DataW.trod_string hs k1
      rw [hy, z0, z1] at h2
      simp only [DataW.agg.injEq, List.cons.injEq, DataW.lit.injEq, Lit.string.injEq, and_true] at h2
      have c0 := congrArg (·[0]?) e0
      have c1 := congrArg (·[0]?) e1
      simp [List.getElem?_drop] at c0 c1
      refine ⟨?_, ?_⟩
      · rw [c0, h2.1]; rfl
      · rw [c1, h2.2]; rfl
    · cases h

/-- The program's table of formats lies where its variable is. -/
structure HasF (w : World) : Prop where
  lt : 0 < w.heap.size
  nm : ∀ k, k < 38 → w.cell? ⟨0, k * 2, none⟩ = some (.string (strOf (ops.getD k ([], [])).1))
  sh : ∀ k, k < 38 → w.cell? ⟨0, k * 2 + 1, none⟩ = some (.string (strOf (ops.getD k ([], [])).2))
theorem HasF.later {w w' : World} (h : HasF w) (k : Below w.heap.size w w') : HasF w' :=
  ⟨Nat.lt_of_lt_of_le h.lt k.size, fun j hj => (k.cell (p := ⟨_, _, none⟩) h.lt).trans (h.nm j hj), fun j hj => (k.cell (p := ⟨_, _, none⟩) h.lt).trans (h.sh j hj)⟩

end Go.Proofs.YtmloljfnnkfkjaaDoor.In

namespace Go.Proofs.YtmloljfnnkfkjaaDoor.In
open Go.RowKit Dk

theorem known_any (op : Int) (w : World) : Calls Tryd.prog 103 #[.int .i64 op] w fun e w' => e = .returned (.bool (decide (0 ≤ op ∧ op < 38))) ∧ w = w' := by
  by_cases h0 : 0 ≤ op
  · have v0 : op ≥ 0 := h0
    by_cases h1 : op < 38
    · have v1 : decide (0 ≤ op ∧ op < 38) = true := decide_eq_true ⟨h0, h1⟩
      rw [v1]
      go_enter Tryd.func103, Tryd.ntmps103
      go_wp2
      go_ret
      exact ⟨rfl, rfl⟩
    · have v1 : decide (0 ≤ op ∧ op < 38) = false := decide_eq_false (fun h => h1 h.2)
      rw [v1]
      go_enter Tryd.func103, Tryd.ntmps103
      go_wp2
      go_ret
      exact ⟨rfl, rfl⟩
  · have v0 : ¬op ≥ 0 := h0
    have v1 : decide (0 ≤ op ∧ op < 38) = false := decide_eq_false (fun h => h0 h.1)
    rw [v1]
    go_enter Tryd.func103, Tryd.ntmps103
    go_wp2
    go_ret
    exact ⟨rfl, rfl⟩

set_option maxRecDepth 100000 in
theorem shape_any (op : Int) (w : World) (HF : HasF w) : Calls Tryd.prog 89 #[.int .i64 op] w fun e w' => e = .returned (.string (strOf (shapeL op))) ∧ w = w' := by
  have KN := Lib.hid (known_any op w)
  by_cases h : 0 ≤ op ∧ op < 38
  · rw [decide_eq_true h] at KN
    obtain ⟨k, hk, rfl⟩ := op_cases h
    rw [shape_at hk]
    have hc := HF.sh k hk
    have z0 : (0 : Int) ≤ (k : Int) := by omega
    have z1 : (k : Int) < 38 := by omega
    generalize strOf (ops.getD k ([], [])).2 = q at *
    clear HF h
    go_enter Tryd.func89, Tryd.ntmps89
    go_wp2_with (go_at_call 103; refine KN.out.mono ?_; rintro e w1 ⟨rfl, rfl⟩)
    go_ret
    exact ⟨rfl, rfl⟩
  · rw [decide_eq_false h] at KN
    rw [shape_none h]
    clear HF h
    go_enter Tryd.func89, Tryd.ntmps89
    go_wp2_with (go_at_call 103; refine KN.out.mono ?_; rintro e w1 ⟨rfl, rfl⟩)
    go_ret
    exact ⟨rfl, rfl⟩

/-- Whether a shape has no use for a number. -/
theorem unused_any (sh : List UInt8) (i : Nat) (w : World) (_hs : sh.length ≤ 3) : Calls Tryd.prog 90 #[.string (strOf sh), .int .i64 (i : Int)] w fun e w' => e = .returned (.bool (letter sh i == 45)) ∧ w = w' := by
  have hsz := strOf_size sh
  have z0 : (0 : Int) ≤ (i : Int) := by omega
  by_cases h : i < sh.length
  · obtain ⟨c, hc⟩ : ∃ c, c = sh[i] := ⟨_, rfl⟩
    have hl : letter sh i = c := by unfold letter; rw [List.getD_eq_getElem?_getD, List.getElem?_eq_getElem h, hc]; rfl
    rw [hl]
    have z1 : (i : Int) < ((strOf sh).size : Int) := by omega
    have hq : ∀ h' : i < (strOf sh).size, (strOf sh)[i] = c := fun _ => by rw [hc]; rfl
    have hqi : i < (strOf sh).size := by omega
    clear hc hl
    generalize strOf sh = q at *
    have e1 : (c == 45) = ((c.toNat : Int) == 45) := by
      rw [Bool.eq_iff_iff, beq_iff_eq, beq_iff_eq, ← UInt8.toNat_inj]
      constructor
      · intro e; rw [e]; rfl
      · intro e; have : (45 : UInt8).toNat = 45 := rfl; omega
    rw [e1]
    clear h hsz
    go_enter Tryd.func90, Tryd.ntmps90
    go_wp2
    go_ret
    exact ⟨by rw [← hq hqi]; rfl, rfl⟩
  · have z1 : ¬(i : Int) < ((strOf sh).size : Int) := by omega
    have hl : letter sh i = 119 := by unfold letter; rw [List.getD_eq_getElem?_getD, List.getElem?_eq_none (by omega)]; rfl
    rw [hl]
    generalize strOf sh = q at *
    clear hl h hsz
    go_enter Tryd.func90, Tryd.ntmps90
    go_wp2
    go_ret
    exact ⟨rfl, rfl⟩

end Go.Proofs.YtmloljfnnkfkjaaDoor.In

