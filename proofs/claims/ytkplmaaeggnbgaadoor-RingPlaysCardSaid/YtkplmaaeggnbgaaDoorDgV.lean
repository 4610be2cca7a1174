/- The walk of digest.combine: its contract. The walk of digest.encodeWord, encode and ending: their contracts. A Hash in memory; the walk of isValid and New: their contracts. The walk of Write: its contract. The walk of Copy, Sum and Len: their contracts. The walk of Sum, Len and Of, and of all methods at a Hash that is none: their contracts. No condition but those that each states. -/
import Derived.Test.YtkplmaaeggnbgaaDoorDgU
import Derived.LaidEqlPtr
import Derived.Deep.Heap
import Derived.Lib.SlBuf
import Derived.Deep.RegionHeld3
import Derived.Deep.DrawnRows
namespace Go.Proofs.YtkplmaaeggnbgaaDoor
open Go.RowKit
attribute [local irreducible] sched

/-- The program's table of constants lies where its variable is. -/
structure HasK (w : World) : Prop where
  lt : 0 < w.heap.size
  cells : w.rangeAt 0 0 (wv consts)

theorem HasK.later {w w' : World} (h : HasK w) (k : Below w.heap.size w w') : HasK w' :=
  ⟨Nat.lt_of_lt_of_le h.lt k.size, fun j v hv => (k.cell (p := ⟨0, 0 + j, none⟩) h.lt).trans (h.cells j v hv)⟩

def r8v (s : R8) : List Value := [.int .u32 s.a, .int .u32 s.b, .int .u32 s.c, .int .u32 s.d, .int .u32 s.e, .int .u32 s.f, .int .u32 s.g, .int .u32 s.h]

theorem r8v_one (s : R8) : ∀ u ∈ r8v s, u.oneCell' = true := by
  intro u hu
  simp [r8v] at hu
  rcases hu with rfl | rfl | rfl | rfl | rfl | rfl | rfl | rfl <;> rfl

theorem r8v_at {w : World} {b o : Nat} {s : R8} (h : w.rangeAt b o (r8v s)) : ∀ i, i < 8 → w.cell? ⟨b, o + i, none⟩ = some (.int .u32 (s.at i)) := fun i hi => by
  refine h i _ ?_
  rcases (show i = 0 ∨ i = 1 ∨ i = 2 ∨ i = 3 ∨ i = 4 ∨ i = 5 ∨ i = 6 ∨ i = 7 by omega) with rfl | rfl | rfl | rfl | rfl | rfl | rfl | rfl <;> rfl

theorem r8v_of {w : World} {b o : Nat} {s : R8} (h : ∀ i, i < 8 → w.cell? ⟨b, o + i, none⟩ = some (.int .u32 (s.at i))) : w.rangeAt b o (r8v s) := fun i v hv => by
  have hi : i < 8 := (List.getElem?_eq_some_iff.1 hv).1
  rw [h i hi, ← hv]
  rcases (show i = 0 ∨ i = 1 ∨ i = 2 ∨ i = 3 ∨ i = 4 ∨ i = 5 ∨ i = 6 ∨ i = 7 by omega) with rfl | rfl | rfl | rfl | rfl | rfl | rfl | rfl <;> rfl

theorem range_new (W : World) (l : List Value) (u : TypeId) : (W.alloc (.cells l.toArray u)).rangeAt W.heap.size 0 l := fun j v hv => by
  rw [Nat.zero_add, World.cell?_alloc_mark]; simpa using hv

theorem there_new (W : World) (Z : Array Value) (u : TypeId) : (W.alloc (.cells Z u)).there W.heap.size 0 Z.size := fun j hj => by
  rw [Nat.zero_add]
  refine ⟨?_, frozen_of_row _ _ _ Z u (heap_alloc_new W _)⟩
  rw [cell_of_row _ _ _ Z u (0, 0) (heap_alloc_new W _), Array.getElem?_eq_getElem hj]; rfl

/-- Words of which the first k are those of v, added. -/
def mix (s v : R8) (k i : Nat) : Int := if i < k then (add8 s v).at i else s.at i

structure Cm (w wr : World) (s : R8) (l : List UInt8) (g : Nat) : Prop where
  lt : w.heap.size < g
  words : wr.rangeAt g 0 (wv (sched l))
  res : wr.there (w.heap.size + 1 + 1) 0 8
  own : ∀ i, i < 8 → wr.cell? ⟨w.heap.size, i, none⟩ = some (.int .u32 (s.at i))
  free : wr.there w.heap.size 0 8
  k : HasK wr
  below : Below w.heap.size w wr

theorem Cm.of_heap {w wr w' : World} {s : R8} {l : List UInt8} {g : Nat} (h : Cm w wr s l g) (hb : Below wr.heap.size wr w') (hh : w'.heap = wr.heap) : Cm w w' s l g := by
  have hc : ∀ a, w'.cell? a = wr.cell? a := fun a => World.cell?_of_block (by rw [hh])
  have hf : ∀ a, w'.frozen? a = wr.frozen? a := fun a => World.frozen?_of_block (by rw [hh])
  refine ⟨h.lt, fun j v hv => by rw [hc]; exact h.words j v hv, fun j hj => by rw [hc, hf]; exact h.res j hj, fun i hi => by rw [hc]; exact h.own i hi, fun j hj => by rw [hc, hf]; exact h.free j hj, h.k.later hb, ?_⟩
  exact h.below.trans ⟨hb.os, hb.tape, hb.output, hb.size, fun k hk => by rw [hh]⟩

/-- A drawn region that only reads, in a world of one name. -/
theorem region_still {P : Program} {id : Nat} {Q : Exit → Act → World → Prop} {a : Act} {w : World} {l : List Oper} (hm : P.follows .mixedOrders = true) (hB : Region.lexB .any l.toArray = true)
    (w1 : World) (hw : w.drew = w1) (h : wpStill P l.toArray w1 (fun a' => Q .normal a' w1) l a) : (Code.region id l.toArray true).wp P Q a w := by
  subst hw
  exact wp_region_still_lit hm hB h

theorem spell5 (h s c k x : Int) : ((((h + s) % 4294967296 + c) % 4294967296 + k) % 4294967296 + x) % 4294967296 = (h + s + c + k + x) % 4294967296 := by omega

theorem spellA (h s c k x t : Int) : (((((h + s) % 4294967296 + c) % 4294967296 + k) % 4294967296 + x) % 4294967296 + t) % 4294967296 = ((h + s + c + k + x) % 4294967296 + t) % 4294967296 := by omega

structure Cn (w wr : World) (s v : R8) (k : Nat) : Prop where
  res : wr.there (w.heap.size + 1 + 1) 0 8
  free : wr.there w.heap.size 0 8
  own : ∀ i, i < 8 → wr.cell? ⟨w.heap.size, i, none⟩ = some (.int .u32 (mix s v k i))
  below : Below w.heap.size w wr

theorem Cn.put {w wr : World} {s v : R8} (k : Nat) (hk : k < 8) (h : Cn w wr s v k) : Cn w (wr.setCell ⟨w.heap.size, k, none⟩ (.int .u32 ((add8 s v).at k))) s v (k + 1) := by
  refine ⟨there_setCell h.res _ _, there_setCell h.free _ _, fun i hi => ?_, h.below.setCell (by simp) _⟩
  by_cases e : i = k
  · subst e
    rw [World.cell?_setCell_same _ _ _ (h.own i hi), mix, if_pos (Nat.lt_succ_self i)]
  · rw [World.cell?_setCell_other _ _ _ _ (by intro e'; simp at e'; first | done | exact e e'.symm | exact e e'), h.own i hi]
    unfold mix
    by_cases hlt : i < k
    · rw [if_pos hlt, if_pos (by omega)]
    · rw [if_neg hlt, if_neg (by omega)]

set_option maxHeartbeats 2000000 in
set_option maxRecDepth 100000 in
theorem combine_any (s : R8) (l : List UInt8) (hl : l.length = 64) (w : World) (HK : HasK w) :
    Calls Tryd.prog 46 #[.agg (r8v s).toArray, .agg (bv l).toArray] w fun e w' => e = .returned (.agg (r8v (comp s l)).toArray) ∧ Below w.heap.size w w' := by
  have hbl : (bv l).length = 64 := by simp [bv, hl]
  have HI36 : Hid ((Tryd.prog.info? 25).map (·.size) = some (bv l).length) := Lib.hid (by rw [hbl]; kernel_rfl)
  clear hbl
  go_enter Tryd.func46, Tryd.ntmps46
  go_wp2_with (refine wpList_load_mid rfl 25 _ rfl _ 0 rfl (bv l) _ ?_ Tryd.underlying25 rfl HI36.out ?_)
  · refine World.rangeAt_alloc ?_ _
    have := range_new (w.alloc (.cells (r8v s).toArray 24)) (bv l) 25
    simpa using this
  generalize hW1 : ((w.alloc (Obj.cells (r8v s).toArray 24)).alloc (Obj.cells (bv l).toArray 25)).alloc
      (Obj.cells #[Value.int IntKind.u32 0, Value.int IntKind.u32 0, Value.int IntKind.u32 0, Value.int IntKind.u32 0, Value.int IntKind.u32 0, Value.int IntKind.u32 0, Value.int IntKind.u32 0, Value.int IntKind.u32 0] 24) = W1
  have hs1 : Hid (W1.heap.size = w.heap.size + 3) := Lib.hid (by rw [← hW1]; simp)
  have hb1 : Hid (Below w.heap.size w W1) := Lib.hid (by
    rw [← hW1]; exact (((Below.refl _ _).alloc (Nat.le_refl _) _).alloc (by simp) _).alloc (by simp; omega) _)
  have ho1 : Hid (W1.rangeAt w.heap.size 0 (r8v s)) := Lib.hid (by
    rw [← hW1]; exact World.rangeAt_alloc (World.rangeAt_alloc (range_new w _ _) _) _)
  have hf1 : Hid (W1.there w.heap.size 0 8) := Lib.hid (by
    rw [← hW1]; exact World.there_alloc (World.there_alloc (there_new w (r8v s).toArray _) _) _)
  have hr1 : Hid (W1.there (w.heap.size + 1 + 1) 0 8) := Lib.hid (by
    rw [← hW1]
    have := there_new ((w.alloc (Obj.cells (r8v s).toArray 24)).alloc (Obj.cells (bv l).toArray 25)) #[Value.int IntKind.u32 0, Value.int IntKind.u32 0, Value.int IntKind.u32 0, Value.int IntKind.u32 0, Value.int IntKind.u32 0, Value.int IntKind.u32 0, Value.int IntKind.u32 0, Value.int IntKind.u32 0] 24
    simpa using this)
  clear hW1
  refine (expand_any l hl _).mono ?_
  rintro e w2 ⟨rfl, hb2⟩
  have HB2 := Lib.hid hb2
  have hs2 := hb2.size
  have hn := hs1.out
  have HN := Lib.hid hn
  have hgt : w.heap.size < w2.heap.size := by omega
  clear hb2 hn hs2
  have hwl : (wv (sched l)).length = 64 := by
    have : (sched l).length = 64 := by rw [← sched_eq, ext_length, first16_length]
    simp [wv, this]
  have HI60 : Hid ((Tryd.prog.info? 127).map (·.size) = some (wv (sched l)).toArray.size) := Lib.hid (by rw [List.size_toArray, hwl]; exact size64)
  have HONE : Hid ((wv (sched l)).toArray.all (·.oneCell') = true) := Lib.hid (all_oneCell_toArray (wv_one _))
  have HTH : Hid (∀ (W : World) (Z : Array Value) (u : TypeId), Z.size = 64 → (W.alloc (.cells Z u)).there W.heap.size 0 (wv (sched l)).toArray.size) := Lib.hid (fun W Z u hZ => by
    have h := there_new W Z u
    rw [hZ] at h
    have e : (wv (sched l)).toArray.size = 64 := by simp [hwl]
    rw [e]; exact h)
  have HWL := Lib.hid hwl
  clear hwl
  go_wp2_with (refine wpList_store_mid rfl 127 _ _ rfl w2.heap.size 0 (wv (sched l)).toArray rfl rfl (HTH.out _ _ _ rfl) HI60.out HONE.out ?_)
  generalize hW3 : World.setCells (World.alloc w2 (Obj.cells _ _)) _ _ _ = W3
  have hC : Hid (Cm w W3 s l w2.heap.size) := Lib.hid (by
    have hlw := HN.out
    have hbA : Below w2.heap.size w2 W3 := by
      rw [← hW3]; exact below_setCells (Below.refl _ w2) _ (Nat.le_refl _) _ _ _ ((Below.refl _ _).alloc (Nat.le_refl _) _)
    have hbB : Below W1.heap.size W1 W3 := HB2.out.trans (hbA.mono HB2.out.size)
    have hbC : Below w.heap.size w W3 := hb1.out.trans (hbB.mono hb1.out.size)
    refine ⟨hgt, ?_, ?_, ?_, ?_, HK.later hbC, hbC⟩
    · rw [← hW3]
      refine World.rangeAt_setCells_same _ _ _ _ ?_
      rw [HWL.out]
      exact there_new w2 _ 127
    · exact (fun j hj => by rw [hbB.cell (p := ⟨_, _, none⟩) (by simp; omega), hbB.frozen (p := ⟨_, _, none⟩) (by simp; omega)]; exact hr1.out j hj)
    · intro i hi
      rw [hbB.cell (p := ⟨_, _, none⟩) (by simp; omega)]
      have := r8v_at ho1.out i hi
      rwa [Nat.zero_add] at this
    · exact (fun j hj => by rw [hbB.cell (p := ⟨_, _, none⟩) (by simp; omega), hbB.frozen (p := ⟨_, _, none⟩) (by simp; omega)]; exact hf1.out j hj))
  clear hW3 HB2 hb1 ho1 hf1 hr1 hs1 HTH HN HI60 HONE
  have c0 := hC.out.own 0 (by decide)
  have c1 := hC.out.own 1 (by decide)
  have c2 := hC.out.own 2 (by decide)
  have c3 := hC.out.own 3 (by decide)
  have c4 := hC.out.own 4 (by decide)
  have c5 := hC.out.own 5 (by decide)
  have c6 := hC.out.own 6 (by decide)
  have c7 := hC.out.own 7 (by decide)
  simp only [R8.at] at c0 c1 c2 c3 c4 c5 c6 c7
  obtain ⟨W4, hw4, hcell, -, hheap, hbel⟩ := drawn_world W3
  have hC4 : Hid (Cm w W4 s l w2.heap.size) := Lib.hid (hC.out.of_heap hbel.out hheap.out)
  have d0 := (hcell _).trans c0
  have d1 := (hcell _).trans c1
  have d2 := (hcell _).trans c2
  have d3 := (hcell _).trans c3
  have d4 := (hcell _).trans c4
  have d5 := (hcell _).trans c5
  have d6 := (hcell _).trans c6
  have d7 := (hcell _).trans c7
  clear hcell hC c0 c1 c2 c3 c4 c5 c6 c7
  refine region_still (by kernel_rfl) (by kernel_rfl) W4 hw4.out ?_
  repeat still_step
  refine wpStill_nil ?_
  clear d0 d1 d2 d3 d4 d5 d6 d7 hw4 hheap hbel
  go_wp2
  go_loopw [6, 7, 8, 9, 10, 11, 12, 13, 39] (fun va vb vc vd ve vf vg vh vi wr => ∃ (k : Nat) (r : R8), k ≤ 64 ∧ vi = .int .i64 k ∧ va = .int .u32 r.a ∧ vb = .int .u32 r.b ∧ vc = .int .u32 r.c ∧ vd = .int .u32 r.d ∧ ve = .int .u32 r.e ∧ vf = .int .u32 r.f ∧ vg = .int .u32 r.g ∧ vh = .int .u32 r.h ∧ Hid (r = rounds consts (sched l) k s) ∧ Hid (Cm w wr s l w2.heap.size)) (fun _ _ _ _ _ _ _ _ vi _ => 64 - (intOf vi).toNat)
  case atStart => exact ⟨0, s, Nat.zero_le _, rfl, rfl, rfl, rfl, rfl, rfl, rfl, rfl, rfl, Lib.hid rfl, hC4⟩
  case round =>
    clear hC4
    obtain ⟨k, r, hk, rfl, rfl, rfl, rfl, rfl, rfl, rfl, rfl, rfl, hr, hC⟩ := hrel
    by_cases hlt : k < 64
    · have ck : wr.cell? ⟨0, k, none⟩ = some (.int .u32 (consts.getD k 0)) := by
        have := hC.out.k.cells k _ (wv_get consts k hlt)
        rwa [Nat.zero_add] at this
      have cw : wr.cell? ⟨w2.heap.size, k, none⟩ = some (.int .u32 ((sched l).getD k 0)) := by
        have hl : (sched l).length = 64 := by have := HWL.out; simpa [wv] using this
        have := hC.out.words k _ (wv_get (sched l) k (by omega))
        rwa [Nat.zero_add] at this
      obtain ⟨xk, ek⟩ : ∃ x, x = consts.getD k 0 := ⟨_, rfl⟩
      obtain ⟨xw, ew⟩ : ∃ x, x = (sched l).getD k 0 := ⟨_, rfl⟩
      rw [← ek] at ck
      rw [← ew] at cw
      have HR : Hid (stepR r xk xw = rounds consts (sched l) (k + 1) s) := Lib.hid (by rw [hr.out, ek, ew]; rfl)
      clear ek ew
      have z0 : (0 : Int) ≤ (k : Int) := by omega
      have z1 : (k : Int) < 64 := by omega
      go_wp2_with (go_at_call 80; refine (rotr_any _ _ _ (by decide) (by decide)).mono ?_; rintro e w' ⟨rfl, rfl⟩)
      rw [show bits BinOp.xor IntKind.u32 (bits BinOp.xor IntKind.u32 (rot r.e 6) (rot r.e 11)) (rot r.e 25) = sig1 r.e from rfl]
      obtain ⟨W5, hw5, hcell, -, hheap, hbel⟩ := drawn_world wr
      have hC5 : Hid (Cm w W5 s l w2.heap.size) := Lib.hid (hC.out.of_heap hbel.out hheap.out)
      have dk := (hcell _).trans ck
      have dw := (hcell _).trans cw
      clear hcell hC ck cw
      refine region_still (by kernel_rfl) (by kernel_rfl) W5 hw5.out ?_
      repeat still_step
      refine wpStill_nil ?_
      clear hw5 hheap hbel dk dw
      go_wp2_with (go_at_call 80; refine (rotr_any _ _ _ (by decide) (by decide)).mono ?_; rintro e w' ⟨rfl, rfl⟩)
      go_roundw
      case rel => exact ⟨k + 1, stepR r xk xw, by omega, by go_num, by rw [spellA]; rfl, rfl, rfl, rfl, by rw [spell5]; rfl, rfl, rfl, rfl, HR, hC5⟩
      case measure => simp [intOf]; omega
    · obtain rfl : k = 64 := by omega
      clear hlt hk
      have hD : Hid (Cn w wr s r 0) := Lib.hid ⟨hC.out.res, hC.out.free, fun i hi => by rw [hC.out.own i hi]; rfl, hC.out.below⟩
      have HCM : Hid (add8 s r = comp s l) := Lib.hid (by rw [hr.out]; rfl)
      clear hC hr
      obtain ⟨wo, rfl⟩ : ∃ wo : World, wo = wr := ⟨_, rfl⟩
      have i0 : ∀ W, (Instr.index 24 (.agg #[.int .u32 r.a, .int .u32 r.b, .int .u32 r.c, .int .u32 r.d, .int .u32 r.e, .int .u32 r.f, .int .u32 r.g, .int .u32 r.h]) (.int .i64 0)).run Tryd.prog W = .ok (.int .u32 r.a) W := fun _ => by kernel_rfl
      have i1 : ∀ W, (Instr.index 24 (.agg #[.int .u32 r.a, .int .u32 r.b, .int .u32 r.c, .int .u32 r.d, .int .u32 r.e, .int .u32 r.f, .int .u32 r.g, .int .u32 r.h]) (.int .i64 1)).run Tryd.prog W = .ok (.int .u32 r.b) W := fun _ => by kernel_rfl
      have i2 : ∀ W, (Instr.index 24 (.agg #[.int .u32 r.a, .int .u32 r.b, .int .u32 r.c, .int .u32 r.d, .int .u32 r.e, .int .u32 r.f, .int .u32 r.g, .int .u32 r.h]) (.int .i64 2)).run Tryd.prog W = .ok (.int .u32 r.c) W := fun _ => by kernel_rfl
      have i3 : ∀ W, (Instr.index 24 (.agg #[.int .u32 r.a, .int .u32 r.b, .int .u32 r.c, .int .u32 r.d, .int .u32 r.e, .int .u32 r.f, .int .u32 r.g, .int .u32 r.h]) (.int .i64 3)).run Tryd.prog W = .ok (.int .u32 r.d) W := fun _ => by kernel_rfl
      have i4 : ∀ W, (Instr.index 24 (.agg #[.int .u32 r.a, .int .u32 r.b, .int .u32 r.c, .int .u32 r.d, .int .u32 r.e, .int .u32 r.f, .int .u32 r.g, .int .u32 r.h]) (.int .i64 4)).run Tryd.prog W = .ok (.int .u32 r.e) W := fun _ => by kernel_rfl
      have i5 : ∀ W, (Instr.index 24 (.agg #[.int .u32 r.a, .int .u32 r.b, .int .u32 r.c, .int .u32 r.d, .int .u32 r.e, .int .u32 r.f, .int .u32 r.g, .int .u32 r.h]) (.int .i64 5)).run Tryd.prog W = .ok (.int .u32 r.f) W := fun _ => by kernel_rfl
      have i6 : ∀ W, (Instr.index 24 (.agg #[.int .u32 r.a, .int .u32 r.b, .int .u32 r.c, .int .u32 r.d, .int .u32 r.e, .int .u32 r.f, .int .u32 r.g, .int .u32 r.h]) (.int .i64 6)).run Tryd.prog W = .ok (.int .u32 r.g) W := fun _ => by kernel_rfl
      have i7 : ∀ W, (Instr.index 24 (.agg #[.int .u32 r.a, .int .u32 r.b, .int .u32 r.c, .int .u32 r.d, .int .u32 r.e, .int .u32 r.f, .int .u32 r.g, .int .u32 r.h]) (.int .i64 7)).run Tryd.prog W = .ok (.int .u32 r.h) W := fun _ => by kernel_rfl
      go_wp2
      go_loopw [113] (fun vi wr => ∃ k : Nat, k ≤ 8 ∧ vi = .int .i64 k ∧ Hid (Cn w wr s r k)) (fun vi _ => 8 - (intOf vi).toNat)
      case atStart => exact ⟨0, Nat.zero_le _, rfl, hD⟩
      case round =>
        clear hD
        obtain ⟨k, hk, rfl, hD⟩ := hrel
        rcases (show k = 0 ∨ k = 1 ∨ k = 2 ∨ k = 3 ∨ k = 4 ∨ k = 5 ∨ k = 6 ∨ k = 7 ∨ k = 8 by omega) with rfl | rfl | rfl | rfl | rfl | rfl | rfl | rfl | rfl
        · have co : wr.cell? ⟨w.heap.size, 0, none⟩ = some (.int .u32 s.a) := hD.out.own 0 (by decide)
          have fo : wr.frozen? ⟨w.heap.size, 0, none⟩ = false := (hD.out.free 0 (by decide)).2
          go_wp2
          go_roundw
          case rel => exact ⟨1, by omega, rfl, Lib.hid (Cn.put 0 (by decide) hD.out)⟩
          case measure => simp [intOf]
        · have co : wr.cell? ⟨w.heap.size, 1, none⟩ = some (.int .u32 s.b) := hD.out.own 1 (by decide)
          have fo : wr.frozen? ⟨w.heap.size, 1, none⟩ = false := (hD.out.free 1 (by decide)).2
          go_wp2
          go_roundw
          case rel => exact ⟨2, by omega, rfl, Lib.hid (Cn.put 1 (by decide) hD.out)⟩
          case measure => simp [intOf]
        · have co : wr.cell? ⟨w.heap.size, 2, none⟩ = some (.int .u32 s.c) := hD.out.own 2 (by decide)
          have fo : wr.frozen? ⟨w.heap.size, 2, none⟩ = false := (hD.out.free 2 (by decide)).2
          go_wp2
          go_roundw
          case rel => exact ⟨3, by omega, rfl, Lib.hid (Cn.put 2 (by decide) hD.out)⟩
          case measure => simp [intOf]
        · have co : wr.cell? ⟨w.heap.size, 3, none⟩ = some (.int .u32 s.d) := hD.out.own 3 (by decide)
          have fo : wr.frozen? ⟨w.heap.size, 3, none⟩ = false := (hD.out.free 3 (by decide)).2
          go_wp2
          go_roundw
          case rel => exact ⟨4, by omega, rfl, Lib.hid (Cn.put 3 (by decide) hD.out)⟩
          case measure => simp [intOf]
        · have co : wr.cell? ⟨w.heap.size, 4, none⟩ = some (.int .u32 s.e) := hD.out.own 4 (by decide)
          have fo : wr.frozen? ⟨w.heap.size, 4, none⟩ = false := (hD.out.free 4 (by decide)).2
          go_wp2
          go_roundw
          case rel => exact ⟨5, by omega, rfl, Lib.hid (Cn.put 4 (by decide) hD.out)⟩
          case measure => simp [intOf]
        · have co : wr.cell? ⟨w.heap.size, 5, none⟩ = some (.int .u32 s.f) := hD.out.own 5 (by decide)
          have fo : wr.frozen? ⟨w.heap.size, 5, none⟩ = false := (hD.out.free 5 (by decide)).2
          go_wp2
          go_roundw
          case rel => exact ⟨6, by omega, rfl, Lib.hid (Cn.put 5 (by decide) hD.out)⟩
          case measure => simp [intOf]
        · have co : wr.cell? ⟨w.heap.size, 6, none⟩ = some (.int .u32 s.g) := hD.out.own 6 (by decide)
          have fo : wr.frozen? ⟨w.heap.size, 6, none⟩ = false := (hD.out.free 6 (by decide)).2
          go_wp2
          go_roundw
          case rel => exact ⟨7, by omega, rfl, Lib.hid (Cn.put 6 (by decide) hD.out)⟩
          case measure => simp [intOf]
        · have co : wr.cell? ⟨w.heap.size, 7, none⟩ = some (.int .u32 s.h) := hD.out.own 7 (by decide)
          have fo : wr.frozen? ⟨w.heap.size, 7, none⟩ = false := (hD.out.free 7 (by decide)).2
          go_wp2
          go_roundw
          case rel => exact ⟨8, by omega, rfl, Lib.hid (Cn.put 7 (by decide) hD.out)⟩
          case measure => simp [intOf]
        · have hown : wr.rangeAt w.heap.size 0 (r8v (add8 s r)) := r8v_of (fun i hi => by rw [Nat.zero_add, hD.out.own i hi, mix, if_pos hi])
          have HO := Lib.hid hown
          have hres : wr.there (w.heap.size + 1 + 1) 0 (r8v (add8 s r)).toArray.size := hD.out.res
          have HT := Lib.hid hres
          have HONE : Hid ((r8v (add8 s r)).toArray.all (·.oneCell') = true) := Lib.hid (all_oneCell_toArray (r8v_one _))
          have HI1 : Hid ((Tryd.prog.info? 24).map (·.size) = some (r8v (add8 s r)).length) := Lib.hid (by kernel_rfl)
          clear hown hres i0 i1 i2 i3 i4 i5 i6 i7
          go_wp2_with (first
            | (refine wpList_load_mid rfl 24 _ rfl w.heap.size 0 rfl (r8v (add8 s r)) _ HO.out Tryd.underlying24 rfl HI1.out ?_)
            | (refine wpList_store_mid rfl 24 _ _ rfl (w.heap.size + 1 + 1) 0 (r8v (add8 s r)).toArray rfl rfl HT.out HI1.out HONE.out ?_))
          have hR : (wr.setCells (w.heap.size + 1 + 1) 0 (r8v (add8 s r))).rangeAt (w.heap.size + 1 + 1) 0 (r8v (add8 s r)) := World.rangeAt_setCells_same _ _ _ _ HT.out
          refine bodyPost_ret (v := .agg (r8v (add8 s r)).toArray) ?_ rfl ⟨by rw [HCM.out], ?_⟩
          · refine results_cell_mid (ty := 24) (p := 4) (b := w.heap.size + 1 + 1) (o := 0) (cs := r8v (add8 s r)) (d := .array 8 23) Tryd.results46 _ _ ?_ hR Tryd.underlying24 rfl HI1.out
            rfl
          · exact below_setCells hD.out.below _ (by omega) _ _ _ hD.out.below

end Go.Proofs.YtkplmaaeggnbgaaDoor
namespace Go.Proofs.YtkplmaaeggnbgaaDoor
open Go.RowKit

theorem be4_bytes (x : Int) (h0 : 0 ≤ x) (h1 : x < 4294967296) : bv (be4 x) = [.int .u8 (x / 16777216), .int .u8 (x / 65536 % 256), .int .u8 (x / 256 % 256), .int .u8 (x % 256)] := by
  obtain ⟨u, rfl⟩ := Int.eq_ofNat_of_zero_le h0
  simp [bv, be4]
  omega

set_option maxHeartbeats 1000000 in
set_option maxRecDepth 100000 in
theorem encodeWord_any (b o c : Nat) (x : Int) (h0 : 0 ≤ x) (h1 : x < 4294967296) (w : World) (H : w.there b o 4) :
    Calls Tryd.prog 81 #[.slice (some ⟨b, o, none⟩) 4 c, .int .u32 x] w fun e w' => e = .returned (.tuple #[]) ∧ w' = w.setCells b o (bv (be4 x)) := by
  have HB := Lib.hid (be4_bytes x h0 h1)
  obtain ⟨v0, c0⟩ := Option.isSome_iff_exists.1 (H 0 (by decide)).1
  obtain ⟨v1, c1⟩ := Option.isSome_iff_exists.1 (H 1 (by decide)).1
  obtain ⟨v2, c2⟩ := Option.isSome_iff_exists.1 (H 2 (by decide)).1
  obtain ⟨v3, c3⟩ := Option.isSome_iff_exists.1 (H 3 (by decide)).1
  have f0 := (H 0 (by decide)).2
  have f1 := (H 1 (by decide)).2
  have f2 := (H 2 (by decide)).2
  have f3 := (H 3 (by decide)).2
  rw [Nat.add_zero] at c0 f0
  clear H
  go_enter Tryd.func81, Tryd.ntmps81
  go_wp2
  refine bodyPost_end (results_none rfl _ _ _) rfl ⟨rfl, by rw [HB.out]; rfl⟩

theorem out8_at (s : R8) (k : Nat) (hk : k < 8) : (out8 s).drop (4 * k) = be4 (s.at k) ++ (out8 s).drop (4 * k + 4) := by
  rcases (show k = 0 ∨ k = 1 ∨ k = 2 ∨ k = 3 ∨ k = 4 ∨ k = 5 ∨ k = 6 ∨ k = 7 by omega) with rfl | rfl | rfl | rfl | rfl | rfl | rfl | rfl <;> rfl

theorem out8_take (s : R8) (k : Nat) (hk : k < 8) : bv ((out8 s).take (4 * (k + 1))) = bv ((out8 s).take (4 * k)) ++ bv (be4 (s.at k)) := by
  rw [← bv_append]
  rcases (show k = 0 ∨ k = 1 ∨ k = 2 ∨ k = 3 ∨ k = 4 ∨ k = 5 ∨ k = 6 ∨ k = 7 by omega) with rfl | rfl | rfl | rfl | rfl | rfl | rfl | rfl <;> rfl

theorem R8.Ok.at {s : R8} (h : s.Ok) (k : Nat) (hk : k < 8) : 0 ≤ s.at k ∧ s.at k < 4294967296 := by
  rcases (show k = 0 ∨ k = 1 ∨ k = 2 ∨ k = 3 ∨ k = 4 ∨ k = 5 ∨ k = 6 ∨ k = 7 by omega) with rfl | rfl | rfl | rfl | rfl | rfl | rfl | rfl
  · exact h.a
  · exact h.b
  · exact h.c
  · exact h.d
  · exact h.e
  · exact h.f
  · exact h.g
  · exact h.h

structure En (w wr : World) (s : R8) (k : Nat) : Prop where
  free : wr.there (w.heap.size + 1) 0 32
  done : wr.rangeAt (w.heap.size + 1) 0 (bv ((out8 s).take (4 * k)))
  below : Below w.heap.size w wr

theorem rangeAt_add {w : World} {b o : Nat} {xs ys : List Value} (h1 : w.rangeAt b o xs) (h2 : w.rangeAt b (o + xs.length) ys) : w.rangeAt b o (xs ++ ys) := fun j v hv => by
  by_cases hj : j < xs.length
  · rw [List.getElem?_append_left hj] at hv; exact h1 j v hv
  · rw [List.getElem?_append_right (by omega)] at hv
    have := h2 _ v hv
    rwa [show o + xs.length + (j - xs.length) = o + j by omega] at this

theorem En.put {w wr : World} {s : R8} (k : Nat) (hk : k < 8) (h : En w wr s k) : En w (wr.setCells (w.heap.size + 1) (4 * k) (bv (be4 (s.at k)))) s (k + 1) := by
  have hlen : (bv ((out8 s).take (4 * k))).length = 4 * k := by simp [bv, out8_length]; omega
  refine ⟨World.there_setCells h.free _ _ _, ?_, below_setCells h.below (w.heap.size + 1) (by omega) _ _ _ h.below⟩
  rw [out8_take s k hk]
  refine rangeAt_add (World.rangeAt_setCells_apart h.done (w.heap.size + 1) (4 * k) (bv (be4 (s.at k))) (Or.inr (Or.inl (by rw [hlen]; omega)))) ?_
  rw [hlen, Nat.zero_add]
  exact World.rangeAt_setCells_same _ _ _ _ (fun j hj => by
    have := h.free (4 * k + j) (by simp [bv, be4] at hj; omega)
    rwa [Nat.zero_add] at this)

theorem index8 (s : R8) (k : Nat) (hk : k < 8) (W : World) : (Instr.index 24 (.agg (r8v s).toArray) (.int .i64 (k : Int))).run Tryd.prog W = .ok (.int .u32 (s.at k)) W := by
  rcases (show k = 0 ∨ k = 1 ∨ k = 2 ∨ k = 3 ∨ k = 4 ∨ k = 5 ∨ k = 6 ∨ k = 7 by omega) with rfl | rfl | rfl | rfl | rfl | rfl | rfl | rfl <;> kernel_rfl

theorem convert_range {P : Program} {w : World} {src dst e : TypeId} (g cap n : Nat) (l : List UInt8) (hs : P.underlying src = some (.slice e)) (he : P.underlying e = some (.int .u8)) (hd : P.underlying dst = some .string)
    (hn : l.length = n) (h : w.rangeAt g 0 (bv l)) : (convert src dst (.slice (some ⟨g, 0, none⟩) n cap)).run P w = .ok (.string ⟨l.toArray⟩) w := by
  subst hn
  refine run_convert_bytes_back w src dst e ⟨g, 0, none⟩ cap l hs he hd (fun i hi => ?_)
  rw [Addr.add_lit]
  exact h i _ (by simp [bv, List.getElem?_eq_getElem hi])

set_option maxHeartbeats 1000000 in
set_option maxRecDepth 100000 in
theorem encode_dig (s : R8) (hs : s.Ok) (w : World) :
    Calls Tryd.prog 48 #[.agg (r8v s).toArray] w fun e w' => e = .returned (.string ⟨(out8 s).toArray⟩) ∧ Below w.heap.size w w' := by
  have HS := Lib.hid hs
  clear hs
  go_enter Tryd.func48, Tryd.ntmps48
  go_wp2_with (refine wpList_load_mid rfl 24 _ rfl w.heap.size 0 rfl (r8v s) _ (World.rangeAt_alloc (range_new w _ _) _) Tryd.underlying24 rfl (by kernel_rfl) ?_)
  go_loopw [8] (fun vi wr => ∃ k : Nat, k ≤ 8 ∧ vi = .int .i64 k ∧ Hid (En w wr s k)) (fun vi _ => 8 - (intOf vi).toNat)
  case atStart =>
    refine ⟨0, Nat.zero_le _, rfl, Lib.hid ⟨?_, fun j v hv => by simp [bv] at hv, ((Below.refl _ _).alloc (Nat.le_refl _) _).alloc (by simp) _⟩⟩
    rw [show w.heap.size + 1 = (w.alloc (.cells (r8v s).toArray 24)).heap.size by simp]
    exact there_new _ _ _
  case round =>
    obtain ⟨k, hk, rfl, hE⟩ := hrel
    by_cases hlt : k < 8
    · have hix := index8 s k hlt
      have hsl : ∀ w', (Instr.sliceAt 130 (.pointer (some ⟨w.heap.size + 1, 0, none⟩)) (some (.int .i64 (4 * (k : Int)))) (some (.int .i64 (4 * (k : Int) + 4))) (some (.int .i64 (4 * (k : Int) + 4)))).run Tryd.prog w' = .ok (.slice (some ⟨w.heap.size + 1, 4 * k, none⟩) 4 4) w' := fun w' => by
        have := run_slice_arr (P := Tryd.prog) w' 130 5 32 (by kernel_rfl) (by kernel_rfl) (w.heap.size + 1) 0 (4 * k) (4 * k + 4) (4 * (k : Int)) (4 * (k : Int) + 4) (by omega) (by omega) (by omega) (by omega)
        rw [this]; simp
      go_wp2_with fail
      refine (encodeWord_any _ _ _ _ (HS.out.at k hlt).1 (HS.out.at k hlt).2 _ (fun j hj => ?_)).mono ?_
      · have := hE.out.free (4 * k + j) (by omega)
        rwa [Nat.zero_add] at this
      rintro e w2 ⟨rfl, rfl⟩
      clear hix hsl
      go_wp2
      go_roundw
      case rel => exact ⟨k + 1, by omega, by go_num, Lib.hid (En.put k hlt hE.out)⟩
      case measure => simp [intOf]; omega
    · obtain rfl : k = 8 := by omega
      have hcv := convert_range (P := Tryd.prog) (w := wr) (src := 85) (dst := 9) (w.heap.size + 1) 32 32 (out8 s) Tryd.underlying85 Tryd.underlying5 Tryd.underlying9 rfl hE.out.done
      go_wp2
      go_ret
      exact ⟨rfl, hE.out.below⟩

/-- What the row of ending holds behind j rounds. -/
def endRow (n Z j : Nat) : Nat → Value := fun i => if i = 0 then .int .u8 128 else if Z < i ∧ i < Z + 1 + j then .int .u8 (byteAt (be8 (8 * n)) (i - Z - 1)) else .int .u8 0

theorem endRow_set (n Z j k : Nat) (hk : k = 1 + Z + j) (v : Int) (hv : byteAt (be8 (8 * n)) j = v) (i : Nat) : (if i = k then Value.int .u8 v else endRow n Z j i) = endRow n Z (j + 1) i := by
  subst hv hk
  unfold endRow
  by_cases h0 : i = 0
  · rw [if_neg (by omega), if_pos h0, if_pos h0]
  rw [if_neg h0, if_neg h0]
  by_cases h1 : i = 1 + Z + j
  · rw [if_pos h1, if_pos (by omega)]; congr 2; omega
  rw [if_neg h1]
  by_cases h2 : Z < i ∧ i < Z + 1 + j
  · rw [if_pos h2, if_pos (by omega)]
  · rw [if_neg h2, if_neg (by omega)]

theorem endRow_first (n Z : Nat) (i : Nat) : (if i = 0 then Value.int .u8 128 else .int .u8 0) = endRow n Z 0 i := by
  unfold endRow
  by_cases h0 : i = 0
  · rw [if_pos h0, if_pos h0]
  · rw [if_neg h0, if_neg h0, if_neg (by omega)]

theorem endRow_at (n i : Nat) (hi : i < (endOf n).length) : endRow n (zerosOf n) 8 i = .int .u8 (byteAt (endOf n) i) := by
  rw [endOf_length] at hi
  unfold endRow endOf byteAt
  by_cases h0 : i = 0
  · subst h0; rfl
  rw [if_neg h0]
  obtain ⟨m, rfl⟩ : ∃ m, i = m + 1 := ⟨i - 1, by omega⟩
  by_cases h2 : zerosOf n < m + 1 ∧ m + 1 < zerosOf n + 1 + 8
  · rw [if_pos h2]
    congr 2
    simp only [List.cons_append, List.getD_cons_succ]
    rw [List.getD_eq_getElem?_getD, List.getD_eq_getElem?_getD, List.getElem?_append_right (by simp; omega)]
    simp only [List.length_replicate]
    rw [show m + 1 - zerosOf n - 1 = m - zerosOf n by omega]
  · rw [if_neg h2]
    simp only [List.cons_append, List.getD_cons_succ]
    rw [List.getD_eq_getElem?_getD, List.getElem?_append_left (by simp; omega), List.getElem?_replicate]
    split <;> rfl

set_option maxHeartbeats 2000000 in
set_option maxRecDepth 100000 in
theorem ending_any (n : Nat) (hn : n ≤ 1000000000) (w : World) :
    Calls Tryd.prog 47 #[.int .i64 n] w fun e w' => e = .returned (.string ⟨(endOf n).toArray⟩) ∧ Below w.heap.size w w' := by
  obtain ⟨Z, hZ⟩ : ∃ Z, Z = zerosOf n := ⟨_, rfl⟩
  have hz1 : (63 : Int) - ((n : Int) + 8) % 64 = (Z : Int) := by subst hZ; unfold zerosOf; omega
  have hz2 : Z < 64 := by subst hZ; unfold zerosOf; omega
  have HZ := Lib.hid hZ
  clear hZ
  have hmk := fun w : World => run_make_row' (P := Tryd.prog) 85 5 (.int .u8 0) 1 Tryd.underlying85 Tryd.info5 rfl .i64 .i64 (Z + 9) (by omega) (by omega) w
  have hmk2 : ∀ w : World, (Instr.makeSlice 85 (.int .i64 (1 + (Z : Int) + 8)) (.int .i64 (1 + (Z : Int) + 8))).run Tryd.prog w = .ok (.slice (some ⟨w.heap.size, 0, none⟩) (Z + 9) (Z + 9)) (w.alloc (.cells (madeCells #[.int .u8 0] (Z + 9)) 5)) := fun w => by
    rw [show (1 + (Z : Int) + 8) = ((Z + 9 : Nat) : Int) by omega]; exact hmk w
  clear hmk
  have hm0 : (madeCells #[Value.int IntKind.u8 0] (Z + 9))[0]? = some (Value.int IntKind.u8 0) := by
    rw [← Array.getElem?_toList, toList_madeCells_one, List.getElem?_replicate, if_pos (by omega)]
  go_enter Tryd.func47, Tryd.ntmps47
  go_wp2
  clear hmk2 hm0
  generalize hW : World.alloc w (Obj.cells _ _) = W1
  have hR0 : Hid (W1.rowIs w.heap.size 5 (Z + 9) (endRow n Z 0)) := Lib.hid (by
    have hsz : (madeCells #[Value.int IntKind.u8 0] (Z + 9)).size = Z + 9 := size_madeCells _ _
    have h := (World.rowIs_alloc w ((madeCells #[Value.int IntKind.u8 0] (Z + 9)).setIfInBounds 0 (.int .u8 128)) 5 (endRow n Z 0) (fun i hi => by
      have hi' : i < Z + 9 := by rw [Array.size_setIfInBounds, hsz] at hi; exact hi
      rw [← endRow_first n Z, Array.getElem?_setIfInBounds]
      by_cases h0 : 0 = i
      · subst h0
        rw [if_pos rfl, if_pos (by rw [hsz]; omega), if_pos rfl]
      · rw [if_neg h0, if_neg (by omega), ← Array.getElem?_toList, toList_madeCells_one, List.getElem?_replicate, if_pos hi']))
    rw [Array.size_setIfInBounds, hsz, hW] at h
    exact h)
  have hB0 : Hid (Below w.heap.size w W1) := Lib.hid (by rw [← hW]; exact (Below.refl _ _).alloc (Nat.le_refl _) _)
  clear hW hz1
  go_loopw [20] (fun vi wr => ∃ j : Nat, j ≤ 8 ∧ vi = .int .i64 j ∧ Hid (wr.rowIs w.heap.size 5 (Z + 9) (endRow n Z j)) ∧ Hid (Below w.heap.size w wr)) (fun vi _ => 8 - (intOf vi).toNat)
  case atStart => exact ⟨0, Nat.zero_le _, rfl, hR0, hB0⟩
  case round =>
    clear hR0 hB0
    obtain ⟨j, hj, rfl, hrow, hbel⟩ := hrel
    rcases (show j = 0 ∨ j = 1 ∨ j = 2 ∨ j = 3 ∨ j = 4 ∨ j = 5 ∨ j = 6 ∨ j = 7 ∨ j = 8 by omega) with rfl | rfl | rfl | rfl | rfl | rfl | rfl | rfl | rfl
    · have hc : wr.cell? ⟨w.heap.size, 1 + Z, none⟩ = some _ := hrow.out.cell (by omega)
      have hf := hrow.out.frozen (1 + Z)
      have HV : Hid (byteAt (be8 (8 * n)) 0 = 8 * (n : Int) / 72057594037927936) := Lib.hid (by simp [byteAt, be8] <;> omega)
      go_wp2
      go_roundw
      case rel => exact ⟨1, by omega, rfl, Lib.hid ((hrow.out.set _ _).congr (fun i _ => endRow_set n Z 0 _ (by omega) _ HV.out i)), hbel.out.setCell (by simp) _⟩
      case measure => simp [intOf]
    · have hc : wr.cell? ⟨w.heap.size, 1 + Z + 1, none⟩ = some _ := hrow.out.cell (by omega)
      have hf := hrow.out.frozen (1 + Z + 1)
      have HV : Hid (byteAt (be8 (8 * n)) 1 = 8 * (n : Int) / 281474976710656) := Lib.hid (by simp [byteAt, be8] <;> omega)
      go_wp2
      go_roundw
      case rel => exact ⟨2, by omega, rfl, Lib.hid ((hrow.out.set _ _).congr (fun i _ => endRow_set n Z 1 _ (by omega) _ HV.out i)), hbel.out.setCell (by simp) _⟩
      case measure => simp [intOf]
    · have hc : wr.cell? ⟨w.heap.size, 1 + Z + 2, none⟩ = some _ := hrow.out.cell (by omega)
      have hf := hrow.out.frozen (1 + Z + 2)
      have HV : Hid (byteAt (be8 (8 * n)) 2 = 8 * (n : Int) / 1099511627776) := Lib.hid (by simp [byteAt, be8] <;> omega)
      go_wp2
      go_roundw
      case rel => exact ⟨3, by omega, rfl, Lib.hid ((hrow.out.set _ _).congr (fun i _ => endRow_set n Z 2 _ (by omega) _ HV.out i)), hbel.out.setCell (by simp) _⟩
      case measure => simp [intOf]
    · have hc : wr.cell? ⟨w.heap.size, 1 + Z + 3, none⟩ = some _ := hrow.out.cell (by omega)
      have hf := hrow.out.frozen (1 + Z + 3)
      have HV : Hid (byteAt (be8 (8 * n)) 3 = 8 * (n : Int) / 4294967296) := Lib.hid (by simp [byteAt, be8] <;> omega)
      go_wp2
      go_roundw
      case rel => exact ⟨4, by omega, rfl, Lib.hid ((hrow.out.set _ _).congr (fun i _ => endRow_set n Z 3 _ (by omega) _ HV.out i)), hbel.out.setCell (by simp) _⟩
      case measure => simp [intOf]
    · have hc : wr.cell? ⟨w.heap.size, 1 + Z + 4, none⟩ = some _ := hrow.out.cell (by omega)
      have hf := hrow.out.frozen (1 + Z + 4)
      have HV : Hid (byteAt (be8 (8 * n)) 4 = 8 * (n : Int) / 16777216 % 256) := Lib.hid (by simp [byteAt, be8] <;> omega)
      go_wp2
      go_roundw
      case rel => exact ⟨5, by omega, rfl, Lib.hid ((hrow.out.set _ _).congr (fun i _ => endRow_set n Z 4 _ (by omega) _ HV.out i)), hbel.out.setCell (by simp) _⟩
      case measure => simp [intOf]
    · have hc : wr.cell? ⟨w.heap.size, 1 + Z + 5, none⟩ = some _ := hrow.out.cell (by omega)
      have hf := hrow.out.frozen (1 + Z + 5)
      have HV : Hid (byteAt (be8 (8 * n)) 5 = 8 * (n : Int) / 65536 % 256) := Lib.hid (by simp [byteAt, be8] <;> omega)
      go_wp2
      go_roundw
      case rel => exact ⟨6, by omega, rfl, Lib.hid ((hrow.out.set _ _).congr (fun i _ => endRow_set n Z 5 _ (by omega) _ HV.out i)), hbel.out.setCell (by simp) _⟩
      case measure => simp [intOf]
    · have hc : wr.cell? ⟨w.heap.size, 1 + Z + 6, none⟩ = some _ := hrow.out.cell (by omega)
      have hf := hrow.out.frozen (1 + Z + 6)
      have HV : Hid (byteAt (be8 (8 * n)) 6 = 8 * (n : Int) / 256 % 256) := Lib.hid (by simp [byteAt, be8] <;> omega)
      go_wp2
      go_roundw
      case rel => exact ⟨7, by omega, rfl, Lib.hid ((hrow.out.set _ _).congr (fun i _ => endRow_set n Z 6 _ (by omega) _ HV.out i)), hbel.out.setCell (by simp) _⟩
      case measure => simp [intOf]
    · have hc : wr.cell? ⟨w.heap.size, 1 + Z + 7, none⟩ = some _ := hrow.out.cell (by omega)
      have hf := hrow.out.frozen (1 + Z + 7)
      have HV : Hid (byteAt (be8 (8 * n)) 7 = 8 * (n : Int) % 256) := Lib.hid (by simp [byteAt, be8] <;> omega)
      go_wp2
      go_roundw
      case rel => exact ⟨8, by omega, rfl, Lib.hid ((hrow.out.set _ _).congr (fun i _ => endRow_set n Z 7 _ (by omega) _ HV.out i)), hbel.out.setCell (by simp) _⟩
      case measure => simp [intOf]
    · have hcv := convert_range (P := Tryd.prog) (w := wr) (src := 85) (dst := 9) w.heap.size (Z + 9) (Z + 9) (endOf n) Tryd.underlying85 Tryd.underlying5 Tryd.underlying9 (by rw [endOf_length, HZ.out]; omega) (fun i v hv => by
        have hi : i < (endOf n).length := by have := (List.getElem?_eq_some_iff.1 hv).1; simpa [bv] using this
        rw [Nat.zero_add, hrow.out.cell (by rw [endOf_length] at hi; rw [HZ.out]; omega), HZ.out, endRow_at n i hi, ← hv]
        simp [bv, byteAt, List.getD, hi])
      go_wp2
      go_ret
      exact ⟨rfl, hbel.out⟩

end Go.Proofs.YtkplmaaeggnbgaaDoor
namespace Go.Proofs.YtkplmaaeggnbgaaDoor
open Go.RowKit

/-- All but block g is as it was. -/
structure Just (g : Nat) (w w' : World) : Prop where
  os : w'.os = w.os
  tape : w'.tape = w.tape
  output : w'.output = w.output
  size : w.heap.size ≤ w'.heap.size
  block : ∀ k, k < w.heap.size → k ≠ g → w'.heap[k]? = w.heap[k]?

theorem Just.refl (g : Nat) (w : World) : Just g w w := ⟨rfl, rfl, rfl, Nat.le_refl _, fun _ _ _ => rfl⟩

theorem Just.trans {g : Nat} {a b c : World} (h : Just g a b) (k : Just g b c) : Just g a c :=
  ⟨k.os.trans h.os, k.tape.trans h.tape, k.output.trans h.output, Nat.le_trans h.size k.size, fun i hi hg => (k.block i (Nat.lt_of_lt_of_le hi h.size) hg).trans (h.block i hi hg)⟩

theorem Just.of_below {g : Nat} {w w' : World} (h : Below w.heap.size w w') : Just g w w' := ⟨h.os, h.tape, h.output, h.size, fun k hk _ => h.block k hk⟩

theorem Just.setCell {g : Nat} {a b : World} (h : Just g a b) (o : Nat) (v : Value) : Just g a (b.setCell ⟨g, o, none⟩ v) :=
  have hb : Below 0 b (b.setCell ⟨g, o, none⟩ v) := (Below.refl 0 b).setCell (Nat.zero_le _) v
  h.trans ⟨hb.os, hb.tape, hb.output, hb.size, fun k _ hk => Go.Deep.blk_setCell_other _ _ _ _ (by simpa using hk)⟩

theorem Just.setCells {g : Nat} {a : World} : ∀ (vs : List Value) (o : Nat) (b : World), Just g a b → Just g a (b.setCells g o vs)
  | [], _, _, h => h
  | v :: r, o, b, h => by
    rw [World.setCells]
    exact Just.setCells r (o + 1) _ (h.setCell o v)

theorem Just.below {g B : Nat} {a w w' : World} (k : Just g w w') (h : Below B a w) (hg : B ≤ g) (ha : B ≤ a.heap.size) : Below B a w' :=
  ⟨k.os.trans h.os, k.tape.trans h.tape, k.output.trans h.output, Nat.le_trans h.size k.size, fun i hi => (k.block i (by have := h.size; omega) (by omega)).trans (h.block i hi)⟩

/-- The Hash at block g was written the bytes l. -/
structure HashAt (w : World) (g : Nat) (l : List UInt8) : Prop where
  pos : 0 < g
  lt : g < w.heap.size
  room : w.there g 0 74
  self : w.cell? ⟨g, 0, none⟩ = some (.pointer (some ⟨g, 0, none⟩))
  words : w.rangeAt g 1 (r8v (absorb l (l.length / 64)))
  last : ∃ L : List UInt8, L.length = 64 ∧ w.rangeAt g 9 (bv L) ∧ L.take (l.length % 64) = l.drop (64 * (l.length / 64))
  size : w.cell? ⟨g, 73, none⟩ = some (.int .i64 (l.length : Int))

theorem HashAt.of_block {w w' : World} {g : Nat} {l : List UInt8} (h : HashAt w g l) (hb : w'.heap[g]? = w.heap[g]?) (hs : w.heap.size ≤ w'.heap.size) : HashAt w' g l := by
  have hc : ∀ o, w'.cell? ⟨g, o, none⟩ = w.cell? ⟨g, o, none⟩ := fun o => World.cell?_of_block (a := ⟨g, o, none⟩) hb
  have hf : ∀ o, w'.frozen? ⟨g, o, none⟩ = w.frozen? ⟨g, o, none⟩ := fun o => World.frozen?_of_block (a := ⟨g, o, none⟩) hb
  obtain ⟨L, h1, h2, h3⟩ := h.last
  exact ⟨h.pos, Nat.lt_of_lt_of_le h.lt hs, fun j hj => by rw [hc, hf]; exact h.room j hj, by rw [hc]; exact h.self, fun j v hv => by rw [hc]; exact h.words j v hv,
    ⟨L, h1, fun j v hv => by rw [hc]; exact h2 j v hv, h3⟩, by rw [hc]; exact h.size⟩

theorem HashAt.later {w w' : World} {g B : Nat} {l : List UInt8} (h : HashAt w g l) (k : Below B w w') (hg : g < B) : HashAt w' g l := h.of_block (k.block g hg) k.size

theorem HashAt.just {w w' : World} {g g' : Nat} {l : List UInt8} (h : HashAt w g l) (k : Just g' w w') (hg : g ≠ g') : HashAt w' g l := h.of_block (k.block g h.lt hg) k.size

theorem HasK.just {w w' : World} {g : Nat} (h : HasK w) (k : Just g w w') (hg : 0 < g) : HasK w' :=
  ⟨Nat.lt_of_lt_of_le h.lt k.size, fun j v hv => (World.cell?_of_block (w := w) (w' := w') (a := ⟨0, 0 + j, none⟩) (k.block 0 h.lt (by omega))).trans (h.cells j v hv)⟩

theorem eql_self (a : Addr) (w : World) : (binOp .eql 22 (.pointer (some a)) (.pointer (some a))).run Tryd.prog w = .ok (.bool true) w := by
  obtain ⟨j, hj⟩ : ∃ j, Tryd.prog.info? 27 = some j := Option.isSome_iff_exists.1 (by kernel_rfl)
  exact run_eql_ptr_same w a Tryd.underlying22 hj

theorem eql_nil_left (a : Addr) (w : World) : (binOp .eql 22 (.pointer none) (.pointer (some a))).run Tryd.prog w = .ok (.bool false) w := by kernel_rfl

set_option maxHeartbeats 400000 in
theorem isValid_yes (g : Nat) (w : World) (h : w.cell? ⟨g, 0, none⟩ = some (.pointer (some ⟨g, 0, none⟩))) :
    Calls Tryd.prog 45 #[.pointer (some ⟨g, 0, none⟩)] w fun e w' => e = .returned (.bool true) ∧ w = w' := by
  have hq := eql_self
  have hr := eql_nil_left
  go_enter Tryd.func45, Tryd.ntmps45
  go_wp2
  go_ret
  exact ⟨rfl, rfl⟩

set_option maxHeartbeats 400000 in
theorem isValid_nil (w : World) :
    Calls Tryd.prog 45 #[.pointer none] w fun e w' => e = .returned (.bool false) ∧ w = w' := by
  have hq := eql_self
  have hr := eql_nil_left
  go_enter Tryd.func45, Tryd.ntmps45
  go_wp2
  go_ret
  exact ⟨rfl, rfl⟩

set_option maxHeartbeats 400000 in
theorem isValid_zero (g : Nat) (w : World) (h : w.cell? ⟨g, 0, none⟩ = some (.pointer none)) :
    Calls Tryd.prog 45 #[.pointer (some ⟨g, 0, none⟩)] w fun e w' => e = .returned (.bool false) ∧ w = w' := by
  have hq := eql_self
  have hr := eql_nil_left
  go_enter Tryd.func45, Tryd.ntmps45
  go_wp2
  go_ret
  exact ⟨rfl, rfl⟩

/-- The cells of a Hash. -/
def hashCells (g : Nat) (s : R8) (L : List UInt8) (n : Int) : List Value := .pointer (some ⟨g, 0, none⟩) :: (r8v s ++ (bv L ++ [.int .i64 n]))

def hash0 : List Value := .pointer none :: (r8v ⟨0, 0, 0, 0, 0, 0, 0, 0⟩ ++ (bv (List.replicate 64 0) ++ [.int .i64 0]))

theorem zero_hash (w : World) : (zeroValue 27).run Tryd.prog w = .ok (.agg hash0.toArray) w := by kernel_rfl

theorem hashAt_cells {w : World} {g : Nat} {s : R8} {L : List UInt8} {n : Int} (h : w.rangeAt g 0 (hashCells g s L n)) (hL : L.length = 64) :
    w.cell? ⟨g, 0, none⟩ = some (.pointer (some ⟨g, 0, none⟩)) ∧ w.rangeAt g 1 (r8v s) ∧ w.rangeAt g 9 (bv L) ∧ w.cell? ⟨g, 73, none⟩ = some (.int .i64 n) := by
  have h0 : ∀ j v, (hashCells g s L n)[j]? = some v → w.cell? ⟨g, j, none⟩ = some v := fun j v hv => by have := h j v hv; rwa [Nat.zero_add] at this
  refine ⟨h0 0 _ rfl, fun j v hv => ?_, fun j v hv => ?_, ?_⟩
  · rw [show 1 + j = j + 1 by omega]
    refine h0 _ _ ?_
    have hj : j < (r8v s).length := (List.getElem?_eq_some_iff.1 hv).1
    simp only [hashCells, List.getElem?_cons_succ]
    rw [List.getElem?_append_left hj]; exact hv
  · refine h0 _ _ ?_
    have hj : j < (bv L).length := (List.getElem?_eq_some_iff.1 hv).1
    rw [show 9 + j = (8 + j) + 1 by omega]
    simp only [hashCells, List.getElem?_cons_succ]
    rw [List.getElem?_append_right (by simp [r8v]), show 8 + j - (r8v s).length = j by simp [r8v], List.getElem?_append_left hj]; exact hv
  · refine h0 _ _ ?_
    rw [show 73 = (8 + 64) + 1 by omega]
    simp only [hashCells, List.getElem?_cons_succ]
    rw [List.getElem?_append_right (by simp [r8v]), show 8 + 64 - (r8v s).length = 64 by simp [r8v], List.getElem?_append_right (by simp [bv, hL])]
    simp [bv, hL]

set_option maxHeartbeats 1000000 in
set_option maxRecDepth 100000 in
theorem new_any (w : World) (h0 : 0 < w.heap.size) :
    Calls Tryd.prog 49 #[] w fun e w' => e = .returned (.pointer (some ⟨w.heap.size, 0, none⟩)) ∧ HashAt w' w.heap.size [] ∧ Below w.heap.size w w' ∧ w.heap.size < w'.heap.size := by
  have hz := zero_hash
  have hl : hash0.length = 74 := by kernel_rfl
  go_enter Tryd.func49, Tryd.ntmps49
  go_wp2
  go_ret
  have hR : (w.alloc (Obj.cells (hashCells w.heap.size init8 (List.replicate 64 0) 0).toArray 27)).rangeAt w.heap.size 0 (hashCells w.heap.size init8 (List.replicate 64 0) 0) := range_new w _ _
  obtain ⟨h1, h2, h3, h4⟩ := hashAt_cells hR (by simp)
  refine ⟨rfl, ⟨h0, by simp, there_new w _ _, h1, h2, ⟨List.replicate 64 0, by simp, h3, rfl⟩, h4⟩, (Below.refl _ _).alloc (Nat.le_refl _) _, by simp⟩

end Go.Proofs.YtkplmaaeggnbgaaDoor
namespace Go.Proofs.YtkplmaaeggnbgaaDoor
open Go.RowKit
attribute [local go_sem ↓] Go.wp_at_zero Go.wp_at_succ

theorem held_true {P : Program} {md : Region.Mode} {ops : Array Oper} {Q : Exit → Act → World → Prop} : ∀ (fuel : Nat) (listed : Array Bool) (a : Act) (w : World), wpAny P md ops Q fuel listed a w → wpAnyH P md ops Q (fun _ => True) fuel listed a w
  | 0, _, _, _, h => h
  | fuel + 1, _, _, _, h => ⟨h.1, fun i hi => wpOp_mono (fun a' w' h' => ⟨trivial, held_true fuel _ a' w' h'⟩) (h.2 i hi)⟩

/-- What is left of a drawn region comes up one behind the other. -/
theorem held_rest {P : Program} {md : Region.Mode} {ops : Array Oper} {Q : Exit → Act → World → Prop} (n fuel : Nat) {listed : Array Bool} {a : Act} {w : World} (hn : (ops.toList.drop n).length = fuel)
    (hq : Region.seqB md ops (ops.toList.drop n).length n listed = true) (h : wpList P ops Q (ops.toList.drop n) a w) : wpAnyH P md ops Q (fun _ => True) fuel listed a w := by
  subst hn
  exact held_true _ _ _ _ (wpAny_of_seq (ops.toList.drop n) n _ _ _ (fun j => by simp [List.getElem?_drop]) hq h)

theorem run_slice_from {P : Program} (w : World) (t e : TypeId) (n : Nat) (hu : P.underlying t = some (.array n e)) (hs : (P.info? e).map (·.size) = some 1) (b o l : Nat) (hl : l < n) :
    (Instr.sliceAt t (.pointer (some ⟨b, o, none⟩)) (some (.int .i64 (l : Int))) none none).run P w = .ok (.slice (some ⟨b, o + l, none⟩) (n - l) (n - l)) w := by
  have hz : (sizeOf e).run P w = .ok 1 w := by
    cases hq : P.info? e with
    | none => simp [hq] at hs
    | some i => simp [hq] at hs; simp [sizeOf, typeInfo, hq, hs]
  have hne : ¬ n = l := by omega
  have e3 : ∀ code w', (Instr.sliceBound (.int .i64 l) n code).run P w' = .ok l w' := fun code w' =>
    (run_sliceBound w' .i64 _ _ code (by omega) (by omega)).trans (by simp)
  simp [Instr.sliceAt, Instr.sureAddr, run_underlying hu, Instr.sliceBounds, hz, hne, Addr.add_mid, e3]

theorem run_copy_string {P : Program} (w : World) (dT sT ty elem : TypeId) (b o dLen dCap n : Nat) (r : ByteArray)
    (hu : P.underlying dT = some (.slice elem)) (hs : (P.info? elem).map (·.size) = some 1) (hn : n = Nat.min r.size dLen)
    (ht : w.there b o n) :
    (Builtin.copy_ #[dT, sT] ty #[.slice (some ⟨b, o, none⟩) dLen dCap, .string r]).run P w = .ok (goInt n) (w.setCells b o (bv (r.data.toList.take n))) := by
  have hl : (bv (r.data.toList.take n)).length = n := by
    have : r.data.toList.length = r.size := by simp
    have : n ≤ r.size := by rw [hn]; exact Nat.min_le_left _ _
    simp [bv]; omega
  have hst := run_storeCells_cells (P := P) b o (bv (r.data.toList.take n)) 0 w (fun j hj => by rw [hl] at hj; have := (ht j hj).1; simpa using this) (fun j hj => by rw [hl] at hj; have := (ht j hj).2; simpa using this) (bv_one _)
  have hcells : ((r.extract 0 n).data.map fun b => Value.int .u8 b.toNat).toList = bv (r.data.toList.take n) := by
    simp [bv, ByteArray.data_extract]
  cases hq : P.info? elem with
  | none => simp [hq] at hs
  | some i =>
    have hi : i.size = 1 := by simpa [hq] using hs
    simp [Builtin.copy_, run_underlying hu, Builtin.lenOf, Builtin.firstCells, sizeOf, typeInfo, hq, ← hn]
    have h3 : List.take n (List.map (fun b => Value.int .u8 b.toNat) r.data.toList) = bv (r.data.toList.take n) := by simp [bv, List.map_take]
    rw [h3, hst]
    simp

/-- Parts of a range. -/
theorem rangeAt_left {w : World} {b o : Nat} {xs ys : List Value} (h : w.rangeAt b o (xs ++ ys)) : w.rangeAt b o xs := fun j v hv => by
  have hj : j < xs.length := (List.getElem?_eq_some_iff.1 hv).1
  exact h j v (by rw [List.getElem?_append_left hj]; exact hv)
theorem rangeAt_right {w : World} {b o n : Nat} {xs ys : List Value} (h : w.rangeAt b o (xs ++ ys)) (hn : n = xs.length) : w.rangeAt b (o + n) ys := fun j v hv => by
  subst hn
  have := h (xs.length + j) v (by rw [List.getElem?_append_right (by omega)]; simpa using hv)
  rwa [← Nat.add_assoc] at this

/-- What lies in the room behind a copy. -/
def laidIn (L x : List UInt8) (q : Nat) : List UInt8 := L.take q ++ (x ++ L.drop (q + x.length))

theorem laidIn_length (L x : List UInt8) (q : Nat) (h : q + x.length ≤ L.length) : (laidIn L x q).length = L.length := by simp [laidIn]; omega

theorem rangeAt_laidIn {w : World} {g o : Nat} {L x : List UInt8} {q : Nat} (h : w.rangeAt g o (bv L)) (hq : q + x.length ≤ L.length) (ht : w.there g (o + q) x.length) :
    (w.setCells g (o + q) (bv x)).rangeAt g o (bv (laidIn L x q)) := by
  have hL : L = L.take q ++ (L.drop q).take x.length ++ L.drop (q + x.length) := by
    rw [List.append_assoc, ← List.drop_drop, List.take_append_drop, List.take_append_drop]
  have hx : (bv x).length = x.length := by simp [bv]
  have h1 : (bv (L.take q)).length = q := by simp [bv]; omega
  have h2 : (bv ((L.drop q).take x.length)).length = x.length := by simp [bv]; omega
  rw [hL, bv_append, bv_append] at h
  have ha := rangeAt_left (rangeAt_left h)
  have hc := rangeAt_right (n := q + x.length) h (by simp [h1, h2])
  unfold laidIn
  rw [bv_append, bv_append]
  refine rangeAt_add (World.rangeAt_setCells_apart ha g (o + q) (bv x) (Or.inr (Or.inl (by rw [h1]; omega)))) ?_
  rw [h1]
  refine rangeAt_add (World.rangeAt_setCells_same _ _ _ _ (by rw [hx]; exact ht)) ?_
  rw [hx]
  have := World.rangeAt_setCells_apart hc g (o + q) (bv x) (Or.inr (Or.inr (by rw [hx]; omega)))
  rwa [show o + (q + x.length) = o + q + x.length by omega] at this

/-! The plain facts of a part that is taken. -/
theorem absorb_more (m x : List UInt8) : absorb (m ++ x) (m.length / 64) = absorb m (m.length / 64) := absorb_prefix m x _ (by omega)

theorem last_more {L m x : List UInt8} (_hL : L.length = 64) (hl : L.take (m.length % 64) = m.drop (64 * (m.length / 64))) (_hx : m.length % 64 + x.length ≤ 64) :
    (laidIn L x (m.length % 64)).take (m.length % 64 + x.length) = (m ++ x).drop (64 * (m.length / 64)) := by
  unfold laidIn
  rw [hl, List.drop_append_of_le_length (by omega), ← List.append_assoc]
  have h : (m.drop (64 * (m.length / 64)) ++ x).length = m.length % 64 + x.length := by simp; omega
  rw [← h, List.take_left]

theorem block_full {L m x : List UInt8} (hL : L.length = 64) (hl : L.take (m.length % 64) = m.drop (64 * (m.length / 64))) (hx : m.length % 64 + x.length = 64) :
    laidIn L x (m.length % 64) = blockOf (m ++ x) (m.length / 64) := by
  have h := last_more hL hl (Nat.le_of_eq hx)
  have hlen := laidIn_length L x (m.length % 64) (by omega)
  rw [hx, List.take_of_length_le (by omega)] at h
  unfold blockOf
  rw [← h, List.take_of_length_le (by omega)]

/-- A Hash into whose room a part was copied. -/
structure MidAt (w : World) (g : Nat) (m x : List UInt8) : Prop where
  pos : 0 < g
  lt : g < w.heap.size
  room : w.there g 0 74
  self : w.cell? ⟨g, 0, none⟩ = some (.pointer (some ⟨g, 0, none⟩))
  words : w.rangeAt g 1 (r8v (absorb m (m.length / 64)))
  last : ∃ L : List UInt8, L.length = 64 ∧ w.rangeAt g 9 (bv (laidIn L x (m.length % 64))) ∧ L.take (m.length % 64) = m.drop (64 * (m.length / 64))

theorem size_setCells (g : Nat) : ∀ (vs : List Value) (o : Nat) (w : World), w.heap.size ≤ (w.setCells g o vs).heap.size := fun vs o w => (below_setCells (Below.refl 0 w) g (Nat.zero_le _) vs o w (Below.refl 0 w)).size

theorem HashAt.mid {w : World} {g : Nat} {m x : List UInt8} (h : HashAt w g m) (hx : m.length % 64 + x.length ≤ 64) : MidAt (w.setCells g (9 + m.length % 64) (bv x)) g m x := by
  obtain ⟨L, h1, h2, h3⟩ := h.last
  have hb : (bv x).length = x.length := by simp [bv]
  refine ⟨h.pos, Nat.lt_of_lt_of_le h.lt (size_setCells _ _ _ _), World.there_setCells h.room _ _ _, ?_, ?_, L, h1, ?_, h3⟩
  · rw [World.cell?_setCells_out _ _ _ _ _ (fun _ _ => Or.inl (by simp <;> omega))]; exact h.self
  · exact World.rangeAt_setCells_apart h.words _ _ _ (Or.inr (Or.inl (by simp [r8v])))
  · exact rangeAt_laidIn h2 (by omega) (fun j hj => by
      have := h.room (9 + m.length % 64 + j) (by omega)
      rwa [Nat.zero_add] at this)

theorem rangeAt_setCell {w : World} {g o : Nat} {cs : List Value} (h : w.rangeAt g o cs) (i : Nat) (v : Value) (hi : i < o ∨ o + cs.length ≤ i) : (w.setCell ⟨g, i, none⟩ v).rangeAt g o cs := fun j u hu => by
  have hj : j < cs.length := (List.getElem?_eq_some_iff.1 hu).1
  rw [World.cell?_setCell_other _ _ _ _ (by intro e; simp at e <;> omega)]
  exact h j u hu

/-- Not full: what was copied belongs to the text. -/
theorem MidAt.part {w : World} {g : Nat} {m x : List UInt8} (h : MidAt w g m x) (hx : m.length % 64 + x.length < 64) (u : Value) (hu : w.cell? ⟨g, 73, none⟩ = some u) (n : Int) (hn : n = (((m ++ x).length : Nat) : Int)) :
    HashAt (w.setCell ⟨g, 73, none⟩ (.int .i64 n)) g (m ++ x) := by
  subst hn
  obtain ⟨L, h1, h2, h3⟩ := h.last
  have e1 : (m ++ x).length / 64 = m.length / 64 := by rw [List.length_append]; omega
  have e2 : (m ++ x).length % 64 = m.length % 64 + x.length := by rw [List.length_append]; omega
  have hl : (laidIn L x (m.length % 64)).length = 64 := by rw [laidIn_length _ _ _ (by omega), h1]
  refine ⟨h.pos, by simpa using h.lt, there_setCell h.room _ _, ?_, ?_, ⟨laidIn L x (m.length % 64), hl, ?_, ?_⟩, World.cell?_setCell_same _ _ _ hu⟩
  · rw [World.cell?_setCell_other _ _ _ _ (by intro e; simp at e)]; exact h.self
  · rw [e1, absorb_more]; exact rangeAt_setCell h.words 73 _ (Or.inr (by simp [r8v]))
  · exact rangeAt_setCell h2 73 _ (Or.inr (by simp [bv, hl]))
  · rw [e1, e2]; exact last_more h1 h3 (Nat.le_of_lt hx)

structure FullAt (w : World) (g : Nat) (m x : List UInt8) : Prop where
  room : w.there g 0 74
  self : w.cell? ⟨g, 0, none⟩ = some (.pointer (some ⟨g, 0, none⟩))
  words : w.rangeAt g 1 (r8v (absorb m (m.length / 64)))
  last : w.rangeAt g 9 (bv (blockOf (m ++ x) (m.length / 64)))
  blk : (blockOf (m ++ x) (m.length / 64)).length = 64

theorem MidAt.full {w : World} {g : Nat} {m x : List UInt8} (h : MidAt w g m x) (hx : m.length % 64 + x.length = 64) : FullAt w g m x := by
  obtain ⟨L, h1, h2, h3⟩ := h.last
  rw [block_full h1 h3 hx] at h2
  exact ⟨h.room, h.self, h.words, h2, blockOf_length _ _ (by rw [List.length_append]; omega)⟩

theorem rest_is {m x l s : List UInt8} {r : ByteArray} {n : Nat} (hx : x = r.data.toList.take n) (h : m ++ r.data.toList = l ++ s) : (m ++ x) ++ (r.extract n r.size).data.toList = l ++ s := by
  rw [← h, hx, List.append_assoc]
  congr 1
  have : (r.extract n r.size).data.toList = r.data.toList.drop n := by
    have e : r.size = r.data.toList.length := by simp
    simp [ByteArray.data_extract, List.take_of_length_le]
  rw [this, List.take_append_drop]

theorem rest_size {m x : List UInt8} {r : ByteArray} {n : Nat} (h : m.length + r.size ≤ 1000000) (hx : x.length = n) (hn : n ≤ r.size) : (m ++ x).length + (r.extract n r.size).size ≤ 1000000 := by
  simp [ByteArray.size_extract]; omega

theorem size8w : (Tryd.prog.info? 24).map (·.size) = some 8 := by kernel_rfl
theorem size64b : (Tryd.prog.info? 25).map (·.size) = some 64 := by kernel_rfl

theorem chain2 {w w1 w2 : World} (h : Below w.heap.size w w1) (k : Below w1.heap.size w1 w2) : Below w.heap.size w w2 := h.trans (k.mono h.size)

theorem hash_full {W3 w2 : World} {g : Nat} {m x B : List UInt8} {C : R8} (hpos : 0 < g) (hlt : g < W3.heap.size) (hroom : W3.there g 0 74) (hself : W3.cell? ⟨g, 0, none⟩ = some (.pointer (some ⟨g, 0, none⟩)))
    (hsize : W3.cell? ⟨g, 73, none⟩ = some (.int .i64 (((m ++ x).length : Nat) : Int))) (hlast : W3.rangeAt g 9 (bv B)) (hB : B.length = 64) (hb : Below W3.heap.size W3 w2)
    (hC : C = comp (absorb m (m.length / 64)) (blockOf (m ++ x) (m.length / 64))) (hfull : m.length % 64 + x.length = 64) : HashAt (w2.setCells g 1 (r8v C)) g (m ++ x) := by
  have hc : ∀ o, w2.cell? ⟨g, o, none⟩ = W3.cell? ⟨g, o, none⟩ := fun o => hb.cell (p := ⟨g, o, none⟩) hlt
  have hf : ∀ o, w2.frozen? ⟨g, o, none⟩ = W3.frozen? ⟨g, o, none⟩ := fun o => hb.frozen (p := ⟨g, o, none⟩) hlt
  have hr : w2.there g 0 74 := fun j hj => by rw [hc, hf]; exact hroom j hj
  have e1 : (m ++ x).length / 64 = m.length / 64 + 1 := by rw [List.length_append]; omega
  have e2 : (m ++ x).length % 64 = 0 := by rw [List.length_append]; omega
  have h8 : (r8v C).length = 8 := rfl
  refine ⟨hpos, Nat.lt_of_lt_of_le hlt (Nat.le_trans hb.size (size_setCells _ _ _ _)), World.there_setCells hr _ _ _, ?_, ?_, ⟨B, hB, ?_, ?_⟩, ?_⟩
  · rw [World.cell?_setCells_out _ _ _ _ _ (fun _ _ => Or.inl (by simp)), hc]; exact hself
  · rw [e1, absorb, absorb_more, ← hC]
    exact World.rangeAt_setCells_same _ _ _ _ (fun j hj => by
      rw [h8] at hj
      have := hr (1 + j) (by omega)
      rwa [Nat.zero_add] at this)
  · exact World.rangeAt_setCells_apart (fun j v hv => by rw [hc]; exact hlast j v hv) g 1 (r8v C) (Or.inr (Or.inr (by rw [h8]; omega)))
  · rw [e2, List.take_zero, List.drop_eq_nil_of_le (by rw [e1, List.length_append]; omega)]
  · rw [World.cell?_setCells_out _ _ _ _ _ (fun _ _ => Or.inr (by rw [h8]; simp)), hc]; exact hsize

theorem combine_lit (S C : R8) (l : List UInt8) (hC : C = comp S l) (hl : l.length = 64) (w : World) (HK : HasK w) :
    Calls Tryd.prog 46 #[.agg (r8v S).toArray, .agg (bv l).toArray] w fun e w' => e = .returned (.agg (r8v C).toArray) ∧ Below w.heap.size w w' := by
  subst hC
  exact combine_any S l hl w HK

def strSize (v : Value) : Nat := match v with | .string r => r.size | _ => 0

set_option maxHeartbeats 400000 in
set_option maxRecDepth 100000 in
theorem write_any (s : ByteArray) (l : List UInt8) (g : Nat) (w : World) (hH : HashAt w g l) (HK : HasK w) (hb : l.length + s.size ≤ 1000000) :
    Calls Tryd.prog 9 #[.pointer (some ⟨g, 0, none⟩), .string s] w fun e w' => e = .returned (.tuple #[]) ∧ HashAt w' g (l ++ s.data.toList) ∧ Just g w w' := by
  have HH := Lib.hid hH
  clear hH
  go_enter Tryd.func9, Tryd.ntmps9
  go_wp2_with (go_at_call 45; refine (isValid_yes _ _ HH.out.self).mono ?_; rintro e w' ⟨rfl, rfl⟩)
  go_loopw [1] (fun vs wr => ∃ (r : ByteArray) (m : List UInt8), vs = .string r ∧ m.length + r.size ≤ 1000000 ∧ Hid (m ++ r.data.toList = l ++ s.data.toList) ∧ Hid (HashAt wr g m) ∧ Hid (Just g w wr)) (fun vs _ => strSize vs)
  case atStart => exact ⟨s, l, rfl, hb, Lib.hid rfl, HH, Just.refl _ _⟩
  case round =>
    clear HH
    obtain ⟨r, m, rfl, hmr, hml, hH, hJ⟩ := hrel
    by_cases h0 : r.size = 0
    · have hr0 : r.data.toList = [] := List.eq_nil_of_length_eq_zero (by simpa using h0)
      have hm : Hid (m = l ++ s.data.toList) := Lib.hid (by have := hml.out; rwa [hr0, List.append_nil] at this)
      have t0 : decide (0 < r.size) = false := decide_eq_false (by omega)
      clear hr0 h0
      go_wp2
      refine bodyPost_end (results_none rfl _ _ _) rfl ⟨rfl, by rw [← hm.out]; exact hH.out, hJ.out⟩
    · have t0 : 0 < r.size := by omega
      obtain ⟨M, hM⟩ : ∃ M, M = m.length := ⟨_, rfl⟩
      obtain ⟨q, hq⟩ : ∃ q, q = M % 64 := ⟨_, rfl⟩
      obtain ⟨n, hn⟩ : ∃ n, n = Nat.min r.size (64 - q) := ⟨_, rfl⟩
      have hn1 : n ≤ r.size := by rw [hn]; exact Nat.min_le_left _ _
      have hn2 : q + n ≤ 64 := by have : n ≤ 64 - q := by rw [hn]; exact Nat.min_le_right _ _
                                  omega
      have hn3 : 0 < n := by rw [hn]; exact Nat.lt_min.2 ⟨by omega, by omega⟩
      have hq2 : q < 64 := by omega
      have hMb : M ≤ 1000000 := by omega
      have cM : wr.cell? ⟨g, 73, none⟩ = some (.int .i64 (M : Int)) := by rw [hM]; exact hH.out.size
      have hqi : (M : Int).tmod 64 = (q : Int) := by rw [Int.tmod_eq_emod_of_nonneg (by omega)]; omega
      have hsl : ∀ w', (Instr.sliceAt 25 (.pointer (some ⟨g, 9, none⟩)) (some (.int .i64 (q : Int))) none none).run Tryd.prog w' = .ok (.slice (some ⟨g, 9 + q, none⟩) (64 - q) (64 - q)) w' := fun w' =>
        run_slice_from (P := Tryd.prog) w' 25 5 64 (by kernel_rfl) (by kernel_rfl) g 9 q hq2
      obtain ⟨W1, hw1, hcell, hfro, hheap, hbel⟩ := drawn_world wr
      have hH1 : Hid (HashAt W1 g m) := Lib.hid (hH.out.later hbel.out hH.out.lt)
      have dM := (hcell _).trans cM
      have hcp := run_copy_string (P := Tryd.prog) W1 85 9 3 5 g (9 + q) (64 - q) (64 - q) n r Tryd.underlying85 (by kernel_rfl) hn (fun j hj => by
        have := hH1.out.room (9 + q + j) (by omega)
        rwa [Nat.zero_add] at this)
      have HM := Lib.hid hM
      have HQ := Lib.hid hq
      have HN := Lib.hid hn
      clear hM hq hn hcell hfro cM
      go_wp2
      refine region_still_tail 10 (by kernel_rfl) (by kernel_rfl) W1 hw1.out ?_
      simp only [List.take_succ_cons, List.take_zero, List.drop_succ_cons, List.drop_zero]
      repeat still_step
      refine wpStill_nil ?_
      refine Lib.wpList_copy_run _ rfl _ _ 85 9 rfl _ _ rfl rfl hcp ?_
      obtain ⟨x, hx⟩ : ∃ x, x = r.data.toList.take n := ⟨_, rfl⟩
      have hxl : x.length = n := by
        have : r.data.toList.length = r.size := by simp
        rw [hx, List.length_take]; omega
      rw [← hx]
      have HX := Lib.hid hx
      have HXL := Lib.hid hxl
      generalize hW2 : W1.setCells g (9 + q) (bv x) = W2
      have hMid : Hid (MidAt W2 g m x) := Lib.hid (by
        rw [← hW2, HQ.out, HM.out]
        exact hH1.out.mid (by rw [hxl, ← HM.out, ← HQ.out]; exact hn2))
      have e73 : W2.cell? ⟨g, 73, none⟩ = some (.int .i64 (M : Int)) := by
        rw [← hW2, World.cell?_setCells_out _ _ _ _ _ (fun _ _ => Or.inr (by simp [bv, hxl]; omega))]; exact dM
      have f73 : W2.frozen? ⟨g, 73, none⟩ = false := by have := (hMid.out.room 73 (by decide)).2; rwa [Nat.zero_add] at this
      have hJ2 : Hid (Just g w W2) := Lib.hid (by rw [← hW2]; exact Just.setCells _ _ _ (hJ.out.trans (Just.of_below hbel.out)))
      clear hW2 hx hxl hcp dM hsl hqi hw1 hheap hbel hH1 hH hJ
      have hMn : (M : Int) + (n : Int) ≤ 1000000 := by have := HM.out; omega
      have hn0 : (0 : Int) ≤ (n : Int) := by omega
      have hM0 : (0 : Int) ≤ (M : Int) := by omega
      have hnr : (n : Int) ≤ (r.size : Int) := by omega
      by_cases hfull : q + n = 64
      · have he : ((M : Int) + (n : Int)) % 64 = 0 := by have := HQ.out; omega
        have ht : ((M : Int) + (n : Int)).tmod 64 = 0 := by rw [Int.tmod_eq_emod_of_nonneg (by omega)]; exact he
        have hrest : Hid ((m ++ x) ++ (r.extract n r.size).data.toList = l ++ s.data.toList) := Lib.hid (rest_is HX.out (by have := hml.out; exact this))
        have hlen : (m ++ x).length + (r.extract n r.size).size ≤ 1000000 := rest_size hmr HXL.out hn1
        have hless : (r.extract n r.size).size < r.size := by simp [ByteArray.size_extract]; omega
        have hF : Hid (FullAt W2 g m x) := Lib.hid (hMid.out.full (by rw [HXL.out, ← HM.out, ← HQ.out]; exact hfull))
        have HMX : Hid ((M : Int) + (n : Int) = (((m ++ x).length : Nat) : Int)) := Lib.hid (by rw [List.length_append, HXL.out, ← HM.out]; omega)
        have HK2 : Hid (HasK W2) := Lib.hid (HK.just hJ2.out hMid.out.pos)
        go_wp2
        generalize hW3 : W2.setCell ⟨g, 73, none⟩ (.int .i64 ((M : Int) + (n : Int))) = W3
        obtain ⟨S, hS⟩ : ∃ S, S = absorb m (m.length / 64) := ⟨_, rfl⟩
        obtain ⟨B, hB⟩ : ∃ B, B = blockOf (m ++ x) (m.length / 64) := ⟨_, rfl⟩
        have hB64 : B.length = 64 := by rw [hB]; exact hF.out.blk
        have hwords : W3.rangeAt g 1 (r8v S) := by rw [← hW3, hS]; exact rangeAt_setCell hF.out.words 73 _ (Or.inr (by simp [r8v]))
        have hblock : W3.rangeAt g 9 (bv B) := by rw [← hW3, hB]; exact rangeAt_setCell hF.out.last 73 _ (Or.inr (by simp [bv, hF.out.blk]))
        have hroom : W3.there g 0 74 := by rw [← hW3]; exact there_setCell hF.out.room _ _
        have hthere : W3.there g 1 8 := fun j hj => by have := hroom (1 + j) (by omega); rwa [Nat.zero_add] at this
        have hself : W3.cell? ⟨g, 0, none⟩ = some (.pointer (some ⟨g, 0, none⟩)) := by rw [← hW3, World.cell?_setCell_other _ _ _ _ (by intro e; simp at e)]; exact hF.out.self
        have hsize : W3.cell? ⟨g, 73, none⟩ = some (.int .i64 (((m ++ x).length : Nat) : Int)) := by rw [← hW3, World.cell?_setCell_same _ _ _ e73, HMX.out]
        have hJ3 : Hid (Just g w W3) := Lib.hid (by rw [← hW3]; exact hJ2.out.setCell _ _)
        have HK3 : HasK W3 := by rw [← hW3]; exact HK2.out.just ((Just.refl g W2).setCell _ _) hMid.out.pos
        have hpos : 0 < g := hMid.out.pos
        have hlt3 : g < W3.heap.size := Nat.lt_of_lt_of_le hMid.out.lt (by rw [← hW3]; simp)
        have HROOM := Lib.hid hroom
        have HSELF := Lib.hid hself
        have HSIZE := Lib.hid hsize
        have HS := Lib.hid hS
        have HB := Lib.hid hB
        obtain ⟨C, hC⟩ : ∃ C, C = comp S B := ⟨_, rfl⟩
        have HC := Lib.hid hC
        have hu36 := Tryd.underlying25
        have hi36 : (Tryd.prog.info? 25).map (·.size) = some (bv B).length := by
          have : (bv B).length = 64 := by simp [bv, hB64]
          rw [this]; exact size64b
        have HK4 : Hid (HasK W3) := Lib.hid HK3
        have HB64 := Lib.hid hB64
        have hbl : (bv B).length = 64 := by simp [bv, hB64]
        have HTH : Hid (∀ w', Below W3.heap.size W3 w' → w'.there g 1 (r8v C).toArray.size) := Lib.hid (fun w' hb j hj => by
          rw [hb.cell (p := ⟨g, 1 + j, none⟩) hlt3, hb.frozen (p := ⟨g, 1 + j, none⟩) hlt3]; exact hthere j hj)
        have HR1 : Hid (W3.drew.rangeAt g 1 (r8v S)) := Lib.hid hwords
        have HR9 : Hid (W3.drew.rangeAt g 9 (bv B)) := Lib.hid hblock
        have HI36 := Lib.hid hi36
        have HONE : Hid ((r8v C).toArray.all (·.oneCell') = true) := Lib.hid (all_oneCell_toArray (r8v_one _))
        have HK5 : Hid (HasK W3.drew) := Lib.hid (HK3.later ((Below.refl _ _).drew))
        clear hW3 hroom hself hsize hS hB hC he ht e73 f73 HMX HK2 hF hMid hwords hblock hthere HK3 hB64 hu36 hi36 hbl HK4
        refine wp_region_noPanic (wp_region_held (S := fun _ => True) (by kernel_rfl) ?_)
        refine wpAnyH_take (i := 0) (v := .pointer (some ⟨g, 0, none⟩)) rfl (by kernel_rfl) (by kernel_rfl) (by kernel_rfl) (fun _ _ _ h => h) (.inl ⟨rfl, fun _ _ => by kernel_rfl⟩) trivial ?_
        refine wpAnyH_take (i := 1) (v := .pointer (some ⟨g, 0, none⟩)) rfl (by kernel_rfl) (by kernel_rfl) (by kernel_rfl) (fun _ _ _ h => h) (.inl ⟨rfl, fun _ _ => by kernel_rfl⟩) trivial ?_
        refine wpAnyH_take (i := 2) (v := .pointer (some ⟨g, 0, none⟩)) rfl (by kernel_rfl) (by kernel_rfl) (by kernel_rfl) (fun _ _ _ h => h) (.inl ⟨rfl, fun _ _ => by kernel_rfl⟩) trivial ?_
        refine wpAnyH_take (i := 3) (v := .pointer (some ⟨g, 1, none⟩)) rfl (by kernel_rfl) (by kernel_rfl) (by kernel_rfl) (fun _ _ _ h => h) (.inl ⟨rfl, fun _ _ => by kernel_rfl⟩) trivial ?_
        refine wpAnyH_take (i := 5) (v := .pointer (some ⟨g, 0, none⟩)) rfl (by kernel_rfl) (by kernel_rfl) (by kernel_rfl) (fun _ _ _ h => h) (.inl ⟨rfl, fun _ _ => by kernel_rfl⟩) trivial ?_
        refine wpAnyH_take (i := 6) (v := .pointer (some ⟨g, 0, none⟩)) rfl (by kernel_rfl) (by kernel_rfl) (by kernel_rfl) (fun _ _ _ h => h) (.inl ⟨rfl, fun _ _ => by kernel_rfl⟩) trivial ?_
        refine wpAnyH_take (i := 7) (v := .pointer (some ⟨g, 9, none⟩)) rfl (by kernel_rfl) (by kernel_rfl) (by kernel_rfl) (fun _ _ _ h => h) (.inl ⟨rfl, fun _ _ => by kernel_rfl⟩) trivial ?_
        refine wpAnyH_all (rs := [4, 8]) (by kernel_rfl) (by decide) ?_
        intro i hi
        rcases (show i = 4 ∨ i = 8 by simpa using hi) with rfl | rfl
        all_goals clear hi
        · refine YieldsIf.wpOp (S := fun w' => w' = W3.drew) rfl (yieldsIf_load_mid (S := fun w' => w' = W3.drew) (by kernel_rfl) 24 (.tmp 42) (by kernel_rfl) g 1 (by kernel_rfl) (r8v S) _ (fun w' hw => by rw [hw]; exact HR1.out) Tryd.underlying24 rfl size8w) rfl ⟨trivial, ?_⟩
          refine wpAnyH_all (rs := [8]) (by kernel_rfl) (by decide) ?_
          intro i hi
          obtain rfl : i = 8 := by simpa using hi
          refine YieldsIf.wpOp (S := fun w' => w' = W3.drew) rfl (yieldsIf_load_mid (S := fun w' => w' = W3.drew) (by kernel_rfl) 25 (.tmp 46) (by kernel_rfl) g 9 (by kernel_rfl) (bv B) _ (fun w' hw => by rw [hw]; exact HR9.out) Tryd.underlying25 rfl HI36.out) rfl ⟨trivial, ?_⟩
          refine held_rest 9 _ (by kernel_rfl) (by kernel_rfl) ?_
          simp only [List.drop_succ_cons, List.drop_zero]
          go_wp2_with (first
            | (go_at_call 46; refine (combine_lit S C B HC.out HB64.out _ HK5.out).mono ?_; rintro e w2 ⟨rfl, hb2⟩; have HB2 := Lib.hid (chain2 ((Below.refl _ W3).drew) hb2); clear hb2)
            | (refine wpList_store_mid rfl 24 _ _ rfl g 1 (r8v C).toArray rfl rfl (HTH.out _ HB2.out) size8w HONE.out ?_))
          refine NoPanic.normal ?_
          have hfin : Hid (HashAt (w2.setCells g 1 (r8v C)) g (m ++ x)) := Lib.hid (hash_full hpos hlt3 HROOM.out HSELF.out HSIZE.out HR9.out HB64.out HB2.out (by rw [HC.out, HS.out, HB.out]) (by rw [HXL.out, ← HM.out, ← HQ.out]; exact hfull))
          have hfJ : Hid (Just g w (w2.setCells g 1 (r8v C))) := Lib.hid (Just.setCells _ _ _ (hJ3.out.trans (Just.of_below HB2.out)))
          go_wp2
          go_roundw
          case rel => exact ⟨_, m ++ x, rfl, hlen, hrest, hfin, hfJ⟩
          case measure => exact hless
        · refine YieldsIf.wpOp (S := fun w' => w' = W3.drew) rfl (yieldsIf_load_mid (S := fun w' => w' = W3.drew) (by kernel_rfl) 25 (.tmp 46) (by kernel_rfl) g 9 (by kernel_rfl) (bv B) _ (fun w' hw => by rw [hw]; exact HR9.out) Tryd.underlying25 rfl HI36.out) rfl ⟨trivial, ?_⟩
          refine wpAnyH_all (rs := [4]) (by kernel_rfl) (by decide) ?_
          intro i hi
          obtain rfl : i = 4 := by simpa using hi
          refine YieldsIf.wpOp (S := fun w' => w' = W3.drew) rfl (yieldsIf_load_mid (S := fun w' => w' = W3.drew) (by kernel_rfl) 24 (.tmp 42) (by kernel_rfl) g 1 (by kernel_rfl) (r8v S) _ (fun w' hw => by rw [hw]; exact HR1.out) Tryd.underlying24 rfl size8w) rfl ⟨trivial, ?_⟩
          refine held_rest 9 _ (by kernel_rfl) (by kernel_rfl) ?_
          simp only [List.drop_succ_cons, List.drop_zero]
          go_wp2_with (first
            | (go_at_call 46; refine (combine_lit S C B HC.out HB64.out _ HK5.out).mono ?_; rintro e w2 ⟨rfl, hb2⟩; have HB2 := Lib.hid (chain2 ((Below.refl _ W3).drew) hb2); clear hb2)
            | (refine wpList_store_mid rfl 24 _ _ rfl g 1 (r8v C).toArray rfl rfl (HTH.out _ HB2.out) size8w HONE.out ?_))
          refine NoPanic.normal ?_
          have hfin : Hid (HashAt (w2.setCells g 1 (r8v C)) g (m ++ x)) := Lib.hid (hash_full hpos hlt3 HROOM.out HSELF.out HSIZE.out HR9.out HB64.out HB2.out (by rw [HC.out, HS.out, HB.out]) (by rw [HXL.out, ← HM.out, ← HQ.out]; exact hfull))
          have hfJ : Hid (Just g w (w2.setCells g 1 (r8v C))) := Lib.hid (Just.setCells _ _ _ (hJ3.out.trans (Just.of_below HB2.out)))
          go_wp2
          go_roundw
          case rel => exact ⟨_, m ++ x, rfl, hlen, hrest, hfin, hfJ⟩
          case measure => exact hless
      · have he : ((M : Int) + (n : Int)) % 64 = ((q + n : Nat) : Int) := by have := HQ.out; omega
        have ht : ((M : Int) + (n : Int)).tmod 64 = ((q + n : Nat) : Int) := by rw [Int.tmod_eq_emod_of_nonneg (by omega)]; exact he
        have hb0 : (((q + n : Nat) : Int) == 0) = false := by simp; omega
        have hrest : Hid ((m ++ x) ++ (r.extract n r.size).data.toList = l ++ s.data.toList) := Lib.hid (rest_is HX.out (by have := hml.out; exact this))
        have hlen : (m ++ x).length + (r.extract n r.size).size ≤ 1000000 := rest_size hmr HXL.out hn1
        have hless : (r.extract n r.size).size < r.size := by simp [ByteArray.size_extract]; omega
        have HE : Hid (W2.cell? ⟨g, 73, none⟩ = some (.int .i64 (M : Int))) := Lib.hid e73
        have hP : Hid (HashAt (W2.setCell ⟨g, 73, none⟩ (.int .i64 ((M : Int) + (n : Int)))) g (m ++ x)) := Lib.hid (hMid.out.part (by rw [HXL.out, ← HM.out, ← HQ.out]; omega) _ e73 _ (by rw [List.length_append, HXL.out, ← HM.out]; omega))
        go_wp2
        go_roundw
        case rel => exact ⟨_, m ++ x, rfl, hlen, hrest, hP, Lib.hid (hJ2.out.setCell _ _)⟩
        case measure => exact hless

end Go.Proofs.YtkplmaaeggnbgaaDoor
namespace Go.Proofs.YtkplmaaeggnbgaaDoor
open Go.RowKit

theorem yieldsIf_load_int {P : Program} {ops : Array Oper} {S : World → Prop} {op : Oper} {a : Act} (hw : Region.wanted op (yielded ops a.tmps) = true) (ty : TypeId) (k : IntKind) (x : Operand) (ho : op.op = .load ty x)
    (ad : Addr) (hx : a.eval x = .pointer (some ad)) (n : Int) (hS : ∀ w, S w → w.cell? ad = some (.int k n))
    (hu : P.underlying ty = some (.int k)) : YieldsIf P ops S op (.int k n) a :=
  .inl ⟨hw, fun w hw' => by
    have hc := hS w hw'
    have hl : (loadVar ty ad).run P w = .ok (.int k n) w := by simp [loadVar, isAgg, run_underlying hu, hc, go_sem]
    unfold execOp
    simp only [ho, hx, Instr.loadAt, Instr.sureAddr, Sem.run_bind, Sem.run_pure, Result.andThen_ok, hl]⟩

theorem held_rest_at {P : Program} {md : Region.Mode} {ops : Array Oper} {Q : Exit → Act → World → Prop} (n fuel : Nat) (b : Act) {listed : Array Bool} {a : Act} {w : World} (hab : a = b) (hn : (ops.toList.drop n).length = fuel)
    (hq : Region.seqB md ops (ops.toList.drop n).length n listed = true) (h : wpList P ops Q (ops.toList.drop n) b w) : wpAnyH P md ops Q (fun _ => True) fuel listed a w := by
  subst hab
  exact held_rest n fuel hn hq h

/-- What is stored into a new Hash makes it a Hash of the text. -/
theorem copied {W : World} {g : Nat} {S : R8} {L l : List UInt8} (hN : HashAt W g []) (hS : S = absorb l (l.length / 64)) (hL1 : L.length = 64) (hL3 : L.take (l.length % 64) = l.drop (64 * (l.length / 64))) :
    W.there g 1 (r8v S).toArray.size ∧ (W.setCells g 1 (r8v S)).there g 9 (bv L).toArray.size ∧
    ((W.setCells g 1 (r8v S)).setCells g 9 (bv L)).cell? ⟨g, 73, none⟩ = some (.int .i64 0) ∧ ((W.setCells g 1 (r8v S)).setCells g 9 (bv L)).frozen? ⟨g, 73, none⟩ = false ∧
    HashAt (((W.setCells g 1 (r8v S)).setCells g 9 (bv L)).setCell ⟨g, 73, none⟩ (.int .i64 (l.length : Int))) g l := by
  have hbl : (bv L).length = 64 := by simp [bv, hL1]
  have h8 : (r8v S).length = 8 := rfl
  have hr := hN.room
  have t1 : W.there g 1 (r8v S).length := fun j hj => by
    have := hr (1 + j) (by rw [h8] at hj; omega)
    rwa [Nat.zero_add] at this
  have t9 : (W.setCells g 1 (r8v S)).there g 9 (bv L).length := World.there_setCells (fun j hj => by
    have := hr (9 + j) (by rw [hbl] at hj; omega)
    rwa [Nat.zero_add] at this) _ _ _
  have e1 : ((W.setCells g 1 (r8v S)).setCells g 9 (bv L)).cell? ⟨g, 73, none⟩ = some (.int .i64 0) := by
    rw [World.cell?_setCells_out _ _ _ _ _ (fun _ _ => Or.inr (by rw [hbl]; simp)), World.cell?_setCells_out _ _ _ _ _ (fun _ _ => Or.inr (by rw [h8]; simp))]; exact hN.size
  have f1 : ((W.setCells g 1 (r8v S)).setCells g 9 (bv L)).frozen? ⟨g, 73, none⟩ = false := by
    rw [World.frozen?_setCells, World.frozen?_setCells]
    have := (hr 73 (by decide)).2
    rwa [Nat.zero_add] at this
  refine ⟨t1, t9, e1, f1, hN.pos, ?_, there_setCell (World.there_setCells (World.there_setCells hr _ _ _) _ _ _) _ _, ?_, ?_, ⟨L, hL1, ?_, hL3⟩, World.cell?_setCell_same _ _ _ e1⟩
  · have := size_setCells g (r8v S) 1 W
    have := size_setCells g (bv L) 9 (W.setCells g 1 (r8v S))
    have := hN.lt
    simp; omega
  · rw [World.cell?_setCell_other _ _ _ _ (by intro e; simp at e), World.cell?_setCells_out _ _ _ _ _ (fun _ _ => Or.inl (by simp)), World.cell?_setCells_out _ _ _ _ _ (fun _ _ => Or.inl (by simp))]
    exact hN.self
  · rw [← hS]
    exact rangeAt_setCell (World.rangeAt_setCells_apart (World.rangeAt_setCells_same _ _ _ _ t1) g 9 (bv L) (Or.inr (Or.inl (by rw [h8]; omega)))) 73 _ (Or.inr (by rw [h8]; omega))
  · exact rangeAt_setCell (World.rangeAt_setCells_same _ _ _ _ t9) 73 _ (Or.inr (by rw [hbl]; omega))

set_option maxHeartbeats 2000000 in
set_option maxRecDepth 100000 in
theorem copy_hash (l : List UInt8) (g : Nat) (w : World) (hH : HashAt w g l) :
    Calls Tryd.prog 12 #[.pointer (some ⟨g, 0, none⟩)] w fun e w' => e = .returned (.pointer (some ⟨w.heap.size, 0, none⟩)) ∧ HashAt w' w.heap.size l ∧ Below w.heap.size w w' ∧ w.heap.size < w'.heap.size := by
  have HH := Lib.hid hH
  have h0 : 0 < w.heap.size := Nat.lt_of_le_of_lt (Nat.zero_le _) hH.lt
  obtain ⟨S, hS⟩ : ∃ S, S = absorb l (l.length / 64) := ⟨_, rfl⟩
  obtain ⟨L, hL1, hL2, hL3⟩ := hH.last
  clear hH
  go_enter Tryd.func12, Tryd.ntmps12
  go_wp2_with (go_at_call 45; refine (isValid_yes _ _ HH.out.self).mono ?_; rintro e w' ⟨rfl, rfl⟩)
  go_wp2_with fail
  refine (new_any _ h0).mono ?_
  rintro e w1 ⟨rfl, hN, hb1, hlt1⟩
  go_wp2
  have hH1 : HashAt w1 g l := HH.out.later hb1 HH.out.lt
  have HR1 : Hid (w1.drew.rangeAt g 1 (r8v S)) := Lib.hid (by rw [hS]; exact hH1.words)
  have HR9 : Hid (w1.drew.rangeAt g 9 (bv L)) := Lib.hid (fun j v hv => (hb1.cell (p := ⟨g, 9 + j, none⟩) HH.out.lt).trans (hL2 j v hv))
  have HS : Hid (w1.drew.cell? ⟨g, 73, none⟩ = some (.int .i64 (l.length : Int))) := Lib.hid hH1.size
  have hbl : (bv L).length = 64 := by simp [bv, hL1]
  have HI36 : Hid ((Tryd.prog.info? 25).map (·.size) = some (bv L).length) := Lib.hid (by rw [hbl]; exact size64b)
  have HONE : Hid ((r8v S).toArray.all (·.oneCell') = true) := Lib.hid (all_oneCell_toArray (r8v_one _))
  have HTWO : Hid ((bv L).toArray.all (·.oneCell') = true) := Lib.hid (all_oneCell_toArray (bv_one _))
  have hN' : HashAt w1.drew w.heap.size [] := hN.of_block rfl (Nat.le_refl _)
  obtain ⟨c1, c2, c3, c4, c5⟩ := copied hN' hS hL1 hL3
  have HT1 := Lib.hid c1
  have HT9 := Lib.hid c2
  have HE := Lib.hid c3
  have HF := Lib.hid c4
  have HFIN := Lib.hid c5
  have HBEL : Hid (Below w.heap.size w ((((w1.drew.setCells w.heap.size 1 (r8v S)).setCells w.heap.size 9 (bv L))).setCell ⟨w.heap.size, 73, none⟩ (.int .i64 (l.length : Int)))) := Lib.hid (by
    have h1 : Below w.heap.size w w1.drew := hb1.drew
    exact (below_setCells h1 _ (Nat.le_refl _) _ _ _ (below_setCells h1 _ (Nat.le_refl _) _ _ _ h1)).setCell (Nat.le_refl _) _)
  have HLT := Lib.hid HFIN.out.lt
  clear hN' c1 c2 c3 c4 c5
  clear hN hb1 hlt1 hH1 hbl hL1 hL2 hL3 hS
  refine wp_region_noPanic (wp_region_held (S := fun _ => True) (by kernel_rfl) ?_)
  refine wpAnyH_take (i := 0) (v := .pointer (some ⟨w.heap.size, 0, none⟩)) rfl (by kernel_rfl) (by kernel_rfl) (by kernel_rfl) (fun _ _ _ h => h) (.inl ⟨by kernel_rfl, fun _ _ => by kernel_rfl⟩) trivial ?_
  refine wpAnyH_take (i := 1) (v := .pointer (some ⟨w.heap.size, 0, none⟩)) rfl (by kernel_rfl) (by kernel_rfl) (by kernel_rfl) (fun _ _ _ h => h) (.inl ⟨by kernel_rfl, fun _ _ => by kernel_rfl⟩) trivial ?_
  refine wpAnyH_take (i := 2) (v := .pointer (some ⟨w.heap.size, 0, none⟩)) rfl (by kernel_rfl) (by kernel_rfl) (by kernel_rfl) (fun _ _ _ h => h) (.inl ⟨by kernel_rfl, fun _ _ => by kernel_rfl⟩) trivial ?_
  refine wpAnyH_take (i := 3) (v := .pointer (some ⟨g, 0, none⟩)) rfl (by kernel_rfl) (by kernel_rfl) (by kernel_rfl) (fun _ _ _ h => h) (.inl ⟨by kernel_rfl, fun _ _ => by kernel_rfl⟩) trivial ?_
  refine wpAnyH_take (i := 4) (v := .pointer (some ⟨g, 0, none⟩)) rfl (by kernel_rfl) (by kernel_rfl) (by kernel_rfl) (fun _ _ _ h => h) (.inl ⟨by kernel_rfl, fun _ _ => by kernel_rfl⟩) trivial ?_
  refine wpAnyH_take (i := 5) (v := .pointer (some ⟨g, 1, none⟩)) rfl (by kernel_rfl) (by kernel_rfl) (by kernel_rfl) (fun _ _ _ h => h) (.inl ⟨by kernel_rfl, fun _ _ => by kernel_rfl⟩) trivial ?_
  refine wpAnyH_take (i := 7) (v := .pointer (some ⟨g, 0, none⟩)) rfl (by kernel_rfl) (by kernel_rfl) (by kernel_rfl) (fun _ _ _ h => h) (.inl ⟨by kernel_rfl, fun _ _ => by kernel_rfl⟩) trivial ?_
  refine wpAnyH_take (i := 8) (v := .pointer (some ⟨g, 0, none⟩)) rfl (by kernel_rfl) (by kernel_rfl) (by kernel_rfl) (fun _ _ _ h => h) (.inl ⟨by kernel_rfl, fun _ _ => by kernel_rfl⟩) trivial ?_
  refine wpAnyH_take (i := 9) (v := .pointer (some ⟨g, 9, none⟩)) rfl (by kernel_rfl) (by kernel_rfl) (by kernel_rfl) (fun _ _ _ h => h) (.inl ⟨by kernel_rfl, fun _ _ => by kernel_rfl⟩) trivial ?_
  refine wpAnyH_take (i := 11) (v := .pointer (some ⟨g, 0, none⟩)) rfl (by kernel_rfl) (by kernel_rfl) (by kernel_rfl) (fun _ _ _ h => h) (.inl ⟨by kernel_rfl, fun _ _ => by kernel_rfl⟩) trivial ?_
  refine wpAnyH_take (i := 12) (v := .pointer (some ⟨g, 0, none⟩)) rfl (by kernel_rfl) (by kernel_rfl) (by kernel_rfl) (fun _ _ _ h => h) (.inl ⟨by kernel_rfl, fun _ _ => by kernel_rfl⟩) trivial ?_
  refine wpAnyH_take (i := 13) (v := .pointer (some ⟨g, 73, none⟩)) rfl (by kernel_rfl) (by kernel_rfl) (by kernel_rfl) (fun _ _ _ h => h) (.inl ⟨by kernel_rfl, fun _ _ => by kernel_rfl⟩) trivial ?_
  refine wpAnyH_all (rs := [6, 10, 14]) (by kernel_rfl) (by decide) ?_
  intro i hi
  rcases (show i = 6 ∨ i = 10 ∨ i = 14 by simpa using hi) with rfl | rfl | rfl
  all_goals clear hi
  · refine YieldsIf.wpOp (S := fun w' => w' = w1.drew) rfl (yieldsIf_load_mid (S := fun w' => w' = w1.drew) (by kernel_rfl) 24 (.tmp 13) (by kernel_rfl) g 1 (by kernel_rfl) (r8v S) _ (fun w' hw => by rw [hw]; exact HR1.out) Tryd.underlying24 rfl size8w) rfl ⟨trivial, ?_⟩
    refine wpAnyH_all (rs := [10, 14]) (by kernel_rfl) (by decide) ?_
    intro i hi
    rcases (show i = 10 ∨ i = 14 by simpa using hi) with rfl | rfl
    all_goals clear hi
    · refine YieldsIf.wpOp (S := fun w' => w' = w1.drew) rfl (yieldsIf_load_mid (S := fun w' => w' = w1.drew) (by kernel_rfl) 25 (.tmp 17) (by kernel_rfl) g 9 (by kernel_rfl) (bv L) _ (fun w' hw => by rw [hw]; exact HR9.out) Tryd.underlying25 rfl HI36.out) rfl ⟨trivial, ?_⟩
      refine wpAnyH_all (rs := [14]) (by kernel_rfl) (by decide) ?_
      intro i hi
      obtain rfl : i = 14 := by simpa using hi
      clear hi
      refine YieldsIf.wpOp (S := fun w' => w' = w1.drew) rfl (yieldsIf_load_int (S := fun w' => w' = w1.drew) (by kernel_rfl) 3 .i64 (.tmp 21) (by kernel_rfl) ⟨g, 73, none⟩ (by kernel_rfl) (l.length : Int) (fun w' hw => by rw [hw]; exact HS.out) Tryd.underlying3) rfl ⟨trivial, ?_⟩
      refine held_rest_at 15 _ ⟨#[.pointer (some ⟨g, 0, none⟩), undef, .pointer none, .pointer (some ⟨w.heap.size, 0, none⟩), .pointer (some ⟨g, 0, none⟩), .bool true, .bool false, .pointer (some ⟨w.heap.size, 0, none⟩), .pointer (some ⟨w.heap.size, 0, none⟩), .pointer (some ⟨w.heap.size, 0, none⟩), .pointer (some ⟨w.heap.size, 0, none⟩), .pointer (some ⟨g, 0, none⟩), .pointer (some ⟨g, 0, none⟩), .pointer (some ⟨g, 1, none⟩), .agg (r8v S).toArray, .pointer (some ⟨g, 0, none⟩), .pointer (some ⟨g, 0, none⟩), .pointer (some ⟨g, 9, none⟩), .agg (bv L).toArray, .pointer (some ⟨g, 0, none⟩), .pointer (some ⟨g, 0, none⟩), .pointer (some ⟨g, 73, none⟩), .int .i64 (l.length : Int), undef, undef, undef, undef, undef, undef, undef], []⟩ (by kernel_rfl) (by kernel_rfl) (by kernel_rfl) ?_
      simp only [List.drop_succ_cons, List.drop_zero]
      go_wp2_with (first
        | (refine wpList_store_mid rfl 24 _ _ rfl w.heap.size 1 (r8v S).toArray rfl rfl ?_ size8w HONE.out ?_; exact HT1.out)
        | (refine wpList_store_mid rfl 25 _ _ rfl w.heap.size 9 (bv L).toArray rfl rfl ?_ HI36.out HTWO.out ?_; exact HT9.out; have e73 := HE.out; have f73 := HF.out))
      refine NoPanic.normal ?_
      clear e73 f73
      go_wp2
      go_ret
      exact ⟨rfl, HFIN.out, HBEL.out, HLT.out⟩
    · refine YieldsIf.wpOp (S := fun w' => w' = w1.drew) rfl (yieldsIf_load_int (S := fun w' => w' = w1.drew) (by kernel_rfl) 3 .i64 (.tmp 21) (by kernel_rfl) ⟨g, 73, none⟩ (by kernel_rfl) (l.length : Int) (fun w' hw => by rw [hw]; exact HS.out) Tryd.underlying3) rfl ⟨trivial, ?_⟩
      refine wpAnyH_all (rs := [10]) (by kernel_rfl) (by decide) ?_
      intro i hi
      obtain rfl : i = 10 := by simpa using hi
      clear hi
      refine YieldsIf.wpOp (S := fun w' => w' = w1.drew) rfl (yieldsIf_load_mid (S := fun w' => w' = w1.drew) (by kernel_rfl) 25 (.tmp 17) (by kernel_rfl) g 9 (by kernel_rfl) (bv L) _ (fun w' hw => by rw [hw]; exact HR9.out) Tryd.underlying25 rfl HI36.out) rfl ⟨trivial, ?_⟩
      refine held_rest_at 15 _ ⟨#[.pointer (some ⟨g, 0, none⟩), undef, .pointer none, .pointer (some ⟨w.heap.size, 0, none⟩), .pointer (some ⟨g, 0, none⟩), .bool true, .bool false, .pointer (some ⟨w.heap.size, 0, none⟩), .pointer (some ⟨w.heap.size, 0, none⟩), .pointer (some ⟨w.heap.size, 0, none⟩), .pointer (some ⟨w.heap.size, 0, none⟩), .pointer (some ⟨g, 0, none⟩), .pointer (some ⟨g, 0, none⟩), .pointer (some ⟨g, 1, none⟩), .agg (r8v S).toArray, .pointer (some ⟨g, 0, none⟩), .pointer (some ⟨g, 0, none⟩), .pointer (some ⟨g, 9, none⟩), .agg (bv L).toArray, .pointer (some ⟨g, 0, none⟩), .pointer (some ⟨g, 0, none⟩), .pointer (some ⟨g, 73, none⟩), .int .i64 (l.length : Int), undef, undef, undef, undef, undef, undef, undef], []⟩ (by kernel_rfl) (by kernel_rfl) (by kernel_rfl) ?_
      simp only [List.drop_succ_cons, List.drop_zero]
      go_wp2_with (first
        | (refine wpList_store_mid rfl 24 _ _ rfl w.heap.size 1 (r8v S).toArray rfl rfl ?_ size8w HONE.out ?_; exact HT1.out)
        | (refine wpList_store_mid rfl 25 _ _ rfl w.heap.size 9 (bv L).toArray rfl rfl ?_ HI36.out HTWO.out ?_; exact HT9.out; have e73 := HE.out; have f73 := HF.out))
      refine NoPanic.normal ?_
      clear e73 f73
      go_wp2
      go_ret
      exact ⟨rfl, HFIN.out, HBEL.out, HLT.out⟩
  · refine YieldsIf.wpOp (S := fun w' => w' = w1.drew) rfl (yieldsIf_load_mid (S := fun w' => w' = w1.drew) (by kernel_rfl) 25 (.tmp 17) (by kernel_rfl) g 9 (by kernel_rfl) (bv L) _ (fun w' hw => by rw [hw]; exact HR9.out) Tryd.underlying25 rfl HI36.out) rfl ⟨trivial, ?_⟩
    refine wpAnyH_all (rs := [6, 14]) (by kernel_rfl) (by decide) ?_
    intro i hi
    rcases (show i = 6 ∨ i = 14 by simpa using hi) with rfl | rfl
    all_goals clear hi
    · refine YieldsIf.wpOp (S := fun w' => w' = w1.drew) rfl (yieldsIf_load_mid (S := fun w' => w' = w1.drew) (by kernel_rfl) 24 (.tmp 13) (by kernel_rfl) g 1 (by kernel_rfl) (r8v S) _ (fun w' hw => by rw [hw]; exact HR1.out) Tryd.underlying24 rfl size8w) rfl ⟨trivial, ?_⟩
      refine wpAnyH_all (rs := [14]) (by kernel_rfl) (by decide) ?_
      intro i hi
      obtain rfl : i = 14 := by simpa using hi
      clear hi
      refine YieldsIf.wpOp (S := fun w' => w' = w1.drew) rfl (yieldsIf_load_int (S := fun w' => w' = w1.drew) (by kernel_rfl) 3 .i64 (.tmp 21) (by kernel_rfl) ⟨g, 73, none⟩ (by kernel_rfl) (l.length : Int) (fun w' hw => by rw [hw]; exact HS.out) Tryd.underlying3) rfl ⟨trivial, ?_⟩
      refine held_rest_at 15 _ ⟨#[.pointer (some ⟨g, 0, none⟩), undef, .pointer none, .pointer (some ⟨w.heap.size, 0, none⟩), .pointer (some ⟨g, 0, none⟩), .bool true, .bool false, .pointer (some ⟨w.heap.size, 0, none⟩), .pointer (some ⟨w.heap.size, 0, none⟩), .pointer (some ⟨w.heap.size, 0, none⟩), .pointer (some ⟨w.heap.size, 0, none⟩), .pointer (some ⟨g, 0, none⟩), .pointer (some ⟨g, 0, none⟩), .pointer (some ⟨g, 1, none⟩), .agg (r8v S).toArray, .pointer (some ⟨g, 0, none⟩), .pointer (some ⟨g, 0, none⟩), .pointer (some ⟨g, 9, none⟩), .agg (bv L).toArray, .pointer (some ⟨g, 0, none⟩), .pointer (some ⟨g, 0, none⟩), .pointer (some ⟨g, 73, none⟩), .int .i64 (l.length : Int), undef, undef, undef, undef, undef, undef, undef], []⟩ (by kernel_rfl) (by kernel_rfl) (by kernel_rfl) ?_
      simp only [List.drop_succ_cons, List.drop_zero]
      go_wp2_with (first
        | (refine wpList_store_mid rfl 24 _ _ rfl w.heap.size 1 (r8v S).toArray rfl rfl ?_ size8w HONE.out ?_; exact HT1.out)
        | (refine wpList_store_mid rfl 25 _ _ rfl w.heap.size 9 (bv L).toArray rfl rfl ?_ HI36.out HTWO.out ?_; exact HT9.out; have e73 := HE.out; have f73 := HF.out))
      refine NoPanic.normal ?_
      clear e73 f73
      go_wp2
      go_ret
      exact ⟨rfl, HFIN.out, HBEL.out, HLT.out⟩
    · refine YieldsIf.wpOp (S := fun w' => w' = w1.drew) rfl (yieldsIf_load_int (S := fun w' => w' = w1.drew) (by kernel_rfl) 3 .i64 (.tmp 21) (by kernel_rfl) ⟨g, 73, none⟩ (by kernel_rfl) (l.length : Int) (fun w' hw => by rw [hw]; exact HS.out) Tryd.underlying3) rfl ⟨trivial, ?_⟩
      refine wpAnyH_all (rs := [6]) (by kernel_rfl) (by decide) ?_
      intro i hi
      obtain rfl : i = 6 := by simpa using hi
      clear hi
      refine YieldsIf.wpOp (S := fun w' => w' = w1.drew) rfl (yieldsIf_load_mid (S := fun w' => w' = w1.drew) (by kernel_rfl) 24 (.tmp 13) (by kernel_rfl) g 1 (by kernel_rfl) (r8v S) _ (fun w' hw => by rw [hw]; exact HR1.out) Tryd.underlying24 rfl size8w) rfl ⟨trivial, ?_⟩
      refine held_rest_at 15 _ ⟨#[.pointer (some ⟨g, 0, none⟩), undef, .pointer none, .pointer (some ⟨w.heap.size, 0, none⟩), .pointer (some ⟨g, 0, none⟩), .bool true, .bool false, .pointer (some ⟨w.heap.size, 0, none⟩), .pointer (some ⟨w.heap.size, 0, none⟩), .pointer (some ⟨w.heap.size, 0, none⟩), .pointer (some ⟨w.heap.size, 0, none⟩), .pointer (some ⟨g, 0, none⟩), .pointer (some ⟨g, 0, none⟩), .pointer (some ⟨g, 1, none⟩), .agg (r8v S).toArray, .pointer (some ⟨g, 0, none⟩), .pointer (some ⟨g, 0, none⟩), .pointer (some ⟨g, 9, none⟩), .agg (bv L).toArray, .pointer (some ⟨g, 0, none⟩), .pointer (some ⟨g, 0, none⟩), .pointer (some ⟨g, 73, none⟩), .int .i64 (l.length : Int), undef, undef, undef, undef, undef, undef, undef], []⟩ (by kernel_rfl) (by kernel_rfl) (by kernel_rfl) ?_
      simp only [List.drop_succ_cons, List.drop_zero]
      go_wp2_with (first
        | (refine wpList_store_mid rfl 24 _ _ rfl w.heap.size 1 (r8v S).toArray rfl rfl ?_ size8w HONE.out ?_; exact HT1.out)
        | (refine wpList_store_mid rfl 25 _ _ rfl w.heap.size 9 (bv L).toArray rfl rfl ?_ HI36.out HTWO.out ?_; exact HT9.out; have e73 := HE.out; have f73 := HF.out))
      refine NoPanic.normal ?_
      clear e73 f73
      go_wp2
      go_ret
      exact ⟨rfl, HFIN.out, HBEL.out, HLT.out⟩
  · refine YieldsIf.wpOp (S := fun w' => w' = w1.drew) rfl (yieldsIf_load_int (S := fun w' => w' = w1.drew) (by kernel_rfl) 3 .i64 (.tmp 21) (by kernel_rfl) ⟨g, 73, none⟩ (by kernel_rfl) (l.length : Int) (fun w' hw => by rw [hw]; exact HS.out) Tryd.underlying3) rfl ⟨trivial, ?_⟩
    refine wpAnyH_all (rs := [6, 10]) (by kernel_rfl) (by decide) ?_
    intro i hi
    rcases (show i = 6 ∨ i = 10 by simpa using hi) with rfl | rfl
    all_goals clear hi
    · refine YieldsIf.wpOp (S := fun w' => w' = w1.drew) rfl (yieldsIf_load_mid (S := fun w' => w' = w1.drew) (by kernel_rfl) 24 (.tmp 13) (by kernel_rfl) g 1 (by kernel_rfl) (r8v S) _ (fun w' hw => by rw [hw]; exact HR1.out) Tryd.underlying24 rfl size8w) rfl ⟨trivial, ?_⟩
      refine wpAnyH_all (rs := [10]) (by kernel_rfl) (by decide) ?_
      intro i hi
      obtain rfl : i = 10 := by simpa using hi
      clear hi
      refine YieldsIf.wpOp (S := fun w' => w' = w1.drew) rfl (yieldsIf_load_mid (S := fun w' => w' = w1.drew) (by kernel_rfl) 25 (.tmp 17) (by kernel_rfl) g 9 (by kernel_rfl) (bv L) _ (fun w' hw => by rw [hw]; exact HR9.out) Tryd.underlying25 rfl HI36.out) rfl ⟨trivial, ?_⟩
      refine held_rest_at 15 _ ⟨#[.pointer (some ⟨g, 0, none⟩), undef, .pointer none, .pointer (some ⟨w.heap.size, 0, none⟩), .pointer (some ⟨g, 0, none⟩), .bool true, .bool false, .pointer (some ⟨w.heap.size, 0, none⟩), .pointer (some ⟨w.heap.size, 0, none⟩), .pointer (some ⟨w.heap.size, 0, none⟩), .pointer (some ⟨w.heap.size, 0, none⟩), .pointer (some ⟨g, 0, none⟩), .pointer (some ⟨g, 0, none⟩), .pointer (some ⟨g, 1, none⟩), .agg (r8v S).toArray, .pointer (some ⟨g, 0, none⟩), .pointer (some ⟨g, 0, none⟩), .pointer (some ⟨g, 9, none⟩), .agg (bv L).toArray, .pointer (some ⟨g, 0, none⟩), .pointer (some ⟨g, 0, none⟩), .pointer (some ⟨g, 73, none⟩), .int .i64 (l.length : Int), undef, undef, undef, undef, undef, undef, undef], []⟩ (by kernel_rfl) (by kernel_rfl) (by kernel_rfl) ?_
      simp only [List.drop_succ_cons, List.drop_zero]
      go_wp2_with (first
        | (refine wpList_store_mid rfl 24 _ _ rfl w.heap.size 1 (r8v S).toArray rfl rfl ?_ size8w HONE.out ?_; exact HT1.out)
        | (refine wpList_store_mid rfl 25 _ _ rfl w.heap.size 9 (bv L).toArray rfl rfl ?_ HI36.out HTWO.out ?_; exact HT9.out; have e73 := HE.out; have f73 := HF.out))
      refine NoPanic.normal ?_
      clear e73 f73
      go_wp2
      go_ret
      exact ⟨rfl, HFIN.out, HBEL.out, HLT.out⟩
    · refine YieldsIf.wpOp (S := fun w' => w' = w1.drew) rfl (yieldsIf_load_mid (S := fun w' => w' = w1.drew) (by kernel_rfl) 25 (.tmp 17) (by kernel_rfl) g 9 (by kernel_rfl) (bv L) _ (fun w' hw => by rw [hw]; exact HR9.out) Tryd.underlying25 rfl HI36.out) rfl ⟨trivial, ?_⟩
      refine wpAnyH_all (rs := [6]) (by kernel_rfl) (by decide) ?_
      intro i hi
      obtain rfl : i = 6 := by simpa using hi
      clear hi
      refine YieldsIf.wpOp (S := fun w' => w' = w1.drew) rfl (yieldsIf_load_mid (S := fun w' => w' = w1.drew) (by kernel_rfl) 24 (.tmp 13) (by kernel_rfl) g 1 (by kernel_rfl) (r8v S) _ (fun w' hw => by rw [hw]; exact HR1.out) Tryd.underlying24 rfl size8w) rfl ⟨trivial, ?_⟩
      refine held_rest_at 15 _ ⟨#[.pointer (some ⟨g, 0, none⟩), undef, .pointer none, .pointer (some ⟨w.heap.size, 0, none⟩), .pointer (some ⟨g, 0, none⟩), .bool true, .bool false, .pointer (some ⟨w.heap.size, 0, none⟩), .pointer (some ⟨w.heap.size, 0, none⟩), .pointer (some ⟨w.heap.size, 0, none⟩), .pointer (some ⟨w.heap.size, 0, none⟩), .pointer (some ⟨g, 0, none⟩), .pointer (some ⟨g, 0, none⟩), .pointer (some ⟨g, 1, none⟩), .agg (r8v S).toArray, .pointer (some ⟨g, 0, none⟩), .pointer (some ⟨g, 0, none⟩), .pointer (some ⟨g, 9, none⟩), .agg (bv L).toArray, .pointer (some ⟨g, 0, none⟩), .pointer (some ⟨g, 0, none⟩), .pointer (some ⟨g, 73, none⟩), .int .i64 (l.length : Int), undef, undef, undef, undef, undef, undef, undef], []⟩ (by kernel_rfl) (by kernel_rfl) (by kernel_rfl) ?_
      simp only [List.drop_succ_cons, List.drop_zero]
      go_wp2_with (first
        | (refine wpList_store_mid rfl 24 _ _ rfl w.heap.size 1 (r8v S).toArray rfl rfl ?_ size8w HONE.out ?_; exact HT1.out)
        | (refine wpList_store_mid rfl 25 _ _ rfl w.heap.size 9 (bv L).toArray rfl rfl ?_ HI36.out HTWO.out ?_; exact HT9.out; have e73 := HE.out; have f73 := HF.out))
      refine NoPanic.normal ?_
      clear e73 f73
      go_wp2
      go_ret
      exact ⟨rfl, HFIN.out, HBEL.out, HLT.out⟩

end Go.Proofs.YtkplmaaeggnbgaaDoor
namespace Go.Proofs.YtkplmaaeggnbgaaDoor
open Go.RowKit

set_option maxHeartbeats 1000000 in
set_option maxRecDepth 100000 in
theorem sum_any (l : List UInt8) (g : Nat) (w : World) (hH : HashAt w g l) (HK : HasK w) (hl : l.length ≤ 900000) :
    Calls Tryd.prog 10 #[.pointer (some ⟨g, 0, none⟩)] w fun e w' => e = .returned (.string ⟨(sha l).toArray⟩) ∧ Below w.heap.size w w' := by
  have HH := Lib.hid hH
  have hg := hH.lt
  have HK0 := Lib.hid HK
  clear hH HK
  go_enter Tryd.func10, Tryd.ntmps10
  go_wp2_with (go_at_call 45; refine (isValid_yes _ _ HH.out.self).mono ?_; rintro e w' ⟨rfl, rfl⟩)
  go_wp2_with fail
  refine (copy_hash l g _ HH.out).mono ?_
  rintro e w1 ⟨rfl, hN, hb1, hlt1⟩
  have HN := Lib.hid hN
  have HB1 := Lib.hid hb1
  have hs1 : w1.cell? ⟨g, 73, none⟩ = some (.int .i64 (l.length : Int)) := (HH.out.later hb1 hg).size
  clear hN hb1
  go_wp2_with fail
  refine (ending_any l.length (by omega) _).mono ?_
  rintro e w2 ⟨rfl, hb2⟩
  have HB2 := Lib.hid hb2
  clear hb2
  go_wp2_with fail
  refine (write_any _ l w.heap.size _ (HN.out.later HB2.out hlt1) (HK0.out.later (chain2 HB1.out HB2.out)) (by
    have : (endOf l.length).length ≤ 72 := by rw [endOf_length]; unfold zerosOf; omega
    simp [ByteArray.size]; omega)).mono ?_
  rintro e w3 ⟨rfl, hW, hJ⟩
  have hpad : l ++ (⟨(endOf l.length).toArray⟩ : ByteArray).data.toList = pad l := by simp [pad]
  rw [hpad] at hW
  have hw1 : Hid (w3.rangeAt w.heap.size 1 (r8v (absorb (pad l) ((pad l).length / 64)))) := Lib.hid hW.words
  have HB3 : Hid (Below w.heap.size w w3) := Lib.hid (hJ.below (chain2 HB1.out HB2.out) (Nat.le_refl _) (Nat.le_refl _))
  clear hW hJ hpad hs1
  go_wp2_with (refine wpList_load_mid rfl 24 _ rfl w.heap.size 1 rfl (r8v (absorb (pad l) ((pad l).length / 64))) _ hw1.out Tryd.underlying24 rfl size8w ?_)
  refine (encode_dig _ (absorb_ok _ _) _).mono ?_
  rintro e w4 ⟨rfl, hb4⟩
  have HB4 := Lib.hid (chain2 HB3.out hb4)
  clear hb4
  go_wp2
  go_ret
  exact ⟨rfl, HB4.out⟩

set_option maxHeartbeats 400000 in
theorem len_any (l : List UInt8) (g : Nat) (w : World) (hH : HashAt w g l) :
    Calls Tryd.prog 11 #[.pointer (some ⟨g, 0, none⟩)] w fun e w' => e = .returned (.int .i64 (l.length : Int)) ∧ w = w' := by
  have hs := hH.size
  have HH := Lib.hid hH
  clear hH
  go_enter Tryd.func11, Tryd.ntmps11
  go_wp2_with (go_at_call 45; refine (isValid_yes _ _ HH.out.self).mono ?_; rintro e w' ⟨rfl, rfl⟩)
  go_ret
  exact ⟨rfl, rfl⟩

set_option maxHeartbeats 400000 in
theorem of_any (s : ByteArray) (w : World) (HK : HasK w) (hs : s.size ≤ 900000) :
    Calls Tryd.prog 51 #[.string s] w fun e w' => e = .returned (.string ⟨(sha s.data.toList).toArray⟩) ∧ Below w.heap.size w w' := by
  have HK0 := Lib.hid HK
  have h0 := HK.lt
  clear HK
  go_enter Tryd.func51, Tryd.ntmps51
  go_wp2_with fail
  refine (new_any _ h0).mono ?_
  rintro e w1 ⟨rfl, hN, hb1, hlt1⟩
  have HN := Lib.hid hN
  have HB1 := Lib.hid hb1
  clear hN hb1
  go_wp2_with fail
  refine (write_any s [] w.heap.size _ HN.out (HK0.out.later HB1.out) (by simp; omega)).mono ?_
  rintro e w2 ⟨rfl, hW, hJ⟩
  rw [List.nil_append] at hW
  have HW := Lib.hid hW
  have HJ := Lib.hid hJ
  have hp : 0 < w.heap.size := h0
  clear hW hJ
  go_wp2_with fail
  refine (sum_any _ w.heap.size _ HW.out ((HK0.out.later HB1.out).just HJ.out hp) (by simpa using hs)).mono ?_
  rintro e w3 ⟨rfl, hb3⟩
  have HB3 : Hid (Below w.heap.size w w3) := Lib.hid (chain2 (HJ.out.below HB1.out (Nat.le_refl _) (Nat.le_refl _)) hb3)
  clear hb3
  go_wp2
  go_ret
  exact ⟨rfl, HB3.out⟩

/-! A Hash that is none: nil, or one that New did not return. -/
def NoHash (w : World) (p : Value) : Prop := p = .pointer none ∨ ∃ g, p = .pointer (some ⟨g, 0, none⟩) ∧ w.cell? ⟨g, 0, none⟩ = some (.pointer none)

theorem isValid_none (p : Value) (w : World) (h : NoHash w p) :
    Calls Tryd.prog 45 #[p] w fun e w' => e = .returned (.bool false) ∧ w = w' := by
  rcases h with rfl | ⟨g, rfl, hc⟩
  · exact isValid_nil w
  · exact isValid_zero g w hc

set_option maxHeartbeats 400000 in
theorem write_none (p : Value) (s : ByteArray) (w : World) (h : NoHash w p) :
    Calls Tryd.prog 9 #[p, .string s] w fun e w' => e = .returned (.tuple #[]) ∧ w = w' := by
  go_enter Tryd.func9, Tryd.ntmps9
  go_wp2_with (go_at_call 45; refine (isValid_none _ _ h).mono ?_; rintro e w' ⟨rfl, rfl⟩)
  refine bodyPost_ret (results_none rfl _ _ _) rfl ⟨rfl, rfl⟩

set_option maxHeartbeats 400000 in
theorem sum_none (p : Value) (w : World) (h : NoHash w p) :
    Calls Tryd.prog 10 #[p] w fun e w' => e = .returned (.string ⟨#[]⟩) ∧ w = w' := by
  go_enter Tryd.func10, Tryd.ntmps10
  go_wp2_with (go_at_call 45; refine (isValid_none _ _ h).mono ?_; rintro e w' ⟨rfl, rfl⟩)
  go_ret
  exact ⟨rfl, rfl⟩

set_option maxHeartbeats 400000 in
theorem len_none (p : Value) (w : World) (h : NoHash w p) :
    Calls Tryd.prog 11 #[p] w fun e w' => e = .returned (.int .i64 0) ∧ w = w' := by
  go_enter Tryd.func11, Tryd.ntmps11
  go_wp2_with (go_at_call 45; refine (isValid_none _ _ h).mono ?_; rintro e w' ⟨rfl, rfl⟩)
  go_ret
  exact ⟨rfl, rfl⟩

set_option maxHeartbeats 400000 in
theorem copy_none (p : Value) (w : World) (h : NoHash w p) :
    Calls Tryd.prog 12 #[p] w fun e w' => e = .returned (.pointer none) ∧ w = w' := by
  go_enter Tryd.func12, Tryd.ntmps12
  go_wp2_with (go_at_call 45; refine (isValid_none _ _ h).mono ?_; rintro e w' ⟨rfl, rfl⟩)
  go_ret
  exact ⟨rfl, rfl⟩

end Go.Proofs.YtkplmaaeggnbgaaDoor
