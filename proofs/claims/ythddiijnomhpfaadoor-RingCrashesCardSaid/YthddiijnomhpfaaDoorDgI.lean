/- The walk of digest.combine: its contract. No condition but those that it states. -/
import Derived.Test.YthddiijnomhpfaaDoorDgF
import Derived.Test.YthddiijnomhpfaaDoorDgH
namespace Go.Proofs.YthddiijnomhpfaaDoor
open Go.RowKit
attribute [local irreducible] sched

/-- The program's table of constants lies where its variable is. -/
structure HasK (w : World) : Prop where
  lt : 0 < w.heap.size
  cells : w.rangeAt 0 0 (wv consts)

theorem HasK.later {w w' : World} (h : HasK w) (k : Below w.heap.size w w') : HasK w' :=
  ⟨Nat.lt_of_lt_of_le h.lt k.size, fun j v hv => (k.cell (p := ⟨0, 0 + j, none⟩) h.lt).trans (h.cells j v hv)⟩

def r8v (s : R8) : List Value := [.int .u32 s.a, .int .u32 s.b, .int .u32 s.c, .int .u32 s.d, .int .u32 s.e, .int .u32 s.f, .int .u32 s.g, .int .u32 s.h]

theorem r8v_one (s : R8) : ∀ u ∈ r8v s, u.oneCell' = true := by
  intro u hu
  simp [r8v] at hu
  rcases hu with rfl | rfl | rfl | rfl | rfl | rfl | rfl | rfl <;> rfl

theorem r8v_at {w : World} {b o : Nat} {s : R8} (h : w.rangeAt b o (r8v s)) : ∀ i, i < 8 → w.cell? ⟨b, o + i, none⟩ = some (.int .u32 (s.at i)) := fun i hi => by
  refine h i _ ?_
  rcases (show i = 0 ∨ i = 1 ∨ i = 2 ∨ i = 3 ∨ i = 4 ∨ i = 5 ∨ i = 6 ∨ i = 7 by omega) with rfl | rfl | rfl | rfl | rfl | rfl | rfl | rfl <;> rfl

theorem r8v_of {w : World} {b o : Nat} {s : R8} (h : ∀ i, i < 8 → w.cell? ⟨b, o + i, none⟩ = some (.int .u32 (s.at i))) : w.rangeAt b o (r8v s) := fun i v hv => by
  have hi : i < 8 := (List.getElem?_eq_some_iff.1 hv).1
  rw [h i hi, ← hv]
  rcases (show i = 0 ∨ i = 1 ∨ i = 2 ∨ i = 3 ∨ i = 4 ∨ i = 5 ∨ i = 6 ∨ i = 7 by omega) with rfl | rfl | rfl | rfl | rfl | rfl | rfl | rfl <;> rfl

theorem range_new (W : World) (l : List Value) (u : TypeId) : (W.alloc (.cells l.toArray u)).rangeAt W.heap.size 0 l := fun j v hv => by
  rw [Nat.zero_add, World.cell?_alloc_mark]; simpa using hv

theorem there_new (W : World) (Z : Array Value) (u : TypeId) : (W.alloc (.cells Z u)).there W.heap.size 0 Z.size := fun j hj => by
  rw [Nat.zero_add]
  refine ⟨?_, frozen_of_row _ _ _ Z u (heap_alloc_new W _)⟩
  rw [cell_of_row _ _ _ Z u (0, 0) (heap_alloc_new W _), Array.getElem?_eq_getElem hj]; rfl

/-- Words of which the first k are those of v, added. -/
def mix (s v : R8) (k i : Nat) : Int := if i < k then (add8 s v).at i else s.at i

structure Cm (w wr : World) (s : R8) (l : List UInt8) (g : Nat) : Prop where
  lt : w.heap.size < g
  words : wr.rangeAt g 0 (wv (sched l))
  res : wr.there (w.heap.size + 1 + 1) 0 8
  own : ∀ i, i < 8 → wr.cell? ⟨w.heap.size, i, none⟩ = some (.int .u32 (s.at i))
  free : wr.there w.heap.size 0 8
  k : HasK wr
  below : Below w.heap.size w wr

theorem Cm.of_heap {w wr w' : World} {s : R8} {l : List UInt8} {g : Nat} (h : Cm w wr s l g) (hb : Below wr.heap.size wr w') (hh : w'.heap = wr.heap) : Cm w w' s l g := by
  have hc : ∀ a, w'.cell? a = wr.cell? a := fun a => World.cell?_of_block (by rw [hh])
  have hf : ∀ a, w'.frozen? a = wr.frozen? a := fun a => World.frozen?_of_block (by rw [hh])
  refine ⟨h.lt, fun j v hv => by rw [hc]; exact h.words j v hv, fun j hj => by rw [hc, hf]; exact h.res j hj, fun i hi => by rw [hc]; exact h.own i hi, fun j hj => by rw [hc, hf]; exact h.free j hj, h.k.later hb, ?_⟩
  exact h.below.trans ⟨hb.os, hb.tape, hb.output, hb.size, fun k hk => by rw [hh]⟩

/-- A drawn region that only reads, in a world of one name. -/
theorem region_still {P : Program} {id : Nat} {Q : Exit → Act → World → Prop} {a : Act} {w : World} {l : List Oper} (hm : P.follows .mixedOrders = true) (hB : Region.lexB .any l.toArray = true)
    (w1 : World) (hw : w.drew = w1) (h : wpStill P l.toArray w1 (fun a' => Q .normal a' w1) l a) : (Code.region id l.toArray true).wp P Q a w := by
  subst hw
  exact wp_region_still_lit hm hB h

theorem spell5 (h s c k x : Int) : ((((h + s) % 4294967296 + c) % 4294967296 + k) % 4294967296 + x) % 4294967296 = (h + s + c + k + x) % 4294967296 := by omega

theorem spellA (h s c k x t : Int) : (((((h + s) % 4294967296 + c) % 4294967296 + k) % 4294967296 + x) % 4294967296 + t) % 4294967296 = ((h + s + c + k + x) % 4294967296 + t) % 4294967296 := by omega

structure Cn (w wr : World) (s v : R8) (k : Nat) : Prop where
  res : wr.there (w.heap.size + 1 + 1) 0 8
  free : wr.there w.heap.size 0 8
  own : ∀ i, i < 8 → wr.cell? ⟨w.heap.size, i, none⟩ = some (.int .u32 (mix s v k i))
  below : Below w.heap.size w wr

theorem Cn.put {w wr : World} {s v : R8} (k : Nat) (hk : k < 8) (h : Cn w wr s v k) : Cn w (wr.setCell ⟨w.heap.size, k, none⟩ (.int .u32 ((add8 s v).at k))) s v (k + 1) := by
  refine ⟨there_setCell h.res _ _, there_setCell h.free _ _, fun i hi => ?_, h.below.setCell (by simp) _⟩
  by_cases e : i = k
  · subst e
    rw [World.cell?_setCell_same _ _ _ (h.own i hi), mix, if_pos (Nat.lt_succ_self i)]
  · rw [World.cell?_setCell_other _ _ _ _ (by intro e'; simp at e'; first | done | exact e e'.symm | exact e e'), h.own i hi]
    unfold mix
    by_cases hlt : i < k
    · rw [if_pos hlt, if_pos (by omega)]
    · rw [if_neg hlt, if_neg (by omega)]

set_option maxHeartbeats 2000000 in
set_option maxRecDepth 100000 in
theorem combine_any (s : R8) (l : List UInt8) (hl : l.length = 64) (w : World) (HK : HasK w) :
    Calls Tryd.prog 36 #[.agg (r8v s).toArray, .agg (bv l).toArray] w fun e w' => e = .returned (.agg (r8v (comp s l)).toArray) ∧ Below w.heap.size w w' := by
  have hbl : (bv l).length = 64 := by simp [bv, hl]
  have HI36 : Hid ((Tryd.prog.info? 25).map (·.size) = some (bv l).length) := Lib.hid (by rw [hbl]; kernel_rfl)
  clear hbl
  go_enter Tryd.func36, Tryd.ntmps36
  go_wp2_with (refine wpList_load_mid rfl 25 _ rfl _ 0 rfl (bv l) _ ?_ Tryd.underlying25 rfl HI36.out ?_)
  · refine World.rangeAt_alloc ?_ _
    have := range_new (w.alloc (.cells (r8v s).toArray 24)) (bv l) 25
    simpa using this
  generalize hW1 : ((w.alloc (Obj.cells (r8v s).toArray 24)).alloc (Obj.cells (bv l).toArray 25)).alloc
      (Obj.cells #[Value.int IntKind.u32 0, Value.int IntKind.u32 0, Value.int IntKind.u32 0, Value.int IntKind.u32 0, Value.int IntKind.u32 0, Value.int IntKind.u32 0, Value.int IntKind.u32 0, Value.int IntKind.u32 0] 24) = W1
  have hs1 : Hid (W1.heap.size = w.heap.size + 3) := Lib.hid (by rw [← hW1]; simp)
  have hb1 : Hid (Below w.heap.size w W1) := Lib.hid (by
    rw [← hW1]; exact (((Below.refl _ _).alloc (Nat.le_refl _) _).alloc (by simp) _).alloc (by simp; omega) _)
  have ho1 : Hid (W1.rangeAt w.heap.size 0 (r8v s)) := Lib.hid (by
    rw [← hW1]; exact World.rangeAt_alloc (World.rangeAt_alloc (range_new w _ _) _) _)
  have hf1 : Hid (W1.there w.heap.size 0 8) := Lib.hid (by
    rw [← hW1]; exact World.there_alloc (World.there_alloc (there_new w (r8v s).toArray _) _) _)
  have hr1 : Hid (W1.there (w.heap.size + 1 + 1) 0 8) := Lib.hid (by
    rw [← hW1]
    have := there_new ((w.alloc (Obj.cells (r8v s).toArray 24)).alloc (Obj.cells (bv l).toArray 25)) #[Value.int IntKind.u32 0, Value.int IntKind.u32 0, Value.int IntKind.u32 0, Value.int IntKind.u32 0, Value.int IntKind.u32 0, Value.int IntKind.u32 0, Value.int IntKind.u32 0, Value.int IntKind.u32 0] 24
    simpa using this)
  clear hW1
  refine (expand_any l hl _).mono ?_
  rintro e w2 ⟨rfl, hb2⟩
  have HB2 := Lib.hid hb2
  have hs2 := hb2.size
  have hn := hs1.out
  have HN := Lib.hid hn
  have hgt : w.heap.size < w2.heap.size := by omega
  clear hb2 hn hs2
  have hwl : (wv (sched l)).length = 64 := by
    have : (sched l).length = 64 := by rw [← sched_eq, ext_length, first16_length]
    simp [wv, this]
  have HI60 : Hid ((Tryd.prog.info? 105).map (·.size) = some (wv (sched l)).toArray.size) := Lib.hid (by rw [List.size_toArray, hwl]; exact size64)
  have HONE : Hid ((wv (sched l)).toArray.all (·.oneCell') = true) := Lib.hid (all_oneCell_toArray (wv_one _))
  have HTH : Hid (∀ (W : World) (Z : Array Value) (u : TypeId), Z.size = 64 → (W.alloc (.cells Z u)).there W.heap.size 0 (wv (sched l)).toArray.size) := Lib.hid (fun W Z u hZ => by
    have h := there_new W Z u
    rw [hZ] at h
    have e : (wv (sched l)).toArray.size = 64 := by simp [hwl]
    rw [e]; exact h)
  have HWL := Lib.hid hwl
  clear hwl
  go_wp2_with (refine wpList_store_mid rfl 105 _ _ rfl w2.heap.size 0 (wv (sched l)).toArray rfl rfl (HTH.out _ _ _ rfl) HI60.out HONE.out ?_)
  generalize hW3 : World.setCells (World.alloc w2 (Obj.cells _ _)) _ _ _ = W3
  have hC : Hid (Cm w W3 s l w2.heap.size) := Lib.hid (by
    have hlw := HN.out
    have hbA : Below w2.heap.size w2 W3 := by
      rw [← hW3]; exact below_setCells (Below.refl _ w2) _ (Nat.le_refl _) _ _ _ ((Below.refl _ _).alloc (Nat.le_refl _) _)
    have hbB : Below W1.heap.size W1 W3 := HB2.out.trans (hbA.mono HB2.out.size)
    have hbC : Below w.heap.size w W3 := hb1.out.trans (hbB.mono hb1.out.size)
    refine ⟨hgt, ?_, ?_, ?_, ?_, HK.later hbC, hbC⟩
    · rw [← hW3]
      refine World.rangeAt_setCells_same _ _ _ _ ?_
      rw [HWL.out]
      exact there_new w2 _ 105
    · exact (fun j hj => by rw [hbB.cell (p := ⟨_, _, none⟩) (by simp; omega), hbB.frozen (p := ⟨_, _, none⟩) (by simp; omega)]; exact hr1.out j hj)
    · intro i hi
      rw [hbB.cell (p := ⟨_, _, none⟩) (by simp; omega)]
      have := r8v_at ho1.out i hi
      rwa [Nat.zero_add] at this
    · exact (fun j hj => by rw [hbB.cell (p := ⟨_, _, none⟩) (by simp; omega), hbB.frozen (p := ⟨_, _, none⟩) (by simp; omega)]; exact hf1.out j hj))
  clear hW3 HB2 hb1 ho1 hf1 hr1 hs1 HTH HN HI60 HONE
  have c0 := hC.out.own 0 (by decide)
  have c1 := hC.out.own 1 (by decide)
  have c2 := hC.out.own 2 (by decide)
  have c3 := hC.out.own 3 (by decide)
  have c4 := hC.out.own 4 (by decide)
  have c5 := hC.out.own 5 (by decide)
  have c6 := hC.out.own 6 (by decide)
  have c7 := hC.out.own 7 (by decide)
  simp only [R8.at] at c0 c1 c2 c3 c4 c5 c6 c7
  obtain ⟨W4, hw4, hcell, -, hheap, hbel⟩ := drawn_world W3
  have hC4 : Hid (Cm w W4 s l w2.heap.size) := Lib.hid (hC.out.of_heap hbel.out hheap.out)
  have d0 := (hcell _).trans c0
  have d1 := (hcell _).trans c1
  have d2 := (hcell _).trans c2
  have d3 := (hcell _).trans c3
  have d4 := (hcell _).trans c4
  have d5 := (hcell _).trans c5
  have d6 := (hcell _).trans c6
  have d7 := (hcell _).trans c7
  clear hcell hC c0 c1 c2 c3 c4 c5 c6 c7
  refine region_still (by kernel_rfl) (by kernel_rfl) W4 hw4.out ?_
  repeat still_step
  refine wpStill_nil ?_
  clear d0 d1 d2 d3 d4 d5 d6 d7 hw4 hheap hbel
  go_wp2
  go_loopw [6, 7, 8, 9, 10, 11, 12, 13, 39] (fun va vb vc vd ve vf vg vh vi wr => ∃ (k : Nat) (r : R8), k ≤ 64 ∧ vi = .int .i64 k ∧ va = .int .u32 r.a ∧ vb = .int .u32 r.b ∧ vc = .int .u32 r.c ∧ vd = .int .u32 r.d ∧ ve = .int .u32 r.e ∧ vf = .int .u32 r.f ∧ vg = .int .u32 r.g ∧ vh = .int .u32 r.h ∧ Hid (r = rounds consts (sched l) k s) ∧ Hid (Cm w wr s l w2.heap.size)) (fun _ _ _ _ _ _ _ _ vi _ => 64 - (intOf vi).toNat)
  case atStart => exact ⟨0, s, Nat.zero_le _, rfl, rfl, rfl, rfl, rfl, rfl, rfl, rfl, rfl, Lib.hid rfl, hC4⟩
  case round =>
    clear hC4
    obtain ⟨k, r, hk, rfl, rfl, rfl, rfl, rfl, rfl, rfl, rfl, rfl, hr, hC⟩ := hrel
    by_cases hlt : k < 64
    · have ck : wr.cell? ⟨0, k, none⟩ = some (.int .u32 (consts.getD k 0)) := by
        have := hC.out.k.cells k _ (wv_get consts k hlt)
        rwa [Nat.zero_add] at this
      have cw : wr.cell? ⟨w2.heap.size, k, none⟩ = some (.int .u32 ((sched l).getD k 0)) := by
        have hl : (sched l).length = 64 := by have := HWL.out; simpa [wv] using this
        have := hC.out.words k _ (wv_get (sched l) k (by omega))
        rwa [Nat.zero_add] at this
      obtain ⟨xk, ek⟩ : ∃ x, x = consts.getD k 0 := ⟨_, rfl⟩
      obtain ⟨xw, ew⟩ : ∃ x, x = (sched l).getD k 0 := ⟨_, rfl⟩
      rw [← ek] at ck
      rw [← ew] at cw
      have HR : Hid (stepR r xk xw = rounds consts (sched l) (k + 1) s) := Lib.hid (by rw [hr.out, ek, ew]; rfl)
      clear ek ew
      have z0 : (0 : Int) ≤ (k : Int) := by omega
      have z1 : (k : Int) < 64 := by omega
      go_wp2_with (go_at_call 62; refine (rotr_any _ _ _ (by decide) (by decide)).mono ?_; rintro e w' ⟨rfl, rfl⟩)
      rw [show bits BinOp.xor IntKind.u32 (bits BinOp.xor IntKind.u32 (rot r.e 6) (rot r.e 11)) (rot r.e 25) = sig1 r.e from rfl]
      obtain ⟨W5, hw5, hcell, -, hheap, hbel⟩ := drawn_world wr
      have hC5 : Hid (Cm w W5 s l w2.heap.size) := Lib.hid (hC.out.of_heap hbel.out hheap.out)
      have dk := (hcell _).trans ck
      have dw := (hcell _).trans cw
      clear hcell hC ck cw
      refine region_still (by kernel_rfl) (by kernel_rfl) W5 hw5.out ?_
      repeat still_step
      refine wpStill_nil ?_
      clear hw5 hheap hbel dk dw
      go_wp2_with (go_at_call 62; refine (rotr_any _ _ _ (by decide) (by decide)).mono ?_; rintro e w' ⟨rfl, rfl⟩)
      go_roundw
      case rel => exact ⟨k + 1, stepR r xk xw, by omega, by go_num, by rw [spellA]; rfl, rfl, rfl, rfl, by rw [spell5]; rfl, rfl, rfl, rfl, HR, hC5⟩
      case measure => simp [intOf]; omega
    · obtain rfl : k = 64 := by omega
      clear hlt hk
      have hD : Hid (Cn w wr s r 0) := Lib.hid ⟨hC.out.res, hC.out.free, fun i hi => by rw [hC.out.own i hi]; rfl, hC.out.below⟩
      have HCM : Hid (add8 s r = comp s l) := Lib.hid (by rw [hr.out]; rfl)
      clear hC hr
      obtain ⟨wo, rfl⟩ : ∃ wo : World, wo = wr := ⟨_, rfl⟩
      have i0 : ∀ W, (Instr.index 24 (.agg #[.int .u32 r.a, .int .u32 r.b, .int .u32 r.c, .int .u32 r.d, .int .u32 r.e, .int .u32 r.f, .int .u32 r.g, .int .u32 r.h]) (.int .i64 0)).run Tryd.prog W = .ok (.int .u32 r.a) W := fun _ => by kernel_rfl
      have i1 : ∀ W, (Instr.index 24 (.agg #[.int .u32 r.a, .int .u32 r.b, .int .u32 r.c, .int .u32 r.d, .int .u32 r.e, .int .u32 r.f, .int .u32 r.g, .int .u32 r.h]) (.int .i64 1)).run Tryd.prog W = .ok (.int .u32 r.b) W := fun _ => by kernel_rfl
      have i2 : ∀ W, (Instr.index 24 (.agg #[.int .u32 r.a, .int .u32 r.b, .int .u32 r.c, .int .u32 r.d, .int .u32 r.e, .int .u32 r.f, .int .u32 r.g, .int .u32 r.h]) (.int .i64 2)).run Tryd.prog W = .ok (.int .u32 r.c) W := fun _ => by kernel_rfl
      have i3 : ∀ W, (Instr.index 24 (.agg #[.int .u32 r.a, .int .u32 r.b, .int .u32 r.c, .int .u32 r.d, .int .u32 r.e, .int .u32 r.f, .int .u32 r.g, .int .u32 r.h]) (.int .i64 3)).run Tryd.prog W = .ok (.int .u32 r.d) W := fun _ => by kernel_rfl
      have i4 : ∀ W, (Instr.index 24 (.agg #[.int .u32 r.a, .int .u32 r.b, .int .u32 r.c, .int .u32 r.d, .int .u32 r.e, .int .u32 r.f, .int .u32 r.g, .int .u32 r.h]) (.int .i64 4)).run Tryd.prog W = .ok (.int .u32 r.e) W := fun _ => by kernel_rfl
      have i5 : ∀ W, (Instr.index 24 (.agg #[.int .u32 r.a, .int .u32 r.b, .int .u32 r.c, .int .u32 r.d, .int .u32 r.e, .int .u32 r.f, .int .u32 r.g, .int .u32 r.h]) (.int .i64 5)).run Tryd.prog W = .ok (.int .u32 r.f) W := fun _ => by kernel_rfl
      have i6 : ∀ W, (Instr.index 24 (.agg #[.int .u32 r.a, .int .u32 r.b, .int .u32 r.c, .int .u32 r.d, .int .u32 r.e, .int .u32 r.f, .int .u32 r.g, .int .u32 r.h]) (.int .i64 6)).run Tryd.prog W = .ok (.int .u32 r.g) W := fun _ => by kernel_rfl
      have i7 : ∀ W, (Instr.index 24 (.agg #[.int .u32 r.a, .int .u32 r.b, .int .u32 r.c, .int .u32 r.d, .int .u32 r.e, .int .u32 r.f, .int .u32 r.g, .int .u32 r.h]) (.int .i64 7)).run Tryd.prog W = .ok (.int .u32 r.h) W := fun _ => by kernel_rfl
      go_wp2
      go_loopw [113] (fun vi wr => ∃ k : Nat, k ≤ 8 ∧ vi = .int .i64 k ∧ Hid (Cn w wr s r k)) (fun vi _ => 8 - (intOf vi).toNat)
      case atStart => exact ⟨0, Nat.zero_le _, rfl, hD⟩
      case round =>
        clear hD
        obtain ⟨k, hk, rfl, hD⟩ := hrel
        rcases (show k = 0 ∨ k = 1 ∨ k = 2 ∨ k = 3 ∨ k = 4 ∨ k = 5 ∨ k = 6 ∨ k = 7 ∨ k = 8 by omega) with rfl | rfl | rfl | rfl | rfl | rfl | rfl | rfl | rfl
        · have co : wr.cell? ⟨w.heap.size, 0, none⟩ = some (.int .u32 s.a) := hD.out.own 0 (by decide)
          have fo : wr.frozen? ⟨w.heap.size, 0, none⟩ = false := (hD.out.free 0 (by decide)).2
          go_wp2
          go_roundw
          case rel => exact ⟨1, by omega, rfl, Lib.hid (Cn.put 0 (by decide) hD.out)⟩
          case measure => simp [intOf]
        · have co : wr.cell? ⟨w.heap.size, 1, none⟩ = some (.int .u32 s.b) := hD.out.own 1 (by decide)
          have fo : wr.frozen? ⟨w.heap.size, 1, none⟩ = false := (hD.out.free 1 (by decide)).2
          go_wp2
          go_roundw
          case rel => exact ⟨2, by omega, rfl, Lib.hid (Cn.put 1 (by decide) hD.out)⟩
          case measure => simp [intOf]
        · have co : wr.cell? ⟨w.heap.size, 2, none⟩ = some (.int .u32 s.c) := hD.out.own 2 (by decide)
          have fo : wr.frozen? ⟨w.heap.size, 2, none⟩ = false := (hD.out.free 2 (by decide)).2
          go_wp2
          go_roundw
          case rel => exact ⟨3, by omega, rfl, Lib.hid (Cn.put 2 (by decide) hD.out)⟩
          case measure => simp [intOf]
        · have co : wr.cell? ⟨w.heap.size, 3, none⟩ = some (.int .u32 s.d) := hD.out.own 3 (by decide)
          have fo : wr.frozen? ⟨w.heap.size, 3, none⟩ = false := (hD.out.free 3 (by decide)).2
          go_wp2
          go_roundw
          case rel => exact ⟨4, by omega, rfl, Lib.hid (Cn.put 3 (by decide) hD.out)⟩
          case measure => simp [intOf]
        · have co : wr.cell? ⟨w.heap.size, 4, none⟩ = some (.int .u32 s.e) := hD.out.own 4 (by decide)
          have fo : wr.frozen? ⟨w.heap.size, 4, none⟩ = false := (hD.out.free 4 (by decide)).2
          go_wp2
          go_roundw
          case rel => exact ⟨5, by omega, rfl, Lib.hid (Cn.put 4 (by decide) hD.out)⟩
          case measure => simp [intOf]
        · have co : wr.cell? ⟨w.heap.size, 5, none⟩ = some (.int .u32 s.f) := hD.out.own 5 (by decide)
          have fo : wr.frozen? ⟨w.heap.size, 5, none⟩ = false := (hD.out.free 5 (by decide)).2
          go_wp2
          go_roundw
          case rel => exact ⟨6, by omega, rfl, Lib.hid (Cn.put 5 (by decide) hD.out)⟩
          case measure => simp [intOf]
        · have co : wr.cell? ⟨w.heap.size, 6, none⟩ = some (.int .u32 s.g) := hD.out.own 6 (by decide)
          have fo : wr.frozen? ⟨w.heap.size, 6, none⟩ = false := (hD.out.free 6 (by decide)).2
          go_wp2
          go_roundw
          case rel => exact ⟨7, by omega, rfl, Lib.hid (Cn.put 6 (by decide) hD.out)⟩
          case measure => simp [intOf]
        · have co : wr.cell? ⟨w.heap.size, 7, none⟩ = some (.int .u32 s.h) := hD.out.own 7 (by decide)
          have fo : wr.frozen? ⟨w.heap.size, 7, none⟩ = false := (hD.out.free 7 (by decide)).2
          go_wp2
          go_roundw
          case rel => exact ⟨8, by omega, rfl, Lib.hid (Cn.put 7 (by decide) hD.out)⟩
          case measure => simp [intOf]
        · have hown : wr.rangeAt w.heap.size 0 (r8v (add8 s r)) := r8v_of (fun i hi => by rw [Nat.zero_add, hD.out.own i hi, mix, if_pos hi])
          have HO := Lib.hid hown
          have hres : wr.there (w.heap.size + 1 + 1) 0 (r8v (add8 s r)).toArray.size := hD.out.res
          have HT := Lib.hid hres
          have HONE : Hid ((r8v (add8 s r)).toArray.all (·.oneCell') = true) := Lib.hid (all_oneCell_toArray (r8v_one _))
          have HI1 : Hid ((Tryd.prog.info? 24).map (·.size) = some (r8v (add8 s r)).length) := Lib.hid (by kernel_rfl)
          clear hown hres i0 i1 i2 i3 i4 i5 i6 i7
          go_wp2_with (first
            | (refine wpList_load_mid rfl 24 _ rfl w.heap.size 0 rfl (r8v (add8 s r)) _ HO.out Tryd.underlying24 rfl HI1.out ?_)
            | (refine wpList_store_mid rfl 24 _ _ rfl (w.heap.size + 1 + 1) 0 (r8v (add8 s r)).toArray rfl rfl HT.out HI1.out HONE.out ?_))
          have hR : (wr.setCells (w.heap.size + 1 + 1) 0 (r8v (add8 s r))).rangeAt (w.heap.size + 1 + 1) 0 (r8v (add8 s r)) := World.rangeAt_setCells_same _ _ _ _ HT.out
          refine bodyPost_ret (v := .agg (r8v (add8 s r)).toArray) ?_ rfl ⟨by rw [HCM.out], ?_⟩
          · refine results_cell_mid (ty := 24) (p := 4) (b := w.heap.size + 1 + 1) (o := 0) (cs := r8v (add8 s r)) (d := .array 8 23) Tryd.results36 _ _ ?_ hR Tryd.underlying24 rfl HI1.out
            rfl
          · exact below_setCells hD.out.below _ (by omega) _ _ _ hD.out.below

end Go.Proofs.YthddiijnomhpfaaDoor
