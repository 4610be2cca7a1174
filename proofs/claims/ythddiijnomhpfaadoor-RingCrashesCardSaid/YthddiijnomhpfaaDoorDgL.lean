/- The walk of Write: its contract. No condition but those that it states. -/
import Derived.Test.YthddiijnomhpfaaDoorDgK
import Derived.Lib.SlBuf
import Derived.Deep.RegionHeld3
import Derived.Deep.DrawnRows
namespace Go.Proofs.YthddiijnomhpfaaDoor
open Go.RowKit
attribute [local go_sem ↓] Go.wp_at_zero Go.wp_at_succ

theorem held_true {P : Program} {md : Region.Mode} {ops : Array Oper} {Q : Exit → Act → World → Prop} : ∀ (fuel : Nat) (listed : Array Bool) (a : Act) (w : World), wpAny P md ops Q fuel listed a w → wpAnyH P md ops Q (fun _ => True) fuel listed a w
  | 0, _, _, _, h => h
  | fuel + 1, _, _, _, h => ⟨h.1, fun i hi => wpOp_mono (fun a' w' h' => ⟨trivial, held_true fuel _ a' w' h'⟩) (h.2 i hi)⟩

/-- What is left of a drawn region comes up one behind the other. -/
theorem held_rest {P : Program} {md : Region.Mode} {ops : Array Oper} {Q : Exit → Act → World → Prop} (n fuel : Nat) {listed : Array Bool} {a : Act} {w : World} (hn : (ops.toList.drop n).length = fuel)
    (hq : Region.seqB md ops (ops.toList.drop n).length n listed = true) (h : wpList P ops Q (ops.toList.drop n) a w) : wpAnyH P md ops Q (fun _ => True) fuel listed a w := by
  subst hn
  exact held_true _ _ _ _ (wpAny_of_seq (ops.toList.drop n) n _ _ _ (fun j => by simp [List.getElem?_drop]) hq h)

theorem run_slice_from {P : Program} (w : World) (t e : TypeId) (n : Nat) (hu : P.underlying t = some (.array n e)) (hs : (P.info? e).map (·.size) = some 1) (b o l : Nat) (hl : l < n) :
    (Instr.sliceAt t (.pointer (some ⟨b, o, none⟩)) (some (.int .i64 (l : Int))) none none).run P w = .ok (.slice (some ⟨b, o + l, none⟩) (n - l) (n - l)) w := by
  have hz : (sizeOf e).run P w = .ok 1 w := by
    cases hq : P.info? e with
    | none => simp [hq] at hs
    | some i => simp [hq] at hs; simp [sizeOf, typeInfo, hq, hs]
  have hne : ¬ n = l := by omega
  have e3 : ∀ code w', (Instr.sliceBound (.int .i64 l) n code).run P w' = .ok l w' := fun code w' =>
    (run_sliceBound w' .i64 _ _ code (by omega) (by omega)).trans (by simp)
  simp [Instr.sliceAt, Instr.sureAddr, run_underlying hu, Instr.sliceBounds, hz, hne, Addr.add_mid, e3]

theorem run_copy_string {P : Program} (w : World) (dT sT ty elem : TypeId) (b o dLen dCap n : Nat) (r : ByteArray)
    (hu : P.underlying dT = some (.slice elem)) (hs : (P.info? elem).map (·.size) = some 1) (hn : n = Nat.min r.size dLen)
    (ht : w.there b o n) :
    (Builtin.copy_ #[dT, sT] ty #[.slice (some ⟨b, o, none⟩) dLen dCap, .string r]).run P w = .ok (goInt n) (w.setCells b o (bv (r.data.toList.take n))) := by
  have hl : (bv (r.data.toList.take n)).length = n := by
    have : r.data.toList.length = r.size := by simp
    have : n ≤ r.size := by rw [hn]; exact Nat.min_le_left _ _
    simp [bv]; omega
  have hst := run_storeCells_cells (P := P) b o (bv (r.data.toList.take n)) 0 w (fun j hj => by rw [hl] at hj; have := (ht j hj).1; simpa using this) (fun j hj => by rw [hl] at hj; have := (ht j hj).2; simpa using this) (bv_one _)
  have hcells : ((r.extract 0 n).data.map fun b => Value.int .u8 b.toNat).toList = bv (r.data.toList.take n) := by
    simp [bv, ByteArray.data_extract]
  cases hq : P.info? elem with
  | none => simp [hq] at hs
  | some i =>
    have hi : i.size = 1 := by simpa [hq] using hs
    simp [Builtin.copy_, run_underlying hu, Builtin.lenOf, Builtin.firstCells, sizeOf, typeInfo, hq, ← hn]
    have h3 : List.take n (List.map (fun b => Value.int .u8 b.toNat) r.data.toList) = bv (r.data.toList.take n) := by simp [bv, List.map_take]
    rw [h3, hst]
    simp

/-- Parts of a range. -/
theorem rangeAt_left {w : World} {b o : Nat} {xs ys : List Value} (h : w.rangeAt b o (xs ++ ys)) : w.rangeAt b o xs := fun j v hv => by
  have hj : j < xs.length := (List.getElem?_eq_some_iff.1 hv).1
  exact h j v (by rw [List.getElem?_append_left hj]; exact hv)
theorem rangeAt_right {w : World} {b o n : Nat} {xs ys : List Value} (h : w.rangeAt b o (xs ++ ys)) (hn : n = xs.length) : w.rangeAt b (o + n) ys := fun j v hv => by
  subst hn
  have := h (xs.length + j) v (by rw [List.getElem?_append_right (by omega)]; simpa using hv)
  rwa [← Nat.add_assoc] at this

/-- What lies in the room behind a copy. -/
def laidIn (L x : List UInt8) (q : Nat) : List UInt8 := L.take q ++ (x ++ L.drop (q + x.length))

theorem laidIn_length (L x : List UInt8) (q : Nat) (h : q + x.length ≤ L.length) : (laidIn L x q).length = L.length := by simp [laidIn]; omega

theorem rangeAt_laidIn {w : World} {g o : Nat} {L x : List UInt8} {q : Nat} (h : w.rangeAt g o (bv L)) (hq : q + x.length ≤ L.length) (ht : w.there g (o + q) x.length) :
    (w.setCells g (o + q) (bv x)).rangeAt g o (bv (laidIn L x q)) := by
  have hL : L = L.take q ++ (L.drop q).take x.length ++ L.drop (q + x.length) := by
    rw [List.append_assoc, ← List.drop_drop, List.take_append_drop, List.take_append_drop]
  have hx : (bv x).length = x.length := by simp [bv]
  have h1 : (bv (L.take q)).length = q := by simp [bv]; omega
  have h2 : (bv ((L.drop q).take x.length)).length = x.length := by simp [bv]; omega
  rw [hL, bv_append, bv_append] at h
  have ha := rangeAt_left (rangeAt_left h)
  have hc := rangeAt_right (n := q + x.length) h (by simp [h1, h2])
  unfold laidIn
  rw [bv_append, bv_append]
  refine rangeAt_add (World.rangeAt_setCells_apart ha g (o + q) (bv x) (Or.inr (Or.inl (by rw [h1]; omega)))) ?_
  rw [h1]
  refine rangeAt_add (World.rangeAt_setCells_same _ _ _ _ (by rw [hx]; exact ht)) ?_
  rw [hx]
  have := World.rangeAt_setCells_apart hc g (o + q) (bv x) (Or.inr (Or.inr (by rw [hx]; omega)))
  rwa [show o + (q + x.length) = o + q + x.length by omega] at this

/-! The plain facts of a part that is taken. -/
theorem absorb_more (m x : List UInt8) : absorb (m ++ x) (m.length / 64) = absorb m (m.length / 64) := absorb_prefix m x _ (by omega)

theorem last_more {L m x : List UInt8} (_hL : L.length = 64) (hl : L.take (m.length % 64) = m.drop (64 * (m.length / 64))) (_hx : m.length % 64 + x.length ≤ 64) :
    (laidIn L x (m.length % 64)).take (m.length % 64 + x.length) = (m ++ x).drop (64 * (m.length / 64)) := by
  unfold laidIn
  rw [hl, List.drop_append_of_le_length (by omega), ← List.append_assoc]
  have h : (m.drop (64 * (m.length / 64)) ++ x).length = m.length % 64 + x.length := by simp; omega
  rw [← h, List.take_left]

theorem block_full {L m x : List UInt8} (hL : L.length = 64) (hl : L.take (m.length % 64) = m.drop (64 * (m.length / 64))) (hx : m.length % 64 + x.length = 64) :
    laidIn L x (m.length % 64) = blockOf (m ++ x) (m.length / 64) := by
  have h := last_more hL hl (Nat.le_of_eq hx)
  have hlen := laidIn_length L x (m.length % 64) (by omega)
  rw [hx, List.take_of_length_le (by omega)] at h
  unfold blockOf
  rw [← h, List.take_of_length_le (by omega)]

/-- A Hash into whose room a part was copied. -/
structure MidAt (w : World) (g : Nat) (m x : List UInt8) : Prop where
  pos : 0 < g
  lt : g < w.heap.size
  room : w.there g 0 74
  self : w.cell? ⟨g, 0, none⟩ = some (.pointer (some ⟨g, 0, none⟩))
  words : w.rangeAt g 1 (r8v (absorb m (m.length / 64)))
  last : ∃ L : List UInt8, L.length = 64 ∧ w.rangeAt g 9 (bv (laidIn L x (m.length % 64))) ∧ L.take (m.length % 64) = m.drop (64 * (m.length / 64))

theorem size_setCells (g : Nat) : ∀ (vs : List Value) (o : Nat) (w : World), w.heap.size ≤ (w.setCells g o vs).heap.size := fun vs o w => (below_setCells (Below.refl 0 w) g (Nat.zero_le _) vs o w (Below.refl 0 w)).size

theorem HashAt.mid {w : World} {g : Nat} {m x : List UInt8} (h : HashAt w g m) (hx : m.length % 64 + x.length ≤ 64) : MidAt (w.setCells g (9 + m.length % 64) (bv x)) g m x := by
  obtain ⟨L, h1, h2, h3⟩ := h.last
  have hb : (bv x).length = x.length := by simp [bv]
  refine ⟨h.pos, Nat.lt_of_lt_of_le h.lt (size_setCells _ _ _ _), World.there_setCells h.room _ _ _, ?_, ?_, L, h1, ?_, h3⟩
  · rw [World.cell?_setCells_out _ _ _ _ _ (fun _ _ => Or.inl (by simp <;> omega))]; exact h.self
  · exact World.rangeAt_setCells_apart h.words _ _ _ (Or.inr (Or.inl (by simp [r8v])))
  · exact rangeAt_laidIn h2 (by omega) (fun j hj => by
      have := h.room (9 + m.length % 64 + j) (by omega)
      rwa [Nat.zero_add] at this)

theorem rangeAt_setCell {w : World} {g o : Nat} {cs : List Value} (h : w.rangeAt g o cs) (i : Nat) (v : Value) (hi : i < o ∨ o + cs.length ≤ i) : (w.setCell ⟨g, i, none⟩ v).rangeAt g o cs := fun j u hu => by
  have hj : j < cs.length := (List.getElem?_eq_some_iff.1 hu).1
  rw [World.cell?_setCell_other _ _ _ _ (by intro e; simp at e <;> omega)]
  exact h j u hu

/-- Not full: what was copied belongs to the text. -/
theorem MidAt.part {w : World} {g : Nat} {m x : List UInt8} (h : MidAt w g m x) (hx : m.length % 64 + x.length < 64) (u : Value) (hu : w.cell? ⟨g, 73, none⟩ = some u) (n : Int) (hn : n = (((m ++ x).length : Nat) : Int)) :
    HashAt (w.setCell ⟨g, 73, none⟩ (.int .i64 n)) g (m ++ x) := by
  subst hn
  obtain ⟨L, h1, h2, h3⟩ := h.last
  have e1 : (m ++ x).length / 64 = m.length / 64 := by rw [List.length_append]; omega
  have e2 : (m ++ x).length % 64 = m.length % 64 + x.length := by rw [List.length_append]; omega
  have hl : (laidIn L x (m.length % 64)).length = 64 := by rw [laidIn_length _ _ _ (by omega), h1]
  refine ⟨h.pos, by simpa using h.lt, there_setCell h.room _ _, ?_, ?_, ⟨laidIn L x (m.length % 64), hl, ?_, ?_⟩, World.cell?_setCell_same _ _ _ hu⟩
  · rw [World.cell?_setCell_other _ _ _ _ (by intro e; simp at e)]; exact h.self
  · rw [e1, absorb_more]; exact rangeAt_setCell h.words 73 _ (Or.inr (by simp [r8v]))
  · exact rangeAt_setCell h2 73 _ (Or.inr (by simp [bv, hl]))
  · rw [e1, e2]; exact last_more h1 h3 (Nat.le_of_lt hx)

structure FullAt (w : World) (g : Nat) (m x : List UInt8) : Prop where
  room : w.there g 0 74
  self : w.cell? ⟨g, 0, none⟩ = some (.pointer (some ⟨g, 0, none⟩))
  words : w.rangeAt g 1 (r8v (absorb m (m.length / 64)))
  last : w.rangeAt g 9 (bv (blockOf (m ++ x) (m.length / 64)))
  blk : (blockOf (m ++ x) (m.length / 64)).length = 64

theorem MidAt.full {w : World} {g : Nat} {m x : List UInt8} (h : MidAt w g m x) (hx : m.length % 64 + x.length = 64) : FullAt w g m x := by
  obtain ⟨L, h1, h2, h3⟩ := h.last
  rw [block_full h1 h3 hx] at h2
  exact ⟨h.room, h.self, h.words, h2, blockOf_length _ _ (by rw [List.length_append]; omega)⟩

theorem rest_is {m x l s : List UInt8} {r : ByteArray} {n : Nat} (hx : x = r.data.toList.take n) (h : m ++ r.data.toList = l ++ s) : (m ++ x) ++ (r.extract n r.size).data.toList = l ++ s := by
  rw [← h, hx, List.append_assoc]
  congr 1
  have : (r.extract n r.size).data.toList = r.data.toList.drop n := by
    have e : r.size = r.data.toList.length := by simp
    simp [ByteArray.data_extract, List.take_of_length_le]
  rw [this, List.take_append_drop]

theorem rest_size {m x : List UInt8} {r : ByteArray} {n : Nat} (h : m.length + r.size ≤ 1000000) (hx : x.length = n) (hn : n ≤ r.size) : (m ++ x).length + (r.extract n r.size).size ≤ 1000000 := by
  simp [ByteArray.size_extract]; omega

theorem size8w : (Tryd.prog.info? 24).map (·.size) = some 8 := by kernel_rfl
theorem size64b : (Tryd.prog.info? 25).map (·.size) = some 64 := by kernel_rfl

theorem chain2 {w w1 w2 : World} (h : Below w.heap.size w w1) (k : Below w1.heap.size w1 w2) : Below w.heap.size w w2 := h.trans (k.mono h.size)

theorem hash_full {W3 w2 : World} {g : Nat} {m x B : List UInt8} {C : R8} (hpos : 0 < g) (hlt : g < W3.heap.size) (hroom : W3.there g 0 74) (hself : W3.cell? ⟨g, 0, none⟩ = some (.pointer (some ⟨g, 0, none⟩)))
    (hsize : W3.cell? ⟨g, 73, none⟩ = some (.int .i64 (((m ++ x).length : Nat) : Int))) (hlast : W3.rangeAt g 9 (bv B)) (hB : B.length = 64) (hb : Below W3.heap.size W3 w2)
    (hC : C = comp (absorb m (m.length / 64)) (blockOf (m ++ x) (m.length / 64))) (hfull : m.length % 64 + x.length = 64) : HashAt (w2.setCells g 1 (r8v C)) g (m ++ x) := by
  have hc : ∀ o, w2.cell? ⟨g, o, none⟩ = W3.cell? ⟨g, o, none⟩ := fun o => hb.cell (p := ⟨g, o, none⟩) hlt
  have hf : ∀ o, w2.frozen? ⟨g, o, none⟩ = W3.frozen? ⟨g, o, none⟩ := fun o => hb.frozen (p := ⟨g, o, none⟩) hlt
  have hr : w2.there g 0 74 := fun j hj => by rw [hc, hf]; exact hroom j hj
  have e1 : (m ++ x).length / 64 = m.length / 64 + 1 := by rw [List.length_append]; omega
  have e2 : (m ++ x).length % 64 = 0 := by rw [List.length_append]; omega
  have h8 : (r8v C).length = 8 := rfl
  refine ⟨hpos, Nat.lt_of_lt_of_le hlt (Nat.le_trans hb.size (size_setCells _ _ _ _)), World.there_setCells hr _ _ _, ?_, ?_, ⟨B, hB, ?_, ?_⟩, ?_⟩
  · rw [World.cell?_setCells_out _ _ _ _ _ (fun _ _ => Or.inl (by simp)), hc]; exact hself
  · rw [e1, absorb, absorb_more, ← hC]
    exact World.rangeAt_setCells_same _ _ _ _ (fun j hj => by
      rw [h8] at hj
      have := hr (1 + j) (by omega)
      rwa [Nat.zero_add] at this)
  · exact World.rangeAt_setCells_apart (fun j v hv => by rw [hc]; exact hlast j v hv) g 1 (r8v C) (Or.inr (Or.inr (by rw [h8]; omega)))
  · rw [e2, List.take_zero, List.drop_eq_nil_of_le (by rw [e1, List.length_append]; omega)]
  · rw [World.cell?_setCells_out _ _ _ _ _ (fun _ _ => Or.inr (by rw [h8]; simp)), hc]; exact hsize

theorem combine_lit (S C : R8) (l : List UInt8) (hC : C = comp S l) (hl : l.length = 64) (w : World) (HK : HasK w) :
    Calls Tryd.prog 36 #[.agg (r8v S).toArray, .agg (bv l).toArray] w fun e w' => e = .returned (.agg (r8v C).toArray) ∧ Below w.heap.size w w' := by
  subst hC
  exact combine_any S l hl w HK

def strSize (v : Value) : Nat := match v with | .string r => r.size | _ => 0

set_option maxHeartbeats 400000 in
set_option maxRecDepth 100000 in
theorem write_any (s : ByteArray) (l : List UInt8) (g : Nat) (w : World) (hH : HashAt w g l) (HK : HasK w) (hb : l.length + s.size ≤ 1000000) :
    Calls Tryd.prog 6 #[.pointer (some ⟨g, 0, none⟩), .string s] w fun e w' => e = .returned (.tuple #[]) ∧ HashAt w' g (l ++ s.data.toList) ∧ Just g w w' := by
  have HH := Lib.hid hH
  clear hH
  go_enter Tryd.func6, Tryd.ntmps6
  go_wp2_with (go_at_call 35; refine (isValid_yes _ _ HH.out.self).mono ?_; rintro e w' ⟨rfl, rfl⟩)
  go_loopw [1] (fun vs wr => ∃ (r : ByteArray) (m : List UInt8), vs = .string r ∧ m.length + r.size ≤ 1000000 ∧ Hid (m ++ r.data.toList = l ++ s.data.toList) ∧ Hid (HashAt wr g m) ∧ Hid (Just g w wr)) (fun vs _ => strSize vs)
  case atStart => exact ⟨s, l, rfl, hb, Lib.hid rfl, HH, Just.refl _ _⟩
  case round =>
    clear HH
    obtain ⟨r, m, rfl, hmr, hml, hH, hJ⟩ := hrel
    by_cases h0 : r.size = 0
    · have hr0 : r.data.toList = [] := List.eq_nil_of_length_eq_zero (by simpa using h0)
      have hm : Hid (m = l ++ s.data.toList) := Lib.hid (by have := hml.out; rwa [hr0, List.append_nil] at this)
      have t0 : decide (0 < r.size) = false := decide_eq_false (by omega)
      clear hr0 h0
      go_wp2
      refine bodyPost_end (results_none rfl _ _ _) rfl ⟨rfl, by rw [← hm.out]; exact hH.out, hJ.out⟩
    · have t0 : 0 < r.size := by omega
      obtain ⟨M, hM⟩ : ∃ M, M = m.length := ⟨_, rfl⟩
      obtain ⟨q, hq⟩ : ∃ q, q = M % 64 := ⟨_, rfl⟩
      obtain ⟨n, hn⟩ : ∃ n, n = Nat.min r.size (64 - q) := ⟨_, rfl⟩
      have hn1 : n ≤ r.size := by rw [hn]; exact Nat.min_le_left _ _
      have hn2 : q + n ≤ 64 := by have : n ≤ 64 - q := by rw [hn]; exact Nat.min_le_right _ _
                                  omega
      have hn3 : 0 < n := by rw [hn]; exact Nat.lt_min.2 ⟨by omega, by omega⟩
      have hq2 : q < 64 := by omega
      have hMb : M ≤ 1000000 := by omega
      have cM : wr.cell? ⟨g, 73, none⟩ = some (.int .i64 (M : Int)) := by rw [hM]; exact hH.out.size
      have hqi : (M : Int).tmod 64 = (q : Int) := by rw [Int.tmod_eq_emod_of_nonneg (by omega)]; omega
      have hsl : ∀ w', (Instr.sliceAt 25 (.pointer (some ⟨g, 9, none⟩)) (some (.int .i64 (q : Int))) none none).run Tryd.prog w' = .ok (.slice (some ⟨g, 9 + q, none⟩) (64 - q) (64 - q)) w' := fun w' =>
        run_slice_from (P := Tryd.prog) w' 25 5 64 (by kernel_rfl) (by kernel_rfl) g 9 q hq2
      obtain ⟨W1, hw1, hcell, hfro, hheap, hbel⟩ := drawn_world wr
      have hH1 : Hid (HashAt W1 g m) := Lib.hid (hH.out.later hbel.out hH.out.lt)
      have dM := (hcell _).trans cM
      have hcp := run_copy_string (P := Tryd.prog) W1 77 9 3 5 g (9 + q) (64 - q) (64 - q) n r Tryd.underlying77 (by kernel_rfl) hn (fun j hj => by
        have := hH1.out.room (9 + q + j) (by omega)
        rwa [Nat.zero_add] at this)
      have HM := Lib.hid hM
      have HQ := Lib.hid hq
      have HN := Lib.hid hn
      clear hM hq hn hcell hfro cM
      go_wp2
      refine region_still_tail 10 (by kernel_rfl) (by kernel_rfl) W1 hw1.out ?_
      simp only [List.take_succ_cons, List.take_zero, List.drop_succ_cons, List.drop_zero]
      repeat still_step
      refine wpStill_nil ?_
      refine Lib.wpList_copy_run _ rfl _ _ 77 9 rfl _ _ rfl rfl hcp ?_
      obtain ⟨x, hx⟩ : ∃ x, x = r.data.toList.take n := ⟨_, rfl⟩
      have hxl : x.length = n := by
        have : r.data.toList.length = r.size := by simp
        rw [hx, List.length_take]; omega
      rw [← hx]
      have HX := Lib.hid hx
      have HXL := Lib.hid hxl
      generalize hW2 : W1.setCells g (9 + q) (bv x) = W2
      have hMid : Hid (MidAt W2 g m x) := Lib.hid (by
        rw [← hW2, HQ.out, HM.out]
        exact hH1.out.mid (by rw [hxl, ← HM.out, ← HQ.out]; exact hn2))
      have e73 : W2.cell? ⟨g, 73, none⟩ = some (.int .i64 (M : Int)) := by
        rw [← hW2, World.cell?_setCells_out _ _ _ _ _ (fun _ _ => Or.inr (by simp [bv, hxl]; omega))]; exact dM
      have f73 : W2.frozen? ⟨g, 73, none⟩ = false := by have := (hMid.out.room 73 (by decide)).2; rwa [Nat.zero_add] at this
      have hJ2 : Hid (Just g w W2) := Lib.hid (by rw [← hW2]; exact Just.setCells _ _ _ (hJ.out.trans (Just.of_below hbel.out)))
      clear hW2 hx hxl hcp dM hsl hqi hw1 hheap hbel hH1 hH hJ
      have hMn : (M : Int) + (n : Int) ≤ 1000000 := by have := HM.out; omega
      have hn0 : (0 : Int) ≤ (n : Int) := by omega
      have hM0 : (0 : Int) ≤ (M : Int) := by omega
      have hnr : (n : Int) ≤ (r.size : Int) := by omega
      by_cases hfull : q + n = 64
      · have he : ((M : Int) + (n : Int)) % 64 = 0 := by have := HQ.out; omega
        have ht : ((M : Int) + (n : Int)).tmod 64 = 0 := by rw [Int.tmod_eq_emod_of_nonneg (by omega)]; exact he
        have hrest : Hid ((m ++ x) ++ (r.extract n r.size).data.toList = l ++ s.data.toList) := Lib.hid (rest_is HX.out (by have := hml.out; exact this))
        have hlen : (m ++ x).length + (r.extract n r.size).size ≤ 1000000 := rest_size hmr HXL.out hn1
        have hless : (r.extract n r.size).size < r.size := by simp [ByteArray.size_extract]; omega
        have hF : Hid (FullAt W2 g m x) := Lib.hid (hMid.out.full (by rw [HXL.out, ← HM.out, ← HQ.out]; exact hfull))
        have HMX : Hid ((M : Int) + (n : Int) = (((m ++ x).length : Nat) : Int)) := Lib.hid (by rw [List.length_append, HXL.out, ← HM.out]; omega)
        have HK2 : Hid (HasK W2) := Lib.hid (HK.just hJ2.out hMid.out.pos)
        go_wp2
        generalize hW3 : W2.setCell ⟨g, 73, none⟩ (.int .i64 ((M : Int) + (n : Int))) = W3
        obtain ⟨S, hS⟩ : ∃ S, S = absorb m (m.length / 64) := ⟨_, rfl⟩
        obtain ⟨B, hB⟩ : ∃ B, B = blockOf (m ++ x) (m.length / 64) := ⟨_, rfl⟩
        have hB64 : B.length = 64 := by rw [hB]; exact hF.out.blk
        have hwords : W3.rangeAt g 1 (r8v S) := by rw [← hW3, hS]; exact rangeAt_setCell hF.out.words 73 _ (Or.inr (by simp [r8v]))
        have hblock : W3.rangeAt g 9 (bv B) := by rw [← hW3, hB]; exact rangeAt_setCell hF.out.last 73 _ (Or.inr (by simp [bv, hF.out.blk]))
        have hroom : W3.there g 0 74 := by rw [← hW3]; exact there_setCell hF.out.room _ _
        have hthere : W3.there g 1 8 := fun j hj => by have := hroom (1 + j) (by omega); rwa [Nat.zero_add] at this
        have hself : W3.cell? ⟨g, 0, none⟩ = some (.pointer (some ⟨g, 0, none⟩)) := by rw [← hW3, World.cell?_setCell_other _ _ _ _ (by intro e; simp at e)]; exact hF.out.self
        have hsize : W3.cell? ⟨g, 73, none⟩ = some (.int .i64 (((m ++ x).length : Nat) : Int)) := by rw [← hW3, World.cell?_setCell_same _ _ _ e73, HMX.out]
        have hJ3 : Hid (Just g w W3) := Lib.hid (by rw [← hW3]; exact hJ2.out.setCell _ _)
        have HK3 : HasK W3 := by rw [← hW3]; exact HK2.out.just ((Just.refl g W2).setCell _ _) hMid.out.pos
        have hpos : 0 < g := hMid.out.pos
        have hlt3 : g < W3.heap.size := Nat.lt_of_lt_of_le hMid.out.lt (by rw [← hW3]; simp)
        have HROOM := Lib.hid hroom
        have HSELF := Lib.hid hself
        have HSIZE := Lib.hid hsize
        have HS := Lib.hid hS
        have HB := Lib.hid hB
        obtain ⟨C, hC⟩ : ∃ C, C = comp S B := ⟨_, rfl⟩
        have HC := Lib.hid hC
        have hu36 := Tryd.underlying25
        have hi36 : (Tryd.prog.info? 25).map (·.size) = some (bv B).length := by
          have : (bv B).length = 64 := by simp [bv, hB64]
          rw [this]; exact size64b
        have HK4 : Hid (HasK W3) := Lib.hid HK3
        have HB64 := Lib.hid hB64
        have hbl : (bv B).length = 64 := by simp [bv, hB64]
        have HTH : Hid (∀ w', Below W3.heap.size W3 w' → w'.there g 1 (r8v C).toArray.size) := Lib.hid (fun w' hb j hj => by
          rw [hb.cell (p := ⟨g, 1 + j, none⟩) hlt3, hb.frozen (p := ⟨g, 1 + j, none⟩) hlt3]; exact hthere j hj)
        have HR1 : Hid (W3.drew.rangeAt g 1 (r8v S)) := Lib.hid hwords
        have HR9 : Hid (W3.drew.rangeAt g 9 (bv B)) := Lib.hid hblock
        have HI36 := Lib.hid hi36
        have HONE : Hid ((r8v C).toArray.all (·.oneCell') = true) := Lib.hid (all_oneCell_toArray (r8v_one _))
        have HK5 : Hid (HasK W3.drew) := Lib.hid (HK3.later ((Below.refl _ _).drew))
        clear hW3 hroom hself hsize hS hB hC he ht e73 f73 HMX HK2 hF hMid hwords hblock hthere HK3 hB64 hu36 hi36 hbl HK4
        refine wp_region_noPanic (wp_region_held (S := fun _ => True) (by kernel_rfl) ?_)
        refine wpAnyH_take (i := 0) (v := .pointer (some ⟨g, 0, none⟩)) rfl (by kernel_rfl) (by kernel_rfl) (by kernel_rfl) (fun _ _ _ h => h) (.inl ⟨rfl, fun _ _ => by kernel_rfl⟩) trivial ?_
        refine wpAnyH_take (i := 1) (v := .pointer (some ⟨g, 0, none⟩)) rfl (by kernel_rfl) (by kernel_rfl) (by kernel_rfl) (fun _ _ _ h => h) (.inl ⟨rfl, fun _ _ => by kernel_rfl⟩) trivial ?_
        refine wpAnyH_take (i := 2) (v := .pointer (some ⟨g, 0, none⟩)) rfl (by kernel_rfl) (by kernel_rfl) (by kernel_rfl) (fun _ _ _ h => h) (.inl ⟨rfl, fun _ _ => by kernel_rfl⟩) trivial ?_
        refine wpAnyH_take (i := 3) (v := .pointer (some ⟨g, 1, none⟩)) rfl (by kernel_rfl) (by kernel_rfl) (by kernel_rfl) (fun _ _ _ h => h) (.inl ⟨rfl, fun _ _ => by kernel_rfl⟩) trivial ?_
        refine wpAnyH_take (i := 5) (v := .pointer (some ⟨g, 0, none⟩)) rfl (by kernel_rfl) (by kernel_rfl) (by kernel_rfl) (fun _ _ _ h => h) (.inl ⟨rfl, fun _ _ => by kernel_rfl⟩) trivial ?_
        refine wpAnyH_take (i := 6) (v := .pointer (some ⟨g, 0, none⟩)) rfl (by kernel_rfl) (by kernel_rfl) (by kernel_rfl) (fun _ _ _ h => h) (.inl ⟨rfl, fun _ _ => by kernel_rfl⟩) trivial ?_
        refine wpAnyH_take (i := 7) (v := .pointer (some ⟨g, 9, none⟩)) rfl (by kernel_rfl) (by kernel_rfl) (by kernel_rfl) (fun _ _ _ h => h) (.inl ⟨rfl, fun _ _ => by kernel_rfl⟩) trivial ?_
        refine wpAnyH_all (rs := [4, 8]) (by kernel_rfl) (by decide) ?_
        intro i hi
        rcases (show i = 4 ∨ i = 8 by simpa using hi) with rfl | rfl
        all_goals clear hi
        · refine YieldsIf.wpOp (S := fun w' => w' = W3.drew) rfl (yieldsIf_load_mid (S := fun w' => w' = W3.drew) (by kernel_rfl) 24 (.tmp 42) (by kernel_rfl) g 1 (by kernel_rfl) (r8v S) _ (fun w' hw => by rw [hw]; exact HR1.out) Tryd.underlying24 rfl size8w) rfl ⟨trivial, ?_⟩
          refine wpAnyH_all (rs := [8]) (by kernel_rfl) (by decide) ?_
          intro i hi
          obtain rfl : i = 8 := by simpa using hi
          refine YieldsIf.wpOp (S := fun w' => w' = W3.drew) rfl (yieldsIf_load_mid (S := fun w' => w' = W3.drew) (by kernel_rfl) 25 (.tmp 46) (by kernel_rfl) g 9 (by kernel_rfl) (bv B) _ (fun w' hw => by rw [hw]; exact HR9.out) Tryd.underlying25 rfl HI36.out) rfl ⟨trivial, ?_⟩
          refine held_rest 9 _ (by kernel_rfl) (by kernel_rfl) ?_
          simp only [List.drop_succ_cons, List.drop_zero]
          go_wp2_with (first
            | (go_at_call 36; refine (combine_lit S C B HC.out HB64.out _ HK5.out).mono ?_; rintro e w2 ⟨rfl, hb2⟩; have HB2 := Lib.hid (chain2 ((Below.refl _ W3).drew) hb2); clear hb2)
            | (refine wpList_store_mid rfl 24 _ _ rfl g 1 (r8v C).toArray rfl rfl (HTH.out _ HB2.out) size8w HONE.out ?_))
          refine NoPanic.normal ?_
          have hfin : Hid (HashAt (w2.setCells g 1 (r8v C)) g (m ++ x)) := Lib.hid (hash_full hpos hlt3 HROOM.out HSELF.out HSIZE.out HR9.out HB64.out HB2.out (by rw [HC.out, HS.out, HB.out]) (by rw [HXL.out, ← HM.out, ← HQ.out]; exact hfull))
          have hfJ : Hid (Just g w (w2.setCells g 1 (r8v C))) := Lib.hid (Just.setCells _ _ _ (hJ3.out.trans (Just.of_below HB2.out)))
          go_wp2
          go_roundw
          case rel => exact ⟨_, m ++ x, rfl, hlen, hrest, hfin, hfJ⟩
          case measure => exact hless
        · refine YieldsIf.wpOp (S := fun w' => w' = W3.drew) rfl (yieldsIf_load_mid (S := fun w' => w' = W3.drew) (by kernel_rfl) 25 (.tmp 46) (by kernel_rfl) g 9 (by kernel_rfl) (bv B) _ (fun w' hw => by rw [hw]; exact HR9.out) Tryd.underlying25 rfl HI36.out) rfl ⟨trivial, ?_⟩
          refine wpAnyH_all (rs := [4]) (by kernel_rfl) (by decide) ?_
          intro i hi
          obtain rfl : i = 4 := by simpa using hi
          refine YieldsIf.wpOp (S := fun w' => w' = W3.drew) rfl (yieldsIf_load_mid (S := fun w' => w' = W3.drew) (by kernel_rfl) 24 (.tmp 42) (by kernel_rfl) g 1 (by kernel_rfl) (r8v S) _ (fun w' hw => by rw [hw]; exact HR1.out) Tryd.underlying24 rfl size8w) rfl ⟨trivial, ?_⟩
          refine held_rest 9 _ (by kernel_rfl) (by kernel_rfl) ?_
          simp only [List.drop_succ_cons, List.drop_zero]
          go_wp2_with (first
            | (go_at_call 36; refine (combine_lit S C B HC.out HB64.out _ HK5.out).mono ?_; rintro e w2 ⟨rfl, hb2⟩; have HB2 := Lib.hid (chain2 ((Below.refl _ W3).drew) hb2); clear hb2)
            | (refine wpList_store_mid rfl 24 _ _ rfl g 1 (r8v C).toArray rfl rfl (HTH.out _ HB2.out) size8w HONE.out ?_))
          refine NoPanic.normal ?_
          have hfin : Hid (HashAt (w2.setCells g 1 (r8v C)) g (m ++ x)) := Lib.hid (hash_full hpos hlt3 HROOM.out HSELF.out HSIZE.out HR9.out HB64.out HB2.out (by rw [HC.out, HS.out, HB.out]) (by rw [HXL.out, ← HM.out, ← HQ.out]; exact hfull))
          have hfJ : Hid (Just g w (w2.setCells g 1 (r8v C))) := Lib.hid (Just.setCells _ _ _ (hJ3.out.trans (Just.of_below HB2.out)))
          go_wp2
          go_roundw
          case rel => exact ⟨_, m ++ x, rfl, hlen, hrest, hfin, hfJ⟩
          case measure => exact hless
      · have he : ((M : Int) + (n : Int)) % 64 = ((q + n : Nat) : Int) := by have := HQ.out; omega
        have ht : ((M : Int) + (n : Int)).tmod 64 = ((q + n : Nat) : Int) := by rw [Int.tmod_eq_emod_of_nonneg (by omega)]; exact he
        have hb0 : (((q + n : Nat) : Int) == 0) = false := by simp; omega
        have hrest : Hid ((m ++ x) ++ (r.extract n r.size).data.toList = l ++ s.data.toList) := Lib.hid (rest_is HX.out (by have := hml.out; exact this))
        have hlen : (m ++ x).length + (r.extract n r.size).size ≤ 1000000 := rest_size hmr HXL.out hn1
        have hless : (r.extract n r.size).size < r.size := by simp [ByteArray.size_extract]; omega
        have HE : Hid (W2.cell? ⟨g, 73, none⟩ = some (.int .i64 (M : Int))) := Lib.hid e73
        have hP : Hid (HashAt (W2.setCell ⟨g, 73, none⟩ (.int .i64 ((M : Int) + (n : Int)))) g (m ++ x)) := Lib.hid (hMid.out.part (by rw [HXL.out, ← HM.out, ← HQ.out]; omega) _ e73 _ (by rw [List.length_append, HXL.out, ← HM.out]; omega))
        go_wp2
        go_roundw
        case rel => exact ⟨_, m ++ x, rfl, hlen, hrest, hP, Lib.hid (hJ2.out.setCell _ _)⟩
        case measure => exact hless

end Go.Proofs.YthddiijnomhpfaaDoor
