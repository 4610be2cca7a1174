/- The walk of Copy: its contract. No condition but those that each states. -/
import Derived.Test.YtmnbkopfmhdijaaDkP
namespace Go.Proofs.Ytmnbkopfmhdijaa.Dk
open Go.RowKit
attribute [local go_sem ↓] Go.wp_at_zero Go.wp_at_succ

/-- The cells of a disk. -/
def kcells (g gd cd gm : Nat) (vp : Value) (S : DS) : List Value := [.pointer (some ⟨g, 0, none⟩), .bool S.on, .slice (some ⟨gd, 0, none⟩) S.L.length cd, vp, .map (some gm), .int .i64 (S.ops : Int)] ++ planCells S.next

theorem kcells_length (g gd cd gm : Nat) (vp : Value) (S : DS) : (kcells g gd cd gm vp S).length = 9 := by
  unfold kcells planCells
  cases S.next <;> rfl

theorem DiskIn.cells {w : World} {g gd cd gm : Nat} {vp : Value} {S : DS} {D : DataW Unit} (h : DiskIn w g gd cd gm vp S D) : w.rangeAt g 0 (kcells g gd cd gm vp S) := by
  refine rangeAt_add (xs := [.pointer (some ⟨g, 0, none⟩), .bool S.on, .slice (some ⟨gd, 0, none⟩) S.L.length cd, vp, .map (some gm), .int .i64 (S.ops : Int)]) (ys := planCells S.next) (fun j v hv => ?_) h.plan
  have hj : j < 6 := (List.getElem?_eq_some_iff.1 hv).1
  rw [Nat.zero_add, ← hv]
  rcases (show j = 0 ∨ j = 1 ∨ j = 2 ∨ j = 3 ∨ j = 4 ∨ j = 5 by omega) with rfl | rfl | rfl | rfl | rfl | rfl
  · exact h.self
  · exact h.on
  · exact h.dur
  · exact h.pend
  · exact h.last
  · exact h.ops

theorem kcells_one {w : World} {g gd cd gm : Nat} {vp : Value} {S : DS} {D : DataW Unit} (h : DiskIn w g gd cd gm vp S D) : ∀ u ∈ kcells g gd cd gm vp S, u.oneCell' = true := by
  obtain ⟨pa, pc, hvp⟩ : ∃ pa pc, vp = .slice pa S.W.length pc := by
    rcases h.row.2 with ⟨h, h0⟩ | ⟨g0, c0, cur, h, _⟩
    · exact ⟨none, 0, by rw [h, h0]⟩
    · exact ⟨_, _, h⟩
  subst hvp
  intro u hu
  unfold kcells planCells at hu
  cases hn : S.next with
  | none =>
    rw [hn] at hu
    simp at hu
    rcases hu with rfl | rfl | rfl | rfl | rfl | rfl | rfl | rfl | rfl <;> rfl
  | some p =>
    rw [hn] at hu
    simp at hu
    rcases hu with rfl | rfl | rfl | rfl | rfl | rfl | rfl | rfl | rfl <;> rfl

def zeroDisk : List Value := [.pointer none, .bool false, .slice none 0 0, .slice none 0 0, .map none, .int .i64 0, .bool false, .int .i64 0, .int .u64 0]

theorem zero_disk (W : World) : (zeroValue 58).run Try.prog W = .ok (.agg zeroDisk.toArray) W := by kernel_rfl
theorem info_disk : (Try.prog.info? 58).map (·.size) = some 9 := by kernel_rfl

/-- The new block, its cells, on the way. -/
structure CopyW (w W : World) (K : List Value) : Prop where
  cells : W.rangeAt w.heap.size 0 K
  room : W.there w.heap.size 0 9
  below : Below w.heap.size w W
  lt : w.heap.size < W.heap.size
  len : K.length = 9

theorem CopyW.later {w W W' : World} {K : List Value} (h : CopyW w W K) (k : Below W.heap.size W W') : CopyW w W' K :=
  ⟨rangeAt_block h.cells (k.block _ h.lt), there_block h.room (k.block _ h.lt), chain2 h.below k, Nat.lt_of_lt_of_le h.lt k.size, h.len⟩

theorem CopyW.cell {w W : World} {K : List Value} (h : CopyW w W K) (i : Nat) (hi : i < 9) : W.cell? ⟨w.heap.size, i, none⟩ = some (K.getD i undef) := by
  have hj : i < K.length := by rw [h.len]; exact hi
  have := h.cells i K[i] (List.getElem?_eq_getElem hj)
  rw [Nat.zero_add] at this
  rw [this, List.getD_eq_getElem?_getD, List.getElem?_eq_getElem hj]; rfl
theorem CopyW.free {w W : World} {K : List Value} (h : CopyW w W K) (i : Nat) (hi : i < 9) : W.frozen? ⟨w.heap.size, i, none⟩ = false := by
  have := (h.room i hi).2; rwa [Nat.zero_add] at this
theorem CopyW.old {w W : World} {K : List Value} (h : CopyW w W K) {a : Addr} (ha : a.block < w.heap.size) : W.cell? a = w.cell? a := h.below.cell ha

theorem CopyW.set {w W : World} {K : List Value} (h : CopyW w W K) (i : Nat) (hi : i < 9) (v : Value) : CopyW w (W.setCell ⟨w.heap.size, i, none⟩ v) (K.set i v) := by
  have hlen := h.len
  refine ⟨fun j u hu => ?_, there_setCell h.room _ _, h.below.setCell (Nat.le_refl _) v, by simpa using h.lt, by rw [List.length_set]; exact h.len⟩
  rw [Nat.zero_add]
  rw [List.getElem?_set] at hu
  by_cases e : i = j
  · subst e
    rw [if_pos rfl, if_pos (by omega)] at hu
    cases hu
    exact World.cell?_setCell_same _ _ _ (h.cell i hi)
  · rw [if_neg e] at hu
    rw [World.cell?_setCell_other _ _ _ _ (by intro e'; simp at e'; first | done | exact e e')]
    have := h.cells j u hu
    rwa [Nat.zero_add] at this

theorem copyW_new {w : World} {Z : Array Value} {t : TypeId} {K : List Value} (hl : K.length = 9) (hth : (w.alloc (.cells Z t)).there w.heap.size 0 9) : CopyW w ((w.alloc (.cells Z t)).setCells w.heap.size 0 K) K := by
  refine ⟨World.rangeAt_setCells_same _ _ _ _ (by rw [hl]; exact hth), fun j hj => ?_, ?_, ?_, hl⟩
  · have hr := World.rangeAt_setCells_same (w.alloc (.cells Z t)) w.heap.size 0 K (by rw [hl]; exact hth) j (K.getD j undef) (by rw [List.getD_eq_getElem?_getD, List.getElem?_eq_getElem (by omega)]; rfl)
    refine ⟨by rw [hr]; rfl, ?_⟩
    rw [World.frozen?_setCells]; exact (hth j hj).2
  · exact below_setCells (Below.refl _ _) _ (Nat.le_refl _) _ _ _ ((Below.refl _ _).alloc (Nat.le_refl _) _)
  · rw [size_setCells]; simp

theorem row_set {w : World} {t : TypeId} {size : Nat} {v : Value} {n : Nat} {xs : List Value} (h : w.ownsRow 0 t size v n xs) (a : Addr) (u : Value) (ha : ∀ b, v.ownBlock = some b → b ≠ a.block) : (w.setCell a u).ownsRow 0 t size v n xs :=
  ownsRow_block h (fun b hb => Below.heap_setCell _ _ _ _ (ha b hb))

theorem kcells_set (g gd cd gm : Nat) (vp : Value) (S : DS) (h g1 c1 m : Nat) (vq : Value) :
    ((((kcells g gd cd gm vp S).set 0 (.pointer (some ⟨h, 0, none⟩))).set 2 (.slice (some ⟨g1, 0, none⟩) S.L.length c1)).set 3 vq).set 4 (.map (some m)) = kcells h g1 c1 m vq S := rfl

theorem copy_done {w W : World} {h g1 c1 m : Nat} {vq : Value} {S : DS} {D : DataW Unit} (hh : w.heap.size = h) (hC : CopyW w W (kcells h g1 c1 m vq S)) (hrow1 : W.ownsRow 0 69 64 (.slice (some ⟨g1, 0, none⟩) S.L.length c1) S.L.length (dcells S.L))
    (hrow2 : W.ownsRow 0 72 65 vq S.W.length (wcells S.W)) (hm : W.ownsMap Try.prog 3 (plainElem Try.prog 3) m S.c D) (hmo : MapOk D S.W) (hok : S.Ok)
    (h1 : h < g1) (h2 : g1 < m) (h3 : m < W.heap.size) (h4 : ∀ b, vq.ownBlock = some b → g1 < b ∧ b < m) : DiskAt W (fun k => h ≤ k) h S := by
  subst hh
  have hc : ∀ j v, (kcells w.heap.size g1 c1 m vq S)[j]? = some v → W.cell? ⟨w.heap.size, j, none⟩ = some v := fun j v hv => by
    have := hC.cells j v hv; rwa [Nat.zero_add] at this
  refine ⟨g1, c1, m, vq, D, ⟨hC.room, hc 0 _ rfl, hc 1 _ rfl, hc 2 _ rfl, hc 3 _ rfl, hc 4 _ rfl, hc 5 _ rfl, ?_, ownsRow_range hrow1, ?_, ?_, hrow2, hm, hmo, hok, ⟨hC.lt, by omega, h3⟩, ⟨by omega, by omega, by omega⟩, fun b hb => ?_⟩, Nat.le_refl _, by omega, by omega, fun b hb => ?_⟩
  · have := rangeAt_right (n := 6) (xs := [.pointer (some ⟨w.heap.size, 0, none⟩), .bool S.on, .slice (some ⟨g1, 0, none⟩) S.L.length c1, vq, .map (some m), .int .i64 (S.ops : Int)]) (ys := planCells S.next) hC.cells rfl
    exact this
  · rcases hrow1.2 with ⟨e, _⟩ | ⟨g', cap', cur, e, _, hg, hn, hx, hsz, _⟩
    · cases e
    · cases e
      intro j hj
      rw [Nat.zero_add]
      refine ⟨?_, frozen_of_row W _ j _ _ hg⟩
      rw [cell_of_row W _ j _ _ _ hg, Array.getElem?_eq_getElem (by rw [hsz]; have := Nat.mul_le_mul_right 64 hn; omega)]; rfl
  · rcases hrow1.2 with ⟨e, _⟩ | ⟨g', cap', cur, e, _, hg, hn, hx, hsz, _⟩
    · cases e
    · cases e
      exact ⟨hn, hx⟩
  · have := h4 b hb
    exact ⟨by omega, by omega, by omega, by omega⟩
  · have := h4 b hb
    show w.heap.size ≤ b
    omega

set_option maxHeartbeats 1000000 in
set_option maxRecDepth 100000 in
theorem copy_at (g : Nat) (S : DS) (F : Nat → Prop) (w : World) (h : DiskAt w F g S) (hc : S.c ≤ 2 ^ 40) :
    Calls Try.prog 23 #[.pointer (some ⟨g, 0, none⟩)] w fun e w' => e = .returned (.pointer (some ⟨w.heap.size, 0, none⟩)) ∧ DiskAt w' (fun k => w.heap.size ≤ k) w.heap.size S ∧ Below w.heap.size w w' := by
  obtain ⟨gd, cd, gm, vp, D, hD, -⟩ := h
  have HD := Lib.hid hD
  have hz := zero_disk
  have hlen := kcells_length g gd cd gm vp S
  have HR := Lib.hid hD.cells
  have HI : Hid ((Try.prog.info? 58).map (·.size) = some (kcells g gd cd gm vp S).length) := Lib.hid (by rw [hlen]; exact info_disk)
  have HIA : Hid ((Try.prog.info? 58).map (·.size) = some (kcells g gd cd gm vp S).toArray.size) := Lib.hid (by rw [List.size_toArray, hlen]; exact info_disk)
  have HONE : Hid ((kcells g gd cd gm vp S).toArray.all (·.oneCell') = true) := Lib.hid (all_oneCell_toArray (kcells_one hD))
  have HTH : Hid ((w.alloc (.cells zeroDisk.toArray 58)).there w.heap.size 0 (kcells g gd cd gm vp S).toArray.size) := Lib.hid (by
    have h := there_new w zeroDisk.toArray 58
    rw [show (kcells g gd cd gm vp S).toArray.size = 9 by rw [List.size_toArray, hlen]]
    exact h)
  have HLEN := Lib.hid hlen
  have hself := Lib.hid hD.self
  clear hD hlen
  generalize hK : kcells g gd cd gm vp S = K at *
  generalize zeroDisk.toArray = Z at *
  go_enter Try.func23, Try.ntmps23
  have HCW : Hid (CopyW w ((w.alloc (.cells Z 58)).setCells w.heap.size 0 K) K) := Lib.hid (copyW_new HLEN.out (by have := HTH.out; rwa [show K.toArray.size = 9 by rw [List.size_toArray, HLEN.out]] at this))
  have hgl := HD.out.lt
  have hne : w.heap.size ≠ g := by omega
  go_wp2_with (first
    | (go_at_call 31; refine (isValid_yes _ _ hself.out).mono ?_; rintro e w' ⟨rfl, rfl⟩)
    | (refine wpList_load_mid rfl 58 _ rfl g 0 rfl K _ HR.out Try.underlying58 rfl HI.out ?_)
    | (refine wpList_store_mid rfl 58 _ _ rfl w.heap.size 0 K.toArray rfl rfl HTH.out HIA.out HONE.out ?_; generalize World.setCells _ _ _ _ = W2 at HCW ⊢
       have c20 := HCW.out.cell 0 (by decide)
       have f20 := HCW.out.free 0 (by decide)
       have c22 : W2.cell? ⟨g, 2, none⟩ = some (.slice (some ⟨gd, 0, none⟩) S.L.length cd) := (HCW.out.old (a := ⟨g, 2, none⟩) hgl.1).trans HD.out.dur))
  clear hself HR HI HIA HONE HTH hz hne
  have H3 := Lib.hid (HCW.out.set 0 (by decide) (.pointer (some ⟨w.heap.size, 0, none⟩)))
  clear HCW
  generalize World.setCell W2 _ _ = W3 at H3 ⊢
  have hlo := HD.out.ok.lo
  have hhi := HD.out.ok.hi
  refine (clone_blocks gd cd S.L.length (dcells S.L) W3 (by omega) hhi (dcells_length HD.out.ok.blk) (dcells_one _) (rangeAt_block HD.out.durs (H3.out.below.block _ hgl.2.1)) (Nat.lt_of_lt_of_le hgl.2.1 H3.out.below.size)).mono ?_
  rintro e W4 ⟨g1, c1, rfl, hb4, hg1, hl1, hrow1⟩
  have l3 := H3.out.lt
  have H4 := Lib.hid (H3.out.later hb4)
  have HR1 := Lib.hid hrow1
  clear H3 c20 f20 c22 hrow1
  have c42 := H4.out.cell 2 (by decide)
  have f42 := H4.out.free 2 (by decide)
  have hne : w.heap.size ≠ g := by omega
  have c43 : W4.cell? ⟨g, 3, none⟩ = some vp := (H4.out.old (a := ⟨g, 3, none⟩) hgl.1).trans HD.out.pend
  have hb4s := hb4.size
  clear hb4
  go_wp2_with fail
  clear c42 f42 c43 hne
  have H5 := Lib.hid (H4.out.set 2 (by decide) (.slice (some ⟨g1, 0, none⟩) S.L.length c1))
  have HR15 := Lib.hid (row_set HR1.out ⟨w.heap.size, 2, none⟩ (.slice (some ⟨g1, 0, none⟩) S.L.length c1) (fun b hb => by cases hb; show g1 ≠ w.heap.size; omega))
  clear H4 HR1
  generalize hw5 : World.setCell W4 _ _ = W5 at *
  have s5 : W5.heap.size = W4.heap.size := by rw [← hw5]; simp
  clear hw5
  have hnep := HD.out.nep
  refine (clone_writes vp S.W.length (wcells S.W) W5 (Nat.le_trans HD.out.ok.few hc) (wcells_one _) (ownsRow_block HD.out.row (fun b hb => H5.out.below.block _ (hnep b hb).1)) (fun b hb => Nat.lt_of_lt_of_le (hnep b hb).1 H5.out.below.size)).mono ?_
  rintro e W6 ⟨vq, he6, hb6, hq6, hrow6⟩
  obtain ⟨pq, cq, hvq⟩ : ∃ pq cq, vq = .slice pq S.W.length cq := by
    rcases hrow6.2 with ⟨h, h0⟩ | ⟨g0, c0, cur, h, _⟩
    · exact ⟨none, 0, by rw [h, h0]⟩
    · exact ⟨_, _, h⟩
  subst hvq
  subst he6
  have H6 := Lib.hid (H5.out.later hb6)
  have hg5 : g1 < W5.heap.size := by omega
  have HR16 := Lib.hid (ownsRow_block HR15.out (fun b hb => by cases hb; exact hb6.block g1 hg5))
  have HR26 := Lib.hid hrow6
  have s6 := hb6.size
  clear H5 HR15 hrow6 hb6
  have c63 := H6.out.cell 3 (by decide)
  have f63 := H6.out.free 3 (by decide)
  have hne : w.heap.size ≠ g := by omega
  have c64 : W6.cell? ⟨g, 4, none⟩ = some (.map (some gm)) := (H6.out.old (a := ⟨g, 4, none⟩) hgl.1).trans HD.out.last
  go_wp2_with fail
  clear c63 f63 c64 hne
  have H7 := Lib.hid (H6.out.set 3 (by decide) (.slice pq S.W.length cq))
  have HR17 := Lib.hid (row_set HR16.out ⟨w.heap.size, 3, none⟩ (.slice pq S.W.length cq) (fun b hb => by cases hb; show g1 ≠ w.heap.size; omega))
  have HR27 := Lib.hid (row_set HR26.out ⟨w.heap.size, 3, none⟩ (.slice pq S.W.length cq) (fun b hb => by have := (hq6 b hb).1; show b ≠ w.heap.size; omega))
  clear H6 HR16 HR26
  generalize hw7 : World.setCell W6 _ _ = W7 at *
  have s7 : W7.heap.size = W6.heap.size := by rw [← hw7]; simp
  clear hw7
  refine (clone_map gm S.c D W7 (ownsMap_block HD.out.map (H7.out.below.block _ hgl.2.2))).mono ?_
  rintro e W8 ⟨rfl, hb8, hl8, hm8⟩
  have H8 := Lib.hid (H7.out.later hb8)
  have hg7 : g1 < W7.heap.size := by omega
  have HR18 := Lib.hid (ownsRow_block HR17.out (fun b hb => by cases hb; exact hb8.block g1 hg7))
  have hq7 : ∀ b, (Value.slice pq S.W.length cq).ownBlock = some b → b < W7.heap.size := fun b hb => by rw [s7]; exact (hq6 b hb).2
  have HR28 := Lib.hid (ownsRow_block HR27.out (fun b hb => hb8.block b (hq7 b hb)))
  have HM8 := Lib.hid hm8
  clear H7 HR17 HR27 hm8 hb8
  have c84 := H8.out.cell 4 (by decide)
  have f84 := H8.out.free 4 (by decide)
  have H9 := Lib.hid (H8.out.set 4 (by decide) (.map (some W7.heap.size)))
  have HD9 : Hid (DiskAt (W8.setCell ⟨w.heap.size, 4, none⟩ (.map (some W7.heap.size))) (fun k => w.heap.size ≤ k) w.heap.size S) := Lib.hid (by
    have h9 := H9.out
    rw [← hK, kcells_set] at h9
    refine copy_done rfl h9 (row_set HR18.out _ _ (fun b hb => by cases hb; show g1 ≠ w.heap.size; omega)) (row_set HR28.out _ _ (fun b hb => by have := (hq6 b hb).1; show b ≠ w.heap.size; omega)) (ownsMap_block HM8.out (Below.heap_setCell _ _ _ _ (by show W7.heap.size ≠ w.heap.size; omega))) HD.out.mapOk HD.out.ok (by omega) (by omega) (by simpa using hl8) (fun b hb => ?_)
    have := hq6 b hb
    omega)
  have HB9 := Lib.hid H9.out.below
  clear H8 H9 HR18 HR28 HM8 s5 s6 s7 hg5 hg7 hq6 hq7 hl1 hl8 hg1 l3 hb4s hnep
  go_wp2
  go_ret
  exact ⟨rfl, HD9.out, HB9.out⟩

theorem dk_copy {w0 w : World} {F : Nat → Prop} {g : Nat} {S : DS} (h : Dk w0 w F g S) (hc : S.c ≤ 2 ^ 40) :
    Calls Try.prog 23 #[.pointer (some ⟨g, 0, none⟩)] w fun e w' => e = .returned (.pointer (some ⟨w.heap.size, 0, none⟩)) ∧ Dk w w' (fun k => w.heap.size ≤ k) w.heap.size S :=
  (copy_at g S F w h.here hc).mono fun e w' ⟨he, hd, hb⟩ => ⟨he, hd, hb, fun _ hk => hk, fun _ hk => Nat.le_trans hb.size hk⟩

end Go.Proofs.Ytmnbkopfmhdijaa.Dk
