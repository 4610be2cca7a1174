/- The walks of the document's Next and Text: their contracts. What octet.Get, octet.Next and the document's Get, Next answer, each by one function: and the walk of chrysalislaw01.OctetGets. Readers in memory: what a call of a reader leaves, and the blocks of a call's own. No condition but those that each states. -/
import Derived.Test.YtmloljfnnkfkjaaDoorMgAO
import Derived.Test.YtmloljfnnkfkjaaDoorMgAI
import Derived.Test.YtmloljfnnkfkjaaDoorMgAN
namespace Go.Proofs.YtmloljfnnkfkjaaDoor
open Go.RowKit

set_option maxHeartbeats 400000 in
theorem rnext_neg (s : ByteArray) (p : Int) (w : World) (hp : p < 0) :
    Calls Tryd.prog 82 #[.string s, .int .i64 p] w fun e w' => e = .returned (.tuple #[.string ⟨#[]⟩, .int .i64 0, .int .i64 1]) ∧ w = w' := by
  go_enter Tryd.func82, Tryd.ntmps82
  go_wp2_with (first | (go_at_call 81; refine (rget_neg _ _ _ _ (by decide) hp).mono ?_; rintro e w' ⟨rfl, rfl⟩))
  go_ret3
  exact ⟨rfl, rfl⟩

set_option maxHeartbeats 400000 in
theorem rnext_short (s : ByteArray) (p : Int) (w : World) (hp : 0 ≤ p) (hp2 : p ≤ 9223372036854775807) (hs : s.size ≤ 9223372036854775807) (h : (s.size : Int) - p < 4) :
    Calls Tryd.prog 82 #[.string s, .int .i64 p] w fun e w' => e = .returned (.tuple #[.string ⟨#[]⟩, .int .i64 0, .int .i64 2]) ∧ w = w' := by
  go_enter Tryd.func82, Tryd.ntmps82
  go_wp2_with (first | (go_at_call 81; refine (rget_short _ _ _ _ (by decide) hp hp2 hs h).mono ?_; rintro e w' ⟨rfl, rfl⟩))
  go_ret3
  exact ⟨rfl, rfl⟩

set_option maxHeartbeats 400000 in
theorem rnext_cut (s : ByteArray) (p : Nat) (w : World) (hs : s.size ≤ 9223372036854775807) (h : p + 4 ≤ s.size) (hn : s.size < p + 4 + lenAt s p) :
    Calls Tryd.prog 82 #[.string s, .int .i64 p] w fun e w' => e = .returned (.tuple #[.string ⟨#[]⟩, .int .i64 0, .int .i64 2]) ∧ w = w' := by
  have hl := lenAt_lt s p
  have hd : decide ((s.size : Int) - (p : Int) - 4 < (lenAt s p : Int)) = true := by simp; omega
  go_enter Tryd.func82, Tryd.ntmps82
  go_wp2_with (first | (go_at_call 81; refine (rget_nat _ _ 4 _ (by decide) hs h).mono ?_; rintro e w' ⟨rfl, rfl⟩; rw [bytesAt_lenAt]))
  go_ret3
  exact ⟨rfl, rfl⟩

set_option maxHeartbeats 400000 in
theorem rnext_ok (s : ByteArray) (p : Nat) (w : World) (hs : s.size ≤ 9223372036854775807) (hn : p + 4 + lenAt s p ≤ s.size) :
    Calls Tryd.prog 82 #[.string s, .int .i64 p] w fun e w' => e = .returned (.tuple #[.string (s.extract (p + 4) (p + 4 + lenAt s p)), .int .i64 ((p + 4 + lenAt s p : Nat) : Int), .int .i64 0]) ∧ w = w' := by
  have hl := lenAt_lt s p
  have hd : decide ((s.size : Int) - (p : Int) - 4 < (lenAt s p : Int)) = false := by simp; omega
  go_enter Tryd.func82, Tryd.ntmps82
  go_wp2_with (first | (go_at_call 81; refine (rget_nat _ _ 4 _ (by decide) hs (by omega)).mono ?_; rintro e w' ⟨rfl, rfl⟩; rw [bytesAt_lenAt]))
  go_ret3
  exact ⟨rfl, rfl⟩

set_option maxHeartbeats 400000 in
theorem rtext_any (s : ByteArray) (w : World) (hs : s.size ≤ 20000) :
    Calls Tryd.prog 24 #[.string s] w fun e w' => e = .returned (.string (⟨(Lib.leBytes 4 s.size).toArray⟩ ++ s)) ∧ Below w.heap.size w w' := by
  have hf : fitsB (s.size : Int) 4 = true := by simp [fitsB]; omega
  have hu : u64 (s.size : Int) = s.size := by have h1 := u64_cast (s.size : Int); rw [wraps_u64 _ (by omega) (by omega)] at h1; omega
  go_enter Tryd.func24, Tryd.ntmps24
  go_wp2_with fail
  refine (rput_ok _ 4 _ (by decide) hf).mono ?_
  rintro e w' ⟨rfl, hb⟩
  rw [hu, show (4 : Int).toNat = 4 from rfl]
  have HB := Lib.hid hb
  clear hb hf hu
  have hsz : ((⟨(Lib.leBytes 4 s.size).toArray⟩ : ByteArray)).size = 4 := (size_of_list _).trans (Lib.leBytes_length _ _)
  have had := fun w : World => run_string_add_sum (P := Tryd.prog) (w := w) ⟨(Lib.leBytes 4 s.size).toArray⟩ s (by omega)
  go_wp2
  go_ret
  exact ⟨rfl, HB.out⟩

end Go.Proofs.YtmloljfnnkfkjaaDoor

namespace Go.Proofs.YtmloljfnnkfkjaaDoor
open Go.RowKit

def nextB (s : ByteArray) (p : Int) : Bool := decide (0 ≤ p ∧ p + 4 + (lenAt s p.toNat : Int) ≤ s.size)
def nextS (s : ByteArray) (p : Int) : ByteArray := if nextB s p = true then s.extract (p.toNat + 4) (p.toNat + 4 + lenAt s p.toNat) else ⟨#[]⟩
def nextI (s : ByteArray) (p : Int) : Int := if nextB s p = true then p + 4 + (lenAt s p.toNat : Int) else 0
def nextE (s : ByteArray) (p : Int) : Int := if nextB s p = true then 0 else if 0 ≤ p then 2 else 1

theorem nextB_no {s : ByteArray} {p : Int} (h : ¬ (0 ≤ p ∧ p + 4 + (lenAt s p.toNat : Int) ≤ s.size)) : ¬ nextB s p = true := by simpa [nextB] using h
theorem nextB_yes {s : ByteArray} {p : Int} (h : 0 ≤ p ∧ p + 4 + (lenAt s p.toNat : Int) ≤ s.size) : nextB s p = true := by simpa [nextB] using h

theorem next_all (s : ByteArray) (p : Int) (w : World) (hp2 : p ≤ 9223372036854775807) (hs : s.size ≤ 9223372036854775807) :
    Calls Tryd.prog 73 #[.string s, .int .i64 p] w fun e w' => e = .returned (.tuple #[.string (nextS s p), .int .i64 (nextI s p), .int .i64 (nextE s p)]) ∧ w = w' := by
  by_cases hp : p < 0
  · have hn := nextB_no (s := s) (p := p) (by omega)
    exact (next_neg s p w hp).mono fun _ _ ⟨he, hb⟩ => ⟨by rw [he, nextS, nextI, nextE, if_neg hn, if_neg hn, if_neg hn, if_neg (by omega)], hb⟩
  · by_cases h : (s.size : Int) - p < 4
    · have hn := nextB_no (s := s) (p := p) (by omega)
      exact (next_short s p w (by omega) hp2 hs h).mono fun _ _ ⟨he, hb⟩ => ⟨by rw [he, nextS, nextI, nextE, if_neg hn, if_neg hn, if_neg hn, if_pos (by omega)], hb⟩
    · obtain ⟨a, rfl⟩ := Int.eq_ofNat_of_zero_le (show 0 ≤ p by omega)
      by_cases h2 : a + 4 + lenAt s a ≤ s.size
      · have hn := nextB_yes (s := s) (p := (a : Int)) (by rw [Int.toNat_natCast]; omega)
        exact (next_ok s a w hs h2).mono fun _ _ ⟨he, hb⟩ => ⟨by rw [he, nextS, nextI, nextE, if_pos hn, if_pos hn, if_pos hn, Int.toNat_natCast, Int.natCast_add, Int.natCast_add]; rfl, hb⟩
      · have hn := nextB_no (s := s) (p := (a : Int)) (by rw [Int.toNat_natCast]; omega)
        exact (next_cut s a w hs (by omega) (by omega)).mono fun _ _ ⟨he, hb⟩ => ⟨by rw [he, nextS, nextI, nextE, if_neg hn, if_neg hn, if_neg hn, if_pos (by omega)], hb⟩

theorem rnext_all (s : ByteArray) (p : Int) (w : World) (hp2 : p ≤ 9223372036854775807) (hs : s.size ≤ 9223372036854775807) :
    Calls Tryd.prog 82 #[.string s, .int .i64 p] w fun e w' => e = .returned (.tuple #[.string (nextS s p), .int .i64 (nextI s p), .int .i64 (nextE s p)]) ∧ w = w' := by
  by_cases hp : p < 0
  · have hn := nextB_no (s := s) (p := p) (by omega)
    exact (rnext_neg s p w hp).mono fun _ _ ⟨he, hb⟩ => ⟨by rw [he, nextS, nextI, nextE, if_neg hn, if_neg hn, if_neg hn, if_neg (by omega)], hb⟩
  · by_cases h : (s.size : Int) - p < 4
    · have hn := nextB_no (s := s) (p := p) (by omega)
      exact (rnext_short s p w (by omega) hp2 hs h).mono fun _ _ ⟨he, hb⟩ => ⟨by rw [he, nextS, nextI, nextE, if_neg hn, if_neg hn, if_neg hn, if_pos (by omega)], hb⟩
    · obtain ⟨a, rfl⟩ := Int.eq_ofNat_of_zero_le (show 0 ≤ p by omega)
      by_cases h2 : a + 4 + lenAt s a ≤ s.size
      · have hn := nextB_yes (s := s) (p := (a : Int)) (by rw [Int.toNat_natCast]; omega)
        exact (rnext_ok s a w hs h2).mono fun _ _ ⟨he, hb⟩ => ⟨by rw [he, nextS, nextI, nextE, if_pos hn, if_pos hn, if_pos hn, Int.toNat_natCast, Int.natCast_add, Int.natCast_add]; rfl, hb⟩
      · have hn := nextB_no (s := s) (p := (a : Int)) (by rw [Int.toNat_natCast]; omega)
        exact (rnext_cut s a w hs (by omega) (by omega)).mono fun _ _ ⟨he, hb⟩ => ⟨by rw [he, nextS, nextI, nextE, if_neg hn, if_neg hn, if_neg hn, if_pos (by omega)], hb⟩

end Go.Proofs.YtmloljfnnkfkjaaDoor

namespace Go.Proofs.YtmloljfnnkfkjaaDoor.Im
open Go.RowKit Dk In

/-- A reader: how its place and whether the text was too short lie in memory; the blocks that its calls turn; all its blocks lie below N. -/
structure Rdr where
  St : World → Nat → Bool → Prop
  F : Nat → Prop
  N : Nat
  keep : ∀ W W' k b, St W k b → W.heap.size ≤ W'.heap.size → (∀ i, i < N → W'.heap[i]? = W.heap[i]?) → St W' k b
  lt : ∀ i, F i → i < N
  size : ∀ W k b, St W k b → N ≤ W.heap.size
variable {Q : Rdr} {s : List UInt8} {α β : Type}
theorem Rdr.later {W W' : World} {k : Nat} {b : Bool} (h : Q.St W k b) (hb : Below W.heap.size W W') : Q.St W' k b :=
  Q.keep W W' k b h hb.size (fun i hi => hb.block i (Nat.lt_of_lt_of_le hi (Q.size W k b h)))

/-- How a value stands for what was read: its blocks are of X. -/
abbrev Rep (α : Type) := (Nat → Prop) → World → Value → α → Prop
/-- What a call of a reader leaves. -/
structure RdOk (Q : Rdr) (s : List UInt8) (r : Rd α) (R : Rep α) (W : World) (k : Nat) (b : Bool) (e : Ending) (W' : World) (v : Value) (x : α) (k' : Nat) (b' : Bool) : Prop where
  ret : e = .returned v
  rep : R (fun g => W.heap.size ≤ g) W' v x
  out : Out r s k b x k' b'
  st : Q.St W' k' b'
  only : Only Q.F W W'
def RdAny (Q : Rdr) (s : List UInt8) (r : Rd α) (R : Rep α) (W : World) (k : Nat) (b : Bool) (e : Ending) (W' : World) : Prop := ∃ v x k' b', RdOk Q s r R W k b e W' v x k' b'
def intR : Rep Int := fun _ _ v n => v = .int .i64 n
def strR : Rep (List UInt8) := fun _ _ v l => v = .string (strOf l)
def elR {α : Type} (c : α → List Value) : Rep α := fun _ _ v x => v = .agg (c x).toArray
def rowR {α : Type} (c : α → List Value) : Rep (List α) := fun X W v l => Rw c X W v l
def prR : Rep Pr := fun X W v p => ∃ cs, v = .agg cs.toArray ∧ PC X W cs p
/-! blocks of a call's own, beside a reader -/
structure EB (W : World) (b : Nat) (cs : List Value) : Prop where
  cells : W.rangeAt b 0 cs
  room : W.there b 0 cs.length
  lt : b < W.heap.size
theorem EB.of_block {W W' : World} {b : Nat} {cs : List Value} (h : EB W b cs) (hb : W'.heap[b]? = W.heap[b]?) (hs : W.heap.size ≤ W'.heap.size) : EB W' b cs := ⟨rangeAt_block h.cells hb, there_block h.room hb, Nat.lt_of_lt_of_le h.lt hs⟩
theorem EB.at {W : World} {b : Nat} {cs : List Value} (h : EB W b cs) (i : Nat) (u : Value) (hu : cs[i]? = some u) : W.cell? ⟨b, i, none⟩ = some u := by have := h.cells i u hu; rwa [Nat.zero_add] at this
theorem EB.free {W : World} {b : Nat} {cs : List Value} (h : EB W b cs) (i : Nat) (hi : i < cs.length) : W.frozen? ⟨b, i, none⟩ = false := by have := (h.room i hi).2; rwa [Nat.zero_add] at this
theorem eb_new (W : World) (cs : List Value) (t : TypeId) : EB (W.alloc (.cells cs.toArray t)) W.heap.size cs := ⟨range_new W cs t, there_new W cs.toArray t, by simp⟩
theorem EB.set {W : World} {b : Nat} {cs : List Value} (h : EB W b cs) (cs' : List Value) (hl : cs'.length = cs.length) : EB (W.setCells b 0 cs') b cs' := by
  have hr : W.there b 0 cs'.length := by rw [hl]; exact h.room
  exact ⟨World.rangeAt_setCells_same W b 0 cs' hr, World.there_setCells hr _ _ _, by rw [Dk.size_setCells]; exact h.lt⟩
theorem EB.setOne {W : World} {b : Nat} {cs : List Value} (h : EB W b cs) (j : Nat) (v : Value) (hj : j < cs.length) : EB (W.setCell ⟨b, j, none⟩ v) b (cs.set j v) := by
  have hc := h.at j cs[j] (List.getElem?_eq_getElem hj)
  refine ⟨fun i u hu => ?_, fun i hi => ?_, by simpa using h.lt⟩
  · rw [Nat.zero_add]
    by_cases e : i = j
    · subst e
      rw [List.getElem?_set_self hj] at hu
      rw [World.cell?_setCell_same _ _ _ hc]
      exact hu
    · rw [List.getElem?_set_ne (Ne.symm e)] at hu
      rw [World.cell?_setCell_other _ _ _ _ (by intro e'; simp at e'; first | done | exact e e'.symm | exact e e')]
      exact h.at i u hu
  · rw [List.length_set] at hi
    have h1 := h.room i hi
    rw [Nat.zero_add] at h1 ⊢
    refine ⟨?_, by simpa using h1.2⟩
    by_cases e : i = j
    · subst e; rw [World.cell?_setCell_same _ _ _ hc]; rfl
    · rw [World.cell?_setCell_other _ _ _ _ (by intro e'; simp at e'; first | done | exact e e'.symm | exact e e')]; exact h1.1

/-- Since w: the reader stands at k; the blocks of L, made since, hold what L says; all else below is as it was. -/
structure RW (Q : Rdr) (s : List UInt8) (w W : World) (L : List (Nat × List Value)) (k : Nat) (b : Bool) : Prop where
  st : Q.St W k b
  le : k ≤ s.length
  only : Only Q.F w W
  low : Q.N ≤ w.heap.size
  own : ∀ x ∈ L, EB W x.1 x.2 ∧ w.heap.size ≤ x.1
  nd : (L.map (·.1)).Nodup
variable {w W W' : World} {L : List (Nat × List Value)} {k k' : Nat} {b b' : Bool}
theorem RW.new (h : Q.St w k b) (hk : k ≤ s.length) : RW Q s w w [] k b := ⟨h, hk, Only.refl _ _, Q.size _ _ _ h, (fun x hx => by cases hx), List.nodup_nil⟩
theorem RW.below (h : RW Q s w W L k b) (hb : Below W.heap.size W W') : RW Q s w W' L k b :=
  ⟨Q.later h.st hb, h.le, h.only.trans (Only.of_below (F := Q.F) hb) (fun _ _ h => h), h.low, fun x hx => ⟨(h.own x hx).1.of_block (hb.block _ (h.own x hx).1.lt) hb.size, (h.own x hx).2⟩, h.nd⟩
theorem RW.drew (h : RW Q s w W L k b) : RW Q s w W.drew L k b := h.below ((Below.refl _ _).drew)
theorem RW.alloc (h : RW Q s w W L k b) (cs : List Value) (t : TypeId) : RW Q s w (W.alloc (.cells cs.toArray t)) ((W.heap.size, cs) :: L) k b := by
  have h1 := h.below (W' := W.alloc (.cells cs.toArray t)) ((Below.refl _ _).alloc (Nat.le_refl _) _)
  refine ⟨h1.st, h1.le, h1.only, h1.low, fun x hx => ?_, ?_⟩
  · rcases List.mem_cons.1 hx with rfl | hx
    · exact ⟨eb_new W cs t, h.only.size⟩
    · exact h1.own x hx
  · rw [List.map_cons, List.nodup_cons]
    refine ⟨fun hm => ?_, h.nd⟩
    obtain ⟨x, hx, e⟩ := List.mem_map.1 hm
    have := (h.own x hx).1.lt
    simp only at e
    omega
theorem RW.call (h : RW Q s w W L k b) (hst : Q.St W' k' b') (hk : k' ≤ s.length) (ho : Only Q.F W W') : RW Q s w W' L k' b' :=
  ⟨hst, hk, h.only.trans ho (fun _ _ h => h), h.low, fun x hx => ⟨(h.own x hx).1.of_block (ho.block _ (h.own x hx).1.lt (fun hf => by
    have h1 := Q.lt _ hf
    have h2 := (h.own x hx).2
    have h3 := h.low
    omega)) ho.size, (h.own x hx).2⟩, h.nd⟩
theorem RW.ok {r : Rd α} {R : Rep α} {e : Ending} {v : Value} {x : α} (h : RW Q s w W L k b) (ho : RdOk Q s r R W k b e W' v x k' b') : RW Q s w W' L k' b' := h.call ho.st ho.out.le ho.only
theorem RW.tail {x : Nat × List Value} (h : RW Q s w W (x :: L) k b) : RW Q s w W L k b := ⟨h.st, h.le, h.only, h.low, fun y hy => h.own y (List.mem_cons_of_mem _ hy), (List.nodup_cons.1 h.nd).2⟩
theorem RW.swap {x y : Nat × List Value} (h : RW Q s w W (x :: y :: L) k b) : RW Q s w W (y :: x :: L) k b := by
  refine ⟨h.st, h.le, h.only, h.low, fun z hz => h.own z ?_, ?_⟩
  · simp only [List.mem_cons] at hz ⊢; rcases hz with h | h | h <;> simp [h]
  · have := h.nd
    simp only [List.map_cons, List.nodup_cons, List.mem_cons] at this ⊢
    obtain ⟨h1, h2, h3⟩ := this
    refine ⟨?_, ?_, h3⟩
    · rintro (e | e)
      · exact h1 (.inl e.symm)
      · exact h2 e
    · exact fun e => h1 (.inr e)
theorem RW.put_aux {g : Nat} {c c' : List Value} (h : RW Q s w W ((g, c) :: L) k b) (hE : EB W' g c') (hs : W'.heap.size = W.heap.size) (hh : ∀ i, i ≠ g → W'.heap[i]? = W.heap[i]?) (hO : Only (fun i => i = g) W W') : RW Q s w W' ((g, c') :: L) k b := by
  have hg := h.own (g, c) (List.mem_cons_self ..)
  have hlow := h.low
  have hgl : w.heap.size ≤ g := hg.2
  refine ⟨Q.keep _ _ _ _ h.st (by omega) (fun i hi => hh i (by omega)), h.le, ?_, h.low, fun x hx => ?_, h.nd⟩
  · have hw := h.only.size
    exact ⟨hO.os.trans h.only.os, hO.tape.trans h.only.tape, hO.output.trans h.only.output, by omega, fun i hi hf => (hh i (by omega)).trans (h.only.block i hi hf)⟩
  · rcases List.mem_cons.1 hx with rfl | hx
    · exact ⟨hE, hgl⟩
    · have h1 := h.own x (List.mem_cons_of_mem _ hx)
      refine ⟨h1.1.of_block (hh _ (fun e => ?_)) (by omega), h1.2⟩
      have := (List.nodup_cons.1 h.nd).1
      exact this (List.mem_map.2 ⟨x, hx, e⟩)
/-- A block of its own is put anew, whole or a cell of it. -/
theorem RW.set {g : Nat} {c : List Value} (h : RW Q s w W ((g, c) :: L) k b) (c' : List Value) (hl : c'.length = c.length) : RW Q s w (W.setCells g 0 c') ((g, c') :: L) k b :=
  h.put_aux ((h.own _ (List.mem_cons_self ..)).1.set c' hl) (Dk.size_setCells _ _ _ _) (fun i hi => Dk.block_setCells g i hi _ _ _) (Only.setCells (F := fun i => i = g) g rfl _ _ _ (Only.refl _ _))
theorem RW.setOne {g : Nat} {c : List Value} (h : RW Q s w W ((g, c) :: L) k b) (j : Nat) (v : Value) (hj : j < c.length) : RW Q s w (W.setCell ⟨g, j, none⟩ v) ((g, c.set j v) :: L) k b :=
  h.put_aux ((h.own _ (List.mem_cons_self ..)).1.setOne j v hj) (by simp) (fun i hi => Below.heap_setCell _ _ _ _ (by simpa using hi)) ((Only.refl (fun i => i = g) W).setCell ⟨g, j, none⟩ rfl v)
theorem RW.at {x : Nat × List Value} (h : RW Q s w W L k b) (hx : x ∈ L) (i : Nat) (u : Value) (hu : x.2[i]? = some u) : W.cell? ⟨x.1, i, none⟩ = some u := (h.own x hx).1.at i u hu
end Go.Proofs.YtmloljfnnkfkjaaDoor.Im

