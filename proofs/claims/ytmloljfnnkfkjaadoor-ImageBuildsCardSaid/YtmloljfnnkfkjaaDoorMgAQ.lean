/- Readers in memory: what a call of a reader leaves, and the blocks of a call's own. The program's reader: the walks of its closures: their contracts. No condition but those that each states. -/
import Derived.Test.YtmloljfnnkfkjaaDoorMgAO
import Derived.Test.YtmloljfnnkfkjaaDoorMgAP
namespace Go.Proofs.YtmloljfnnkfkjaaDoor.Im
open Go.RowKit Dk In

/-- A reader: how its place and whether the text was too short lie in memory; the blocks that its calls turn; all its blocks lie below N. -/
structure Rdr where
  St : World → Nat → Bool → Prop
  F : Nat → Prop
  N : Nat
  keep : ∀ W W' k b, St W k b → W.heap.size ≤ W'.heap.size → (∀ i, i < N → W'.heap[i]? = W.heap[i]?) → St W' k b
  lt : ∀ i, F i → i < N
  size : ∀ W k b, St W k b → N ≤ W.heap.size
variable {Q : Rdr} {s : List UInt8} {α β : Type}
theorem Rdr.later {W W' : World} {k : Nat} {b : Bool} (h : Q.St W k b) (hb : Below W.heap.size W W') : Q.St W' k b :=
  Q.keep W W' k b h hb.size (fun i hi => hb.block i (Nat.lt_of_lt_of_le hi (Q.size W k b h)))

/-- How a value stands for what was read: its blocks are of X. -/
abbrev Rep (α : Type) := (Nat → Prop) → World → Value → α → Prop
/-- What a call of a reader leaves. -/
structure RdOk (Q : Rdr) (s : List UInt8) (r : Rd α) (R : Rep α) (W : World) (k : Nat) (b : Bool) (e : Ending) (W' : World) (v : Value) (x : α) (k' : Nat) (b' : Bool) : Prop where
  ret : e = .returned v
  rep : R (fun g => W.heap.size ≤ g) W' v x
  out : Out r s k b x k' b'
  st : Q.St W' k' b'
  only : Only Q.F W W'
def RdAny (Q : Rdr) (s : List UInt8) (r : Rd α) (R : Rep α) (W : World) (k : Nat) (b : Bool) (e : Ending) (W' : World) : Prop := ∃ v x k' b', RdOk Q s r R W k b e W' v x k' b'
def intR : Rep Int := fun _ _ v n => v = .int .i64 n
def strR : Rep (List UInt8) := fun _ _ v l => v = .string (strOf l)
def elR {α : Type} (c : α → List Value) : Rep α := fun _ _ v x => v = .agg (c x).toArray
def rowR {α : Type} (c : α → List Value) : Rep (List α) := fun X W v l => Rw c X W v l
def prR : Rep Pr := fun X W v p => ∃ cs, v = .agg cs.toArray ∧ PC X W cs p
def prsR : Rep (List Pr) := fun X W v l => PRow X W v l
def unR : Rep Un := fun X W v u => ∃ cs, v = .agg cs.toArray ∧ UC X W cs u

/-! blocks of a call's own, beside a reader -/
structure EB (W : World) (b : Nat) (cs : List Value) : Prop where
  cells : W.rangeAt b 0 cs
  room : W.there b 0 cs.length
  lt : b < W.heap.size
theorem EB.of_block {W W' : World} {b : Nat} {cs : List Value} (h : EB W b cs) (hb : W'.heap[b]? = W.heap[b]?) (hs : W.heap.size ≤ W'.heap.size) : EB W' b cs := ⟨rangeAt_block h.cells hb, there_block h.room hb, Nat.lt_of_lt_of_le h.lt hs⟩
theorem EB.at {W : World} {b : Nat} {cs : List Value} (h : EB W b cs) (i : Nat) (u : Value) (hu : cs[i]? = some u) : W.cell? ⟨b, i, none⟩ = some u := by have := h.cells i u hu; rwa [Nat.zero_add] at this
theorem EB.free {W : World} {b : Nat} {cs : List Value} (h : EB W b cs) (i : Nat) (hi : i < cs.length) : W.frozen? ⟨b, i, none⟩ = false := by have := (h.room i hi).2; rwa [Nat.zero_add] at this
theorem eb_new (W : World) (cs : List Value) (t : TypeId) : EB (W.alloc (.cells cs.toArray t)) W.heap.size cs := ⟨range_new W cs t, there_new W cs.toArray t, by simp⟩
theorem EB.set {W : World} {b : Nat} {cs : List Value} (h : EB W b cs) (cs' : List Value) (hl : cs'.length = cs.length) : EB (W.setCells b 0 cs') b cs' := by
  have hr : W.there b 0 cs'.length := by rw [hl]; exact h.room
  exact ⟨World.rangeAt_setCells_same W b 0 cs' hr, World.there_setCells hr _ _ _, by rw [Dk.size_setCells]; exact h.lt⟩
theorem EB.setOne {W : World} {b : Nat} {cs : List Value} (h : EB W b cs) (j : Nat) (v : Value) (hj : j < cs.length) : EB (W.setCell ⟨b, j, none⟩ v) b (cs.set j v) := by
  have hc := h.at j cs[j] (List.getElem?_eq_getElem hj)
  refine ⟨fun i u hu => ?_, fun i hi => ?_, by simpa using h.lt⟩
  · rw [Nat.zero_add]
    by_cases e : i = j
    · subst e
      rw [List.getElem?_set_self hj] at hu
      rw [World.cell?_setCell_same _ _ _ hc]
      exact hu
    · rw [List.getElem?_set_ne (Ne.symm e)] at hu
      rw [World.cell?_setCell_other _ _ _ _ (by intro e'; simp at e'; first | done | exact e e'.symm | exact e e')]
      exact h.at i u hu
  · rw [List.length_set] at hi
    have h1 := h.room i hi
    rw [Nat.zero_add] at h1 ⊢
    refine ⟨?_, by simpa using h1.2⟩
    by_cases e : i = j
    · subst e; rw [World.cell?_setCell_same _ _ _ hc]; rfl
    · rw [World.cell?_setCell_other _ _ _ _ (by intro e'; simp at e'; first | done | exact e e'.symm | exact e e')]; exact h1.1

/-- Since w: the reader stands at k; the blocks of L, made since, hold what L says; all else below is as it was. -/
structure RW (Q : Rdr) (s : List UInt8) (w W : World) (L : List (Nat × List Value)) (k : Nat) (b : Bool) : Prop where
  st : Q.St W k b
  le : k ≤ s.length
  only : Only Q.F w W
  low : Q.N ≤ w.heap.size
  own : ∀ x ∈ L, EB W x.1 x.2 ∧ w.heap.size ≤ x.1
  nd : (L.map (·.1)).Nodup
variable {w W W' : World} {L : List (Nat × List Value)} {k k' : Nat} {b b' : Bool}
theorem RW.new (h : Q.St w k b) (hk : k ≤ s.length) : RW Q s w w [] k b := ⟨h, hk, Only.refl _ _, Q.size _ _ _ h, (fun x hx => by cases hx), List.nodup_nil⟩
theorem RW.below (h : RW Q s w W L k b) (hb : Below W.heap.size W W') : RW Q s w W' L k b :=
  ⟨Q.later h.st hb, h.le, h.only.trans (Only.of_below (F := Q.F) hb) (fun _ _ h => h), h.low, fun x hx => ⟨(h.own x hx).1.of_block (hb.block _ (h.own x hx).1.lt) hb.size, (h.own x hx).2⟩, h.nd⟩
theorem RW.drew (h : RW Q s w W L k b) : RW Q s w W.drew L k b := h.below ((Below.refl _ _).drew)
theorem RW.alloc (h : RW Q s w W L k b) (cs : List Value) (t : TypeId) : RW Q s w (W.alloc (.cells cs.toArray t)) ((W.heap.size, cs) :: L) k b := by
  have h1 := h.below (W' := W.alloc (.cells cs.toArray t)) ((Below.refl _ _).alloc (Nat.le_refl _) _)
  refine ⟨h1.st, h1.le, h1.only, h1.low, fun x hx => ?_, ?_⟩
  · rcases List.mem_cons.1 hx with rfl | hx
    · exact ⟨eb_new W cs t, h.only.size⟩
    · exact h1.own x hx
  · rw [List.map_cons, List.nodup_cons]
    refine ⟨fun hm => ?_, h.nd⟩
    obtain ⟨x, hx, e⟩ := List.mem_map.1 hm
    have := (h.own x hx).1.lt
    simp only at e
    omega
theorem RW.call (h : RW Q s w W L k b) (hst : Q.St W' k' b') (hk : k' ≤ s.length) (ho : Only Q.F W W') : RW Q s w W' L k' b' :=
  ⟨hst, hk, h.only.trans ho (fun _ _ h => h), h.low, fun x hx => ⟨(h.own x hx).1.of_block (ho.block _ (h.own x hx).1.lt (fun hf => by
    have h1 := Q.lt _ hf
    have h2 := (h.own x hx).2
    have h3 := h.low
    omega)) ho.size, (h.own x hx).2⟩, h.nd⟩
theorem RW.ok {r : Rd α} {R : Rep α} {e : Ending} {v : Value} {x : α} (h : RW Q s w W L k b) (ho : RdOk Q s r R W k b e W' v x k' b') : RW Q s w W' L k' b' := h.call ho.st ho.out.le ho.only
theorem RW.tail {x : Nat × List Value} (h : RW Q s w W (x :: L) k b) : RW Q s w W L k b := ⟨h.st, h.le, h.only, h.low, fun y hy => h.own y (List.mem_cons_of_mem _ hy), (List.nodup_cons.1 h.nd).2⟩
theorem RW.swap {x y : Nat × List Value} (h : RW Q s w W (x :: y :: L) k b) : RW Q s w W (y :: x :: L) k b := by
  refine ⟨h.st, h.le, h.only, h.low, fun z hz => h.own z ?_, ?_⟩
  · simp only [List.mem_cons] at hz ⊢; rcases hz with h | h | h <;> simp [h]
  · have := h.nd
    simp only [List.map_cons, List.nodup_cons, List.mem_cons] at this ⊢
    obtain ⟨h1, h2, h3⟩ := this
    refine ⟨?_, ?_, h3⟩
    · rintro (e | e)
      · exact h1 (.inl e.symm)
      · exact h2 e
    · exact fun e => h1 (.inr e)
theorem RW.put_aux {g : Nat} {c c' : List Value} (h : RW Q s w W ((g, c) :: L) k b) (hE : EB W' g c') (hs : W'.heap.size = W.heap.size) (hh : ∀ i, i ≠ g → W'.heap[i]? = W.heap[i]?) (hO : Only (fun i => i = g) W W') : RW Q s w W' ((g, c') :: L) k b := by
  have hg := h.own (g, c) (List.mem_cons_self ..)
  have hlow := h.low
  have hgl : w.heap.size ≤ g := hg.2
  refine ⟨Q.keep _ _ _ _ h.st (by omega) (fun i hi => hh i (by omega)), h.le, ?_, h.low, fun x hx => ?_, h.nd⟩
  · have hw := h.only.size
    exact ⟨hO.os.trans h.only.os, hO.tape.trans h.only.tape, hO.output.trans h.only.output, by omega, fun i hi hf => (hh i (by omega)).trans (h.only.block i hi hf)⟩
  · rcases List.mem_cons.1 hx with rfl | hx
    · exact ⟨hE, hgl⟩
    · have h1 := h.own x (List.mem_cons_of_mem _ hx)
      refine ⟨h1.1.of_block (hh _ (fun e => ?_)) (by omega), h1.2⟩
      have := (List.nodup_cons.1 h.nd).1
      exact this (List.mem_map.2 ⟨x, hx, e⟩)
/-- A block of its own is put anew, whole or a cell of it. -/
theorem RW.set {g : Nat} {c : List Value} (h : RW Q s w W ((g, c) :: L) k b) (c' : List Value) (hl : c'.length = c.length) : RW Q s w (W.setCells g 0 c') ((g, c') :: L) k b :=
  h.put_aux ((h.own _ (List.mem_cons_self ..)).1.set c' hl) (Dk.size_setCells _ _ _ _) (fun i hi => Dk.block_setCells g i hi _ _ _) (Only.setCells (F := fun i => i = g) g rfl _ _ _ (Only.refl _ _))
theorem RW.setOne {g : Nat} {c : List Value} (h : RW Q s w W ((g, c) :: L) k b) (j : Nat) (v : Value) (hj : j < c.length) : RW Q s w (W.setCell ⟨g, j, none⟩ v) ((g, c.set j v) :: L) k b :=
  h.put_aux ((h.own _ (List.mem_cons_self ..)).1.setOne j v hj) (by simp) (fun i hi => Below.heap_setCell _ _ _ _ (by simpa using hi)) ((Only.refl (fun i => i = g) W).setCell ⟨g, j, none⟩ rfl v)
theorem RW.at {x : Nat × List Value} (h : RW Q s w W L k b) (hx : x ∈ L) (i : Nat) (u : Value) (hu : x.2[i]? = some u) : W.cell? ⟨x.1, i, none⟩ = some u := (h.own x hx).1.at i u hu
end Go.Proofs.YtmloljfnnkfkjaaDoor.Im

namespace Go.Proofs.YtmloljfnnkfkjaaDoor.Im
open Go.RowKit Dk In

/-- The blocks of the program's reader: the text, the place, whether it was too short, the function that moves on. -/
structure Rq where
  bs : Nat
  ba : Nat
  bh : Nat
  bv : Nat
abbrev ptr (b : Nat) : Value := .pointer (some ⟨b, 0, none⟩)
structure RD (s : List UInt8) (q : Rq) (N : Nat) (W : World) (k : Nat) (b : Bool) : Prop where
  cs : W.cell? ⟨q.bs, 0, none⟩ = some (.string (strOf s))
  ca : W.cell? ⟨q.ba, 0, none⟩ = some (.int .i64 (k : Int))
  ch : W.cell? ⟨q.bh, 0, none⟩ = some (.bool b)
  cv : W.cell? ⟨q.bv, 0, none⟩ = some (.func (.func 69) #[] #[ptr q.bh, ptr q.ba])
  fa : W.frozen? ⟨q.ba, 0, none⟩ = false
  fh : W.frozen? ⟨q.bh, 0, none⟩ = false
  apart : q.bs ≠ q.ba ∧ q.bs ≠ q.bh ∧ q.bv ≠ q.ba ∧ q.bv ≠ q.bh ∧ q.ba ≠ q.bh
  low : q.bs < N ∧ q.ba < N ∧ q.bh < N ∧ q.bv < N
  size : N ≤ W.heap.size
  len : s.length ≤ 1099511627776
def pRdr (s : List UInt8) (q : Rq) (N : Nat) (h : q.ba < N ∧ q.bh < N) : Rdr where
  St := RD s q N
  F := fun i => i = q.ba ∨ i = q.bh
  N := N
  keep := fun W W' k b hr hs hb => by
    obtain ⟨l1, l2, l3, l4⟩ := hr.low
    have e : ∀ i, i < N → W'.cell? ⟨i, 0, none⟩ = W.cell? ⟨i, 0, none⟩ := fun i hi => World.cell?_of_block (a := ⟨i, 0, none⟩) (hb i hi)
    have f : ∀ i, i < N → W'.frozen? ⟨i, 0, none⟩ = W.frozen? ⟨i, 0, none⟩ := fun i hi => World.frozen?_of_block (a := ⟨i, 0, none⟩) (hb i hi)
    exact ⟨(e _ l1).trans hr.cs, (e _ l2).trans hr.ca, (e _ l3).trans hr.ch, (e _ l4).trans hr.cv, (f _ l2).trans hr.fa, (f _ l3).trans hr.fh, hr.apart, hr.low, Nat.le_trans hr.size hs, hr.len⟩
  lt := fun i hi => by rcases hi with rfl | rfl; exact h.1; exact h.2
  size := fun W k b hr => hr.size

section
variable {s : List UInt8} {q : Rq} {N : Nat} {W : World} {k : Nat} {b : Bool}
theorem RD.setA (h : RD s q N W k b) (k' : Nat) : RD s q N (W.setCell ⟨q.ba, 0, none⟩ (.int .i64 (k' : Int))) k' b := by
  obtain ⟨a1, a2, a3, a4, a5⟩ := h.apart
  have o : ∀ i, i ≠ q.ba → (W.setCell ⟨q.ba, 0, none⟩ (.int .i64 (k' : Int))).cell? ⟨i, 0, none⟩ = W.cell? ⟨i, 0, none⟩ := fun i hi => World.cell?_setCell_other _ _ _ _ (by intro e; simp at e; first | done | exact hi e | exact hi e.symm)
  exact ⟨(o _ a1).trans h.cs, World.cell?_setCell_same _ _ _ h.ca, (o _ (Ne.symm a5)).trans h.ch, (o _ a3).trans h.cv, by simpa using h.fa, by simpa using h.fh, h.apart, h.low, by simpa using h.size, h.len⟩
theorem RD.setH (h : RD s q N W k b) : RD s q N (W.setCell ⟨q.bh, 0, none⟩ (.bool true)) k true := by
  obtain ⟨a1, a2, a3, a4, a5⟩ := h.apart
  have o : ∀ i, i ≠ q.bh → (W.setCell ⟨q.bh, 0, none⟩ (.bool true)).cell? ⟨i, 0, none⟩ = W.cell? ⟨i, 0, none⟩ := fun i hi => World.cell?_setCell_other _ _ _ _ (by intro e; simp at e; first | done | exact hi e | exact hi e.symm)
  exact ⟨(o _ a2).trans h.cs, (o _ a5).trans h.ca, World.cell?_setCell_same _ _ _ h.ch, (o _ a4).trans h.cv, by simpa using h.fa, by simpa using h.fh, h.apart, h.low, by simpa using h.size, h.len⟩
end

def rF (q : Rq) : Nat → Prop := fun i => i = q.ba ∨ i = q.bh
set_option maxHeartbeats 1000000 in
set_option maxRecDepth 100000 in
theorem adv_ok {s : List UInt8} {q : Rq} {N : Nat} {W : World} {k : Nat} {b : Bool} (h : RD s q N W k b) (k' : Nat) (er : Int) (he : er ≠ 2) :
    Calls Tryd.prog 69 #[.int .i64 (k' : Int), .int .i64 er, ptr q.bh, ptr q.ba] W fun e W' => e = .returned (.tuple #[]) ∧ RD s q N W' k' b ∧ Only (rF q) W W' := by
  have z0 : (er == 2) = false := by simp [he]
  have ca := h.ca
  have fa := h.fa
  have HF : Hid (RD s q N (W.setCell ⟨q.ba, 0, none⟩ (.int .i64 (k' : Int))) k' b) := Lib.hid (h.setA k')
  have HO : Hid (Only (rF q) W (W.setCell ⟨q.ba, 0, none⟩ (.int .i64 (k' : Int)))) := Lib.hid ((Only.refl _ _).setCell _ (.inl rfl) _)
  clear h he
  go_enter Tryd.func69, Tryd.ntmps69
  go_wp2
  go_end0
  exact ⟨rfl, HF.out, HO.out⟩
set_option maxHeartbeats 1000000 in
set_option maxRecDepth 100000 in
theorem adv_no {s : List UInt8} {q : Rq} {N : Nat} {W : World} {k : Nat} {b : Bool} (h : RD s q N W k b) (x : Int) :
    Calls Tryd.prog 69 #[.int .i64 x, .int .i64 2, ptr q.bh, ptr q.ba] W fun e W' => e = .returned (.tuple #[]) ∧ RD s q N W' k true ∧ Only (rF q) W W' := by
  have ch := h.ch
  have fh := h.fh
  have HF : Hid (RD s q N (W.setCell ⟨q.bh, 0, none⟩ (.bool true)) k true) := Lib.hid h.setH
  have HO : Hid (Only (rF q) W (W.setCell ⟨q.bh, 0, none⟩ (.bool true))) := Lib.hid ((Only.refl _ _).setCell _ (.inr rfl) _)
  clear h
  go_enter Tryd.func69, Tryd.ntmps69
  go_wp2
  (try simp only [Exit.inBlock, Exit.then])
  refine bodyPost_ret (results_none rfl _ _ _) rfl ?_
  exact ⟨rfl, HF.out, HO.out⟩
theorem enters_adv : Enters 69 := fun a W => by kernel_rfl
theorem str_list (s : List UInt8) : (strOf s).data.toList = s := rfl

set_option maxHeartbeats 2000000 in
set_option maxRecDepth 100000 in
/-- A number, as the reader reads it. -/
theorem numR_any {s : List UInt8} {q : Rq} {N : Nat} (hN : q.ba < N ∧ q.bh < N) (K : Nat) (hK : wideB (K : Int) = true) (W : World) (k : Nat) (b : Bool) (hk : k ≤ s.length) (h : RD s q N W k b) :
    Calls Tryd.prog 70 #[.int .i64 (K : Int), ptr q.bs, ptr q.ba, ptr q.bv] W (RdAny (pRdr s q N hN) s (rdN K) intR W k b) := by
  have hcall := enters_adv
  unfold Enters at hcall
  have hlen := h.len
  have hsz := strOf_size s
  have cs := h.cs
  have ca := h.ca
  have cv := h.cv
  have hK8 : K ≤ 8 := by rcases wide_cases hK with e | e | e | e <;> omega
  by_cases hf : k + K ≤ s.length
  · have GE0 := get_ok (strOf s) (k : Int) (K : Int) W hK (by omega) (by omega) (by omega)
    rw [Int.toNat_natCast, Int.toNat_natCast, str_list] at GE0
    have GE := Lib.hid GE0
    have AD := Lib.hid (adv_ok h (k + K) 0 (by decide))
    have y0 : IntKind.i64.wrap ((k : Int) + (K : Int)) = ((k + K : Nat) : Int) := by rw [IntWalk.i64_in _ (by omega)]; omega
    have HO : Hid (∀ b', (b = true → b' = true) → (b = false → b' = false) → Out (rdN K) s k b (getI ((s.drop k).take K)) (k + K) b') := Lib.hid (fun b' h1 h2 => ⟨hf, fun hb => .inl ⟨by
      unfold rdN
      rw [if_neg (by rw [List.length_drop]; omega), List.drop_drop], h2 hb⟩, h1⟩)
    generalize getI ((s.drop k).take K) = n at *
    generalize strOf s = ss at *
    clear GE0 h hK8 hf hK
    go_enter Tryd.func70, Tryd.ntmps70
    go_wp2_with fail
    refine GE.out.mono ?_
    rintro e W2 ⟨rfl, rfl⟩
    clear GE
    go_wp2_with fail
    refine AD.out.mono ?_
    rintro e W3 ⟨rfl, hr, ho⟩
    have HR := Lib.hid hr
    have HON := Lib.hid ho
    clear hr ho AD
    go_wp2
    go_ret
    exact ⟨_, n, k + K, b, rfl, rfl, HO.out b id id, HR.out, HON.out⟩
  · have GE0 := get_short (strOf s) (k : Int) (K : Int) W hK (by omega) (by omega) (by omega) (by omega)
    have GE := Lib.hid GE0
    have AD := Lib.hid (adv_no h (IntKind.i64.wrap ((k : Int) + (K : Int))))
    have HO : Hid (Out (rdN K) s k b 0 k true) := Lib.hid ⟨hk, fun hb => .inr ⟨by
      unfold rdN
      rw [if_pos (by rw [List.length_drop]; omega)], rfl⟩, fun _ => rfl⟩
    have y0 : IntKind.i64.wrap ((k : Int) + (K : Int)) = (k : Int) + (K : Int) := IntWalk.i64_in _ (by omega)
    rw [y0] at AD
    generalize strOf s = ss at *
    clear GE0 h hK8 hf hK
    go_enter Tryd.func70, Tryd.ntmps70
    go_wp2_with fail
    refine GE.out.mono ?_
    rintro e W2 ⟨rfl, rfl⟩
    clear GE
    go_wp2_with fail
    refine AD.out.mono ?_
    rintro e W3 ⟨rfl, hr, ho⟩
    have HR := Lib.hid hr
    have HON := Lib.hid ho
    clear hr ho AD
    go_wp2
    go_ret
    exact ⟨_, 0, k, true, rfl, rfl, HO.out, HR.out, HON.out⟩

set_option maxHeartbeats 2000000 in
set_option maxRecDepth 100000 in
/-- A text, as the reader reads it. -/
theorem textR_any {s : List UInt8} {q : Rq} {N : Nat} (hN : q.ba < N ∧ q.bh < N) (W : World) (k : Nat) (b : Bool) (hk : k ≤ s.length) (h : RD s q N W k b) :
    Calls Tryd.prog 72 #[ptr q.bs, ptr q.ba, ptr q.bv] W (RdAny (pRdr s q N hN) s rdT strR W k b) := by
  have hcall := enters_adv
  unfold Enters at hcall
  have hlen := h.len
  have hsz := strOf_size s
  have cs := h.cs
  have ca := h.ca
  have cv := h.cv
  have hla : lenAt (strOf s) k = Lib.leNat ((s.drop k).take 4) := rfl
  have NX0 := next_all (strOf s) (k : Int) W (by omega) (by omega)
  by_cases hf : k + 4 + Lib.leNat ((s.drop k).take 4) ≤ s.length
  · have hb1 : nextB (strOf s) (k : Int) = true := nextB_yes (by rw [Int.toNat_natCast, hla, hsz]; omega)
    have e1 : nextS (strOf s) (k : Int) = strOf (((s.drop k).drop 4).take (Lib.leNat ((s.drop k).take 4))) := by
      unfold nextS
      rw [if_pos hb1, Int.toNat_natCast, hla]
      apply ByteArray.ext
      apply Array.ext'
      rw [Lib.extract_data, str_list, List.drop_drop, Nat.add_sub_cancel_left]
      rfl
    have e2 : nextI (strOf s) (k : Int) = ((k + 4 + Lib.leNat ((s.drop k).take 4) : Nat) : Int) := by unfold nextI; rw [if_pos hb1, Int.toNat_natCast, hla]; omega
    have e3 : nextE (strOf s) (k : Int) = 0 := by unfold nextE; rw [if_pos hb1]
    rw [e1, e2, e3] at NX0
    have GE := Lib.hid NX0
    have AD := Lib.hid (adv_ok h (k + 4 + Lib.leNat ((s.drop k).take 4)) 0 (by decide))
    have HO : Hid (Out rdT s k b (((s.drop k).drop 4).take (Lib.leNat ((s.drop k).take 4))) (k + 4 + Lib.leNat ((s.drop k).take 4)) b) := Lib.hid ⟨hf, fun hb => .inl ⟨by
      unfold rdT
      rw [if_neg (by rw [List.length_drop]; omega), if_neg (by rw [List.length_drop]; omega), show (s.drop k).drop (4 + Lib.leNat ((s.drop k).take 4)) = s.drop (k + 4 + Lib.leNat ((s.drop k).take 4)) by rw [List.drop_drop, Nat.add_assoc]], hb⟩, fun hb => hb⟩
    generalize ((s.drop k).drop 4).take (Lib.leNat ((s.drop k).take 4)) = t at *
    generalize Lib.leNat ((s.drop k).take 4) = n at *
    have HT : Hid (strR (fun g => W.heap.size ≤ g) W (.string (strOf t)) t) := Lib.hid rfl
    obtain ⟨st, hst⟩ : ∃ st, st = strOf t := ⟨_, rfl⟩
    rw [← hst] at GE HT
    generalize strOf s = ss at *
    have HST := Lib.hid hst
    clear NX0 h hf e1 e2 e3 hla hb1 hst
    go_enter Tryd.func72, Tryd.ntmps72
    go_wp2_with fail
    refine GE.out.mono ?_
    rintro e W2 ⟨rfl, rfl⟩
    clear GE
    go_wp2_with fail
    refine AD.out.mono ?_
    rintro e W3 ⟨rfl, hr, ho⟩
    have HR := Lib.hid hr
    have HON := Lib.hid ho
    clear hr ho AD
    go_wp2
    go_ret
    exact ⟨_, t, k + 4 + n, b, rfl, by rw [HST.out]; rfl, HO.out, HR.out, HON.out⟩
  · have hb1 : ¬nextB (strOf s) (k : Int) = true := nextB_no (by rw [Int.toNat_natCast, hla, hsz]; omega)
    have e1 : nextS (strOf s) (k : Int) = ⟨#[]⟩ := by unfold nextS; rw [if_neg hb1]
    have e2 : nextI (strOf s) (k : Int) = 0 := by unfold nextI; rw [if_neg hb1]
    have e3 : nextE (strOf s) (k : Int) = 2 := by unfold nextE; rw [if_neg hb1, if_pos (by omega)]
    rw [e1, e2, e3] at NX0
    have GE := Lib.hid NX0
    have AD := Lib.hid (adv_no h 0)
    have HO : Hid (Out rdT s k b [] k true) := Lib.hid ⟨hk, fun hb => .inr ⟨by
      unfold rdT
      by_cases h4 : (s.drop k).length < 4
      · rw [if_pos h4]
      · rw [if_neg h4, if_pos (by rw [List.length_drop] at h4 ⊢; omega)], rfl⟩, fun _ => rfl⟩
    generalize strOf s = ss at *
    clear NX0 h hf e1 e2 e3 hla hb1
    go_enter Tryd.func72, Tryd.ntmps72
    go_wp2_with fail
    refine GE.out.mono ?_
    rintro e W2 ⟨rfl, rfl⟩
    clear GE
    go_wp2_with fail
    refine AD.out.mono ?_
    rintro e W3 ⟨rfl, hr, ho⟩
    have HR := Lib.hid hr
    have HON := Lib.hid ho
    clear hr ho AD
    go_wp2
    go_ret
    exact ⟨_, [], k, true, rfl, rfl, HO.out, HR.out, HON.out⟩

set_option maxHeartbeats 1000000 in
set_option maxRecDepth 100000 in
theorem shortR_any {s : List UInt8} {q : Rq} {N : Nat} (W : World) (k : Nat) (b : Bool) (h : RD s q N W k b) :
    Calls Tryd.prog 76 #[ptr q.bh] W fun e W' => e = .returned (.bool b) ∧ W = W' := by
  have ch := h.ch
  clear h
  go_enter Tryd.func76, Tryd.ntmps76
  go_wp2
  go_ret
  exact ⟨rfl, rfl⟩

/-- What the program reads of an instruction. -/
theorem parse_fix {l : List UInt8} {k : Nat} (h : k + 4 ≤ l.length) : ∃ er : Int, er ≠ 2 ∧ parseL l (k : Int) = (fixI (readL (l.drop k)), er) := by
  unfold parseL fixI
  rw [if_neg (by omega), if_neg (by omega), Int.toNat_natCast]
  by_cases hr : rightB (readL (l.drop k)) = true
  · rw [if_pos hr, if_pos hr]; exact ⟨0, by decide, rfl⟩
  · rw [if_neg hr, if_neg hr]; exact ⟨4, by decide, rfl⟩

end Go.Proofs.YtmloljfnnkfkjaaDoor.Im

