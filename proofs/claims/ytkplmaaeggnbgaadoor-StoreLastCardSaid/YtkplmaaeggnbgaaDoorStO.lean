/- A script of chrysalislaw07, as it was read; an operation in a block of its own. No condition but those that each states. -/
import Derived.Test.YtkplmaaeggnbgaaDoorStY
import Derived.Test.YtkplmaaeggnbgaaDoorRgEn
import Derived.ChangeSlices
import Derived.Deep.Slices
import Derived.Deep.Fields
import Derived.ChangeSame
namespace Go.Proofs.YtkplmaaeggnbgaaDoor.St
open Go.RowKit Dk Rg Sl

/-- An operation of a script, as its cells hold it. -/
structure OpT where
  kind : Int
  s : ByteArray
  i : Int
  mask : Nat

def OpT.cells (o : OpT) : List Value := [.int .i64 o.kind, .string o.s, .int .i64 o.i, .int .u64 (o.mask : Int)]

structure OpT.Ok (o : OpT) : Prop where
  kind : (Lit.int .i64 o.kind).wf = true
  i : (Lit.int .i64 o.i).wf = true
  mask : o.mask < 2 ^ 64

theorem ot_one (o : OpT) : ∀ u ∈ o.cells, u.oneCell' = true := by
  intro u hu
  simp [OpT.cells] at hu
  rcases hu with rfl | rfl | rfl | rfl <;> rfl
theorem ot_info (o : OpT) : (Tryd.prog.info? 79).map (·.size) = some o.cells.length := by kernel_rfl
theorem ot_infoA (o : OpT) : (Tryd.prog.info? 79).map (·.size) = some o.cells.toArray.size := ot_info o
theorem ot_all (o : OpT) : o.cells.toArray.all (·.oneCell') = true := all_oneCell_toArray (ot_one o)

/-- An operation lies in block B. -/
structure OT (W : World) (B : Nat) (o : OpT) : Prop where
  cells : W.rangeAt B 0 o.cells
  lt : B < W.heap.size
section
variable {W W' : World} {B : Nat} {o : OpT}
theorem OT.of_block (h : OT W B o) (hb : W'.heap[B]? = W.heap[B]?) (hs : W.heap.size ≤ W'.heap.size) : OT W' B o := ⟨rangeAt_block h.cells hb, Nat.lt_of_lt_of_le h.lt hs⟩
theorem OT.later (h : OT W B o) (k : Below W.heap.size W W') : OT W' B o := h.of_block (k.block B h.lt) k.size
theorem OT.only {G : Nat → Prop} (h : OT W B o) (k : Only G W W') (hG : ¬G B) : OT W' B o := h.of_block (k.block B h.lt hG) k.size
theorem OT.c0 (h : OT W B o) : W.cell? ⟨B, 0, none⟩ = some (.int .i64 o.kind) := by have := h.cells 0 _ rfl; rwa [Nat.zero_add] at this
theorem OT.c1 (h : OT W B o) : W.cell? ⟨B, 1, none⟩ = some (.string o.s) := by have := h.cells 1 _ rfl; rwa [Nat.zero_add] at this
theorem OT.c2 (h : OT W B o) : W.cell? ⟨B, 2, none⟩ = some (.int .i64 o.i) := by have := h.cells 2 _ rfl; rwa [Nat.zero_add] at this
theorem OT.c3 (h : OT W B o) : W.cell? ⟨B, 3, none⟩ = some (.int .u64 (o.mask : Int)) := by have := h.cells 3 _ rfl; rwa [Nat.zero_add] at this
end

/-- A new block of an operation that is none, into which one is stored. -/
theorem ot_room (W : World) : (W.alloc (.cells #[.int .i64 0, .string ⟨#[]⟩, .int .i64 0, .int .u64 0] 79)).there W.heap.size 0 4 := there_new W _ _
theorem ot_put (W : World) (o : OpT) : OT ((W.alloc (.cells #[.int .i64 0, .string ⟨#[]⟩, .int .i64 0, .int .u64 0] 79)).setCells W.heap.size 0 o.cells.toArray.toList) W.heap.size o ∧
    Below W.heap.size W ((W.alloc (.cells #[.int .i64 0, .string ⟨#[]⟩, .int .i64 0, .int .u64 0] 79)).setCells W.heap.size 0 o.cells.toArray.toList) :=
  ⟨⟨World.rangeAt_setCells_same _ _ _ o.cells (ot_room W), by rw [Dk.size_setCells]; simp⟩, below_setCells (Below.refl _ _) _ (Nat.le_refl _) _ _ _ ((Below.refl _ _).alloc (Nat.le_refl _) _)⟩

section
variable {H : Type} {enc : TypeId × Value → H}
open Go.ChangeShapes Go.WideShapes Go.Deep

set_option maxRecDepth 100000 in
/-- One operation, as it was read. -/
theorem open_opt {w : World} {n : Nat} {cs : List Value} {x : DataW H × List MemPlace}
    (h : DataW.trod enc Tryd.prog w 0 (fun _ => true) true n 79 cs = some x) : ∃ o : OpT, o.Ok ∧ cs = o.cells := by
  obtain ⟨hlen, key⟩ := field_of Tryd.underlying79 (by kernel_rfl) (by kernel_rfl) h
  match cs, hlen with
  | [c0, c1, c2, c3], _ =>
    obtain ⟨m0, y0, h0⟩ := key 0 3 c0 (by simp) rfl
    obtain ⟨m1, y1, h1⟩ := key 1 9 c1 (by simp) rfl
    obtain ⟨m2, y2, h2⟩ := key 2 3 c2 (by simp) rfl
    obtain ⟨m3, y3, h3⟩ := key 3 44 c3 (by simp) rfl
    obtain ⟨n0, e0, _, w0⟩ := DataW.trod_int Tryd.underlying3 h0
    obtain ⟨s, e1, _, w1⟩ := DataW.trod_string Tryd.underlying9 h1
    obtain ⟨n2, e2, _, w2⟩ := DataW.trod_int Tryd.underlying3 h2
    obtain ⟨n3, e3, _, w3⟩ := DataW.trod_int Tryd.underlying44 h3
    obtain ⟨m, rfl, u3⟩ := u64_nat w3
    cases e0; cases e1; cases e2; cases e3
    exact ⟨⟨n0, s, n2, m⟩, ⟨w0, w2, u3⟩, rfl⟩

set_option maxRecDepth 100000 in
/-- A slice of operations, as it was read: none, or a row of them. -/
theorem open_opts {w : World} {b0 : Nat} {v : Value} {d : DataW H} {p : List MemPlace}
    (hv : Value.okWide Tryd.prog w .any b0 74 v) (h : DataW.Trod enc Tryd.prog w 0 (fun _ => true) true 74 v d p) :
    ∃ pa len cap, v = .slice pa len cap ∧ len ≤ maxLen ∧ ∀ j, j < len → ∃ (b off : Nat) (o : OpT), pa = some ⟨b, off, none⟩ ∧ b < w.heap.size ∧ o.Ok ∧ w.rangeAt b (off + j * 4) o.cells := by
  have hlt : ∀ x ∈ p, x.block < w.heap.size := by obtain ⟨n, hn⟩ := h; exact DataW.trod_lt n _ _ _ hn
  obtain ⟨a0, len, cap, rfl⟩ := WideShapes.okWide_slice Tryd.underlying74 hv
  obtain ⟨fuel, hf⟩ := h
  have hC : Tryd.prog.cellsOf 79 = 4 := by kernel_rfl
  rcases open_slice Tryd.underlying74 hf with ⟨hcs, hx⟩ | ⟨a, len', cap', m, n, D, Pl, hcs, _, hl, hmx, hm, hx, hi⟩
  · simp [Value.cells] at hcs
    obtain ⟨rfl, rfl, rfl⟩ := hcs
    exact ⟨_, 0, _, rfl, Nat.zero_le _, fun j hj => absurd hj (Nat.not_lt_zero j)⟩
  · simp [Value.cells] at hcs
    obtain ⟨rfl, rfl, rfl⟩ := hcs
    simp only [Prod.mk.injEq] at hx
    simp only [if_true] at hm
    by_cases hl0 : len = 0
    · subst hl0
      exact ⟨_, 0, _, rfl, Nat.zero_le _, fun j hj => absurd hj (Nat.not_lt_zero j)⟩
    · rw [hC] at hx hi
      obtain ⟨b, off, spot⟩ := a
      obtain ⟨cs0, hc0, _⟩ := hi 0 (by omega)
      obtain ⟨_, hlen0, hat0⟩ := World.cells?_some hc0
      have hspot : spot = none := by
        have h0 := hat0 0 (by decide)
        rw [List.getElem?_eq_getElem (by omega)] at h0
        simpa [Addr.add] using World.cell?_spot h0
      subst hspot
      have hbW : b < w.heap.size := hlt (.cell b off) (by rw [hx.2]; exact List.mem_append_left _ (MemPlace.mem_row.2 ⟨0, by omega, by simp⟩))
      refine ⟨_, len, cap, rfl, Nat.le_trans hl hmx, fun j hj => ?_⟩
      obtain ⟨cs, hc, ht⟩ := hi j (by omega)
      obtain ⟨o, ho, rfl⟩ := open_opt ht
      obtain ⟨_, hlen, hat⟩ := World.cells?_some hc
      refine ⟨b, off, o, rfl, hbW, ho, fun q u hu => ?_⟩
      have hq : q < 4 := by have := (List.getElem?_eq_some_iff.1 hu).1; omega
      have := hat q hq
      rw [hu] at this
      rw [WideShapes.add_plain, WideShapes.add_plain] at this
      exact this
end

/-- A store and its disk, beside an operation that was loaded. -/
theorem Sto.withOp {w0 W W' : World} {s g : Nat} {S : DS} {X : StS} {o : OpT} (h : Sto w0 W (fun _ => False) s g S X) (hb : Below W.heap.size W W') (ho : OT W' W.heap.size o) : Sto w0 W' (fun k => k = W.heap.size) s g S X :=
  (h.fresh (D := fun i => i = W.heap.size) hb (fun i hi => ⟨Nat.le_of_eq hi.symm, by subst hi; exact ho.lt⟩)).less (fun k hk => .inr hk)

end Go.Proofs.YtkplmaaeggnbgaaDoor.St
