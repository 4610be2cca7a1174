/- A script of operations, as it was read. No condition but those that each states. -/
import Derived.Test.YtmnbkopfmhdijaaDkM
import Derived.ChangeSlices
import Derived.Deep.Slices
import Derived.Deep.Fields
import Derived.ChangeSame
namespace Go.Proofs.Ytmnbkopfmhdijaa.Dk
open Go.RowKit Go.ChangeShapes Go.WideShapes Go.Deep

/-- An operation of a script, as its cells hold it. -/
structure OpV where
  kind : Int
  i : Int
  c : Nat
  s : ByteArray
  odd : Bool
  mask : Nat

def OpV.cells (o : OpV) : List Value := [.int .i64 o.kind, .int .i64 o.i, .int .u8 (o.c : Int), .string o.s, .bool o.odd, .int .u64 (o.mask : Int)]

structure OpV.Ok (o : OpV) : Prop where
  i : (Lit.int .i64 o.i).wf = true
  kind : (Lit.int .i64 o.kind).wf = true
  c : o.c < 256
  s : o.s.size ≤ maxLen
  mask : o.mask < 2 ^ 64

theorem op_one : ∃ fs, Try.prog.underlying 34 = some (.struct fs) ∧ fs.size = 6 ∧ oneCellFields Try.prog fs = true ∧ Try.prog.cellsOf 34 = 6 ∧ (fs.map (·.type)) = #[3, 3, 5, 9, 4, 32] :=
  ⟨_, Try.underlying34, rfl, by kernel_rfl, by kernel_rfl, by simp⟩

/-- One operation, as it was read. -/
theorem open_op {H : Type} {enc : TypeId × Value → H} {w : World} {n : Nat} {cs : List Value} {x : DataW H × List MemPlace}
    (h : DataW.trod enc Try.prog w 0 (fun _ => true) true n 34 cs = some x) : ∃ o : OpV, o.Ok ∧ cs = o.cells := by
  obtain ⟨fs, hs, hsz, hone, hC, hty⟩ := op_one
  obtain ⟨xs, m, _, _, hlen, hxl, hf⟩ := DataW.trod_struct hs h
  rw [hC] at hlen
  rw [hsz] at hxl
  have key : ∀ (i : Nat) (t : TypeId) (v : Value), (fs.map (·.type))[i]? = some t → cs[i]? = some v → i < 6 → ∃ y, DataW.trod enc Try.prog w 0 (fun _ => true) true m t [v] = some y := by
    intro i t v ht hv hi
    have hfi : fs[i]? = some (fs[i]'(by omega)) := Array.getElem?_eq_getElem (by omega)
    have e := hf i _ hfi
    obtain ⟨e1, e2⟩ := hone_of hone i _ hfi
    rw [Array.getElem?_map, hfi] at ht
    simp only [Option.map_some, Option.some.injEq] at ht
    have hil : i < cs.length := by omega
    have hd : (cs.drop i).take 1 = [v] := by
      rw [List.drop_eq_getElem_cons hil]
      rw [List.getElem?_eq_getElem hil] at hv
      simp only [Option.some.injEq] at hv
      rw [hv]; rfl
    rw [e1, e2, hd, ht, List.getElem?_eq_getElem (by omega)] at e
    exact ⟨_, e⟩
  rw [hty] at key
  match cs, hlen with
  | [c0, c1, c2, c3, c4, c5], _ =>
    obtain ⟨y0, h0⟩ := key 0 _ c0 rfl rfl (by decide)
    obtain ⟨y1, h1⟩ := key 1 _ c1 rfl rfl (by decide)
    obtain ⟨y2, h2⟩ := key 2 _ c2 rfl rfl (by decide)
    obtain ⟨y3, h3⟩ := key 3 _ c3 rfl rfl (by decide)
    obtain ⟨y4, h4⟩ := key 4 _ c4 rfl rfl (by decide)
    obtain ⟨y5, h5⟩ := key 5 _ c5 rfl rfl (by decide)
    obtain ⟨n0, e0, _, w0⟩ := DataW.trod_int Try.underlying3 h0
    obtain ⟨n1, e1, _, w1⟩ := DataW.trod_int Try.underlying3 h1
    obtain ⟨n2, e2, _, w2⟩ := DataW.trod_int Try.underlying5 h2
    obtain ⟨s, e3, _, w3⟩ := DataW.trod_string Try.underlying9 h3
    obtain ⟨b, e4, _⟩ := DataW.trod_bool Try.underlying4 h4
    obtain ⟨n5, e5, _, w5⟩ := DataW.trod_int Try.underlying32 h5
    cases e0; cases e1; cases e2; cases e3; cases e4; cases e5
    have u2 := u8_nat w2
    obtain ⟨m5, rfl, u5⟩ := u64_nat w5
    obtain ⟨m2, rfl⟩ := Int.eq_ofNat_of_zero_le u2.1
    exact ⟨⟨n0, n1, m2, s, b, m5⟩, ⟨w1, w0, by show m2 < 256; omega, w3, u5⟩, rfl⟩

/-- A slice of operations, as it was read: none, or a row of them. -/
theorem open_ops {H : Type} {enc : TypeId × Value → H} {w : World} {b0 : Nat} {v : Value} {d : DataW H} {p : List MemPlace}
    (hv : Value.okWide Try.prog w .any b0 22 v) (h : DataW.Trod enc Try.prog w 0 (fun _ => true) true 22 v d p) :
    (∃ pa cap, v = .slice pa 0 cap) ∨ ∃ (b off len cap : Nat), v = .slice (some ⟨b, off, none⟩) len cap ∧ 0 < len ∧ len ≤ maxLen ∧ b < w.heap.size ∧ ∀ j, j < len → ∃ o : OpV, o.Ok ∧ w.rangeAt b (off + j * 6) o.cells := by
  have hlt : ∀ x ∈ p, x.block < w.heap.size := by obtain ⟨n, hn⟩ := h; exact DataW.trod_lt n _ _ _ hn
  obtain ⟨a0, len, cap, rfl⟩ := WideShapes.okWide_slice Try.underlying22 hv
  obtain ⟨fuel, hf⟩ := h
  obtain ⟨fs, hs, hsz, hone, hC, hty⟩ := op_one
  rcases open_slice Try.underlying22 hf with ⟨hcs, hx⟩ | ⟨a, len', cap', m, n, D, Pl, hcs, _, hl, hmx, hm, hx, hi⟩
  · simp [Value.cells] at hcs
    obtain ⟨rfl, rfl, rfl⟩ := hcs
    exact .inl ⟨_, _, rfl⟩
  · simp [Value.cells] at hcs
    obtain ⟨rfl, rfl, rfl⟩ := hcs
    simp only [Prod.mk.injEq] at hx
    simp only [if_true] at hm
    by_cases hl0 : len = 0
    · subst hl0
      exact .inl ⟨_, _, rfl⟩
    · rw [hC] at hx hi
      obtain ⟨b, off, spot⟩ := a
      obtain ⟨cs0, hc0, _⟩ := hi 0 (by omega)
      obtain ⟨_, hlen0, hat0⟩ := World.cells?_some hc0
      have hspot : spot = none := by
        have h0 := hat0 0 (by decide)
        rw [List.getElem?_eq_getElem (by omega)] at h0
        simpa [Addr.add] using World.cell?_spot h0
      subst hspot
      have hbW : b < w.heap.size := hlt (.cell b off) (by rw [hx.2]; exact List.mem_append_left _ (MemPlace.mem_row.2 ⟨0, by omega, by simp⟩))
      refine .inr ⟨b, off, len, cap, rfl, by omega, Nat.le_trans hl hmx, hbW, fun j hj => ?_⟩
      obtain ⟨cs, hc, ht⟩ := hi j (by omega)
      obtain ⟨o, ho, rfl⟩ := open_op ht
      obtain ⟨_, hlen, hat⟩ := World.cells?_some hc
      refine ⟨o, ho, fun q u hu => ?_⟩
      have hq : q < 6 := by have := (List.getElem?_eq_some_iff.1 hu).1; omega
      have := hat q hq
      rw [hu] at this
      rw [WideShapes.add_plain, WideShapes.add_plain] at this
      exact this

end Go.Proofs.Ytmnbkopfmhdijaa.Dk
