/- A script of chrysalislaw05, as it was read. No condition but those that each states. -/
import Derived.Test.YtkplmaaeggnbgaaDoorRgCH
import Derived.Test.YtkplmaaeggnbgaaDoorRgEn
import Derived.ChangeSlices
import Derived.Deep.Slices
import Derived.Deep.Fields
import Derived.ChangeSame
namespace Go.Proofs.YtkplmaaeggnbgaaDoor.Rg
open Go.RowKit Dk

section
variable {H : Type} {enc : TypeId × Value → H}
open Go.ChangeShapes Go.WideShapes Go.Deep

theorem opc_one : ∃ fs, Tryd.prog.underlying 46 = some (.struct fs) ∧ fs.size = 5 ∧ Tryd.prog.cellsOf 46 = 9 ∧ (fs.map (fun f => (f.type, f.offset, Tryd.prog.cellsOf f.type))) = #[(3, 0, 1), (43, 1, 5), (3, 6, 1), (9, 7, 1), (44, 8, 1)] :=
  ⟨_, Tryd.underlying46, rfl, by kernel_rfl, by kernel_rfl⟩

set_option maxRecDepth 100000 in
/-- One operation, as it was read. -/
theorem open_opc {w : World} {n : Nat} {cs : List Value} {x : DataW H × List MemPlace}
    (h : DataW.trod enc Tryd.prog w 0 (fun _ => true) true n 46 cs = some x) : ∃ o : OpC, o.Ok ∧ cs = o.cells := by
  obtain ⟨fs, hs, hsz, hC, hty⟩ := opc_one
  obtain ⟨xs, m, _, _, hlen, hxl, hf⟩ := DataW.trod_struct hs h
  rw [hC] at hlen
  rw [hsz] at hxl
  have key : ∀ (i : Nat) (t : TypeId) (off sz : Nat), (#[(3, 0, 1), (43, 1, 5), (3, 6, 1), (9, 7, 1), (44, 8, 1)] : Array (TypeId × Nat × Nat))[i]? = some (t, off, sz) → i < 5 → ∃ y, DataW.trod enc Tryd.prog w 0 (fun _ => true) true m t ((cs.drop off).take sz) = some y := by
    intro i t off sz ht hi
    have hfi : fs[i]? = some (fs[i]'(by omega)) := Array.getElem?_eq_getElem (by omega)
    have e := hf i _ hfi
    rw [← hty, Array.getElem?_map, hfi] at ht
    simp only [Option.map_some, Option.some.injEq, Prod.mk.injEq] at ht
    obtain ⟨h1, h2, h3⟩ := ht
    rw [h1, h2] at e
    rw [h1] at h3
    rw [h3, List.getElem?_eq_getElem (by omega)] at e
    exact ⟨_, e⟩
  match cs, hlen with
  | [c0, c1, c2, c3, c4, c5, c6, c7, c8], _ =>
    obtain ⟨y0, h0⟩ := key 0 _ _ _ rfl (by decide)
    obtain ⟨y1, h1⟩ := key 1 _ _ _ rfl (by decide)
    obtain ⟨y2, h2⟩ := key 2 _ _ _ rfl (by decide)
    obtain ⟨y3, h3⟩ := key 3 _ _ _ rfl (by decide)
    obtain ⟨y4, h4⟩ := key 4 _ _ _ rfl (by decide)
    replace h0 : DataW.trod enc Tryd.prog w 0 (fun _ => true) true m 3 [c0] = some y0 := h0
    replace h1 : DataW.trod enc Tryd.prog w 0 (fun _ => true) true m 43 [c1, c2, c3, c4, c5] = some y1 := h1
    replace h2 : DataW.trod enc Tryd.prog w 0 (fun _ => true) true m 3 [c6] = some y2 := h2
    replace h3 : DataW.trod enc Tryd.prog w 0 (fun _ => true) true m 9 [c7] = some y3 := h3
    replace h4 : DataW.trod enc Tryd.prog w 0 (fun _ => true) true m 44 [c8] = some y4 := h4
    obtain ⟨n0, e0, _, w0⟩ := DataW.trod_int Tryd.underlying3 h0
    obtain ⟨e, e1, _⟩ := open_ent h1
    obtain ⟨n2, e2, _, w2⟩ := DataW.trod_int Tryd.underlying3 h2
    obtain ⟨s, e3, _, w3⟩ := DataW.trod_string Tryd.underlying9 h3
    obtain ⟨n4, e4, _, w4⟩ := DataW.trod_int Tryd.underlying44 h4
    obtain ⟨m4, rfl, u4⟩ := u64_nat w4
    cases e0; cases e2; cases e3; cases e4
    refine ⟨⟨n0, e, n2, s, m4⟩, ⟨w0, w2, u4⟩, ?_⟩
    unfold OpC.cells
    rw [← e1]
    rfl

set_option maxRecDepth 100000 in
/-- A slice of operations, as it was read: none, or a row of them. -/
theorem open_opcs {w : World} {b0 : Nat} {v : Value} {d : DataW H} {p : List MemPlace}
    (hv : Value.okWide Tryd.prog w .any b0 34 v) (h : DataW.Trod enc Tryd.prog w 0 (fun _ => true) true 34 v d p) :
    (∃ pa cap, v = .slice pa 0 cap) ∨ ∃ (b off len cap : Nat), v = .slice (some ⟨b, off, none⟩) len cap ∧ 0 < len ∧ len ≤ maxLen ∧ b < w.heap.size ∧ ∀ j, j < len → ∃ o : OpC, o.Ok ∧ w.rangeAt b (off + j * 9) o.cells := by
  have hlt : ∀ x ∈ p, x.block < w.heap.size := by obtain ⟨n, hn⟩ := h; exact DataW.trod_lt n _ _ _ hn
  obtain ⟨a0, len, cap, rfl⟩ := WideShapes.okWide_slice Tryd.underlying34 hv
  obtain ⟨fuel, hf⟩ := h
  obtain ⟨fs, hs, hsz, hC, hty⟩ := opc_one
  rcases open_slice Tryd.underlying34 hf with ⟨hcs, hx⟩ | ⟨a, len', cap', m, n, D, Pl, hcs, _, hl, hmx, hm, hx, hi⟩
  · simp [Value.cells] at hcs
    obtain ⟨rfl, rfl, rfl⟩ := hcs
    exact .inl ⟨_, _, rfl⟩
  · simp [Value.cells] at hcs
    obtain ⟨rfl, rfl, rfl⟩ := hcs
    simp only [Prod.mk.injEq] at hx
    simp only [if_true] at hm
    by_cases hl0 : len = 0
    · subst hl0
      exact .inl ⟨_, _, rfl⟩
    · rw [hC] at hx hi
      obtain ⟨b, off, spot⟩ := a
      obtain ⟨cs0, hc0, _⟩ := hi 0 (by omega)
      obtain ⟨_, hlen0, hat0⟩ := World.cells?_some hc0
      have hspot : spot = none := by
        have h0 := hat0 0 (by decide)
        rw [List.getElem?_eq_getElem (by omega)] at h0
        simpa [Addr.add] using World.cell?_spot h0
      subst hspot
      have hbW : b < w.heap.size := hlt (.cell b off) (by rw [hx.2]; exact List.mem_append_left _ (MemPlace.mem_row.2 ⟨0, by omega, by simp⟩))
      refine .inr ⟨b, off, len, cap, rfl, by omega, Nat.le_trans hl hmx, hbW, fun j hj => ?_⟩
      obtain ⟨cs, hc, ht⟩ := hi j (by omega)
      obtain ⟨o, ho, rfl⟩ := open_opc ht
      obtain ⟨_, hlen, hat⟩ := World.cells?_some hc
      refine ⟨o, ho, fun q u hu => ?_⟩
      have hq : q < 9 := by have := (List.getElem?_eq_some_iff.1 hu).1; omega
      have := hat q hq
      rw [hu] at this
      rw [WideShapes.add_plain, WideShapes.add_plain] at this
      exact this
end

end Go.Proofs.YtkplmaaeggnbgaaDoor.Rg
