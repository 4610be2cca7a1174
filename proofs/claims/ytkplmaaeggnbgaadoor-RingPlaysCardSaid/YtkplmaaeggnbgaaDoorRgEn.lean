/- The cells of an entry, as they were read (of XRgNW, without its law). No condition but those that each states. -/
import Derived.Test.YtkplmaaeggnbgaaDoorRgK
import Derived.Lib.SmallJoins
namespace Go.Proofs.YtkplmaaeggnbgaaDoor.Rg
open Go.RowKit Dk

section
variable {H : Type} {enc : TypeId × Value → H} {w : World} {base : Nat} {spare : Nat → Bool} {held : Bool}
open Go.ChangeShapes Go.WideShapes Go.Deep

/-- Of a struct whose fields have a cell each: each field, as it was read. -/
theorem field_of {t : TypeId} {fs : Array Field} {n : Nat} {cs : List Value} {x : DataW H × List MemPlace} (hs : Tryd.prog.underlying t = some (.struct fs)) (hone : oneCellFields Tryd.prog fs = true) (hC : Tryd.prog.cellsOf t = fs.size)
    (h : DataW.trod enc Tryd.prog w base spare held n t cs = some x) : cs.length = fs.size ∧ ∀ (i : Nat) (u : TypeId) (v : Value), (fs.map (·.type))[i]? = some u → cs[i]? = some v → ∃ m y, DataW.trod enc Tryd.prog w base spare held m u [v] = some y := by
  obtain ⟨xs, m, _, _, hlen, hxl, hf⟩ := DataW.trod_struct hs h
  rw [hC] at hlen
  refine ⟨hlen, fun i u v ht hv => ?_⟩
  rw [Array.getElem?_map] at ht
  obtain ⟨f, hfi, rfl⟩ := Option.map_eq_some_iff.1 ht
  have hi := (Array.getElem?_eq_some_iff.1 hfi).1
  have e := hf i f hfi
  obtain ⟨e1, e2⟩ := hone_of hone i f hfi
  have hil : i < cs.length := by omega
  have hd : (cs.drop i).take 1 = [v] := by
    rw [List.drop_eq_getElem_cons hil]
    rw [List.getElem?_eq_getElem hil] at hv
    cases hv; rfl
  rw [e1, e2, hd, List.getElem?_eq_getElem (by omega)] at e
  exact ⟨_, _, e⟩

set_option maxRecDepth 100000 in
/-- The cells of an entry, as they were read. -/
theorem open_ent {n : Nat} {cs : List Value} {x : DataW H × List MemPlace} (h : DataW.trod enc Tryd.prog w base spare held n 43 cs = some x) :
    ∃ e : Ent, cs = e.cells ∧ (Lit.int .i64 e.kind).wf = true ∧ (Lit.int .i64 e.number).wf = true ∧ (Lit.int .i64 e.slot).wf = true ∧ (Lit.int .i64 e.size).wf = true ∧ e.sum.length ≤ maxLen := by
  obtain ⟨hlen, key⟩ := field_of Tryd.underlying43 (by kernel_rfl) (by kernel_rfl) h
  match cs, hlen with
  | [c0, c1, c2, c3, c4], _ =>
    obtain ⟨m0, y0, h0⟩ := key 0 3 c0 (by simp) rfl
    obtain ⟨m1, y1, h1⟩ := key 1 3 c1 (by simp) rfl
    obtain ⟨m2, y2, h2⟩ := key 2 3 c2 (by simp) rfl
    obtain ⟨m3, y3, h3⟩ := key 3 3 c3 (by simp) rfl
    obtain ⟨m4, y4, h4⟩ := key 4 9 c4 (by simp) rfl
    obtain ⟨n0, e0, _, w0⟩ := DataW.trod_int Tryd.underlying3 h0
    obtain ⟨n1, e1, _, w1⟩ := DataW.trod_int Tryd.underlying3 h1
    obtain ⟨n2, e2, _, w2⟩ := DataW.trod_int Tryd.underlying3 h2
    obtain ⟨n3, e3, _, w3⟩ := DataW.trod_int Tryd.underlying3 h3
    obtain ⟨s, e4, _, w4⟩ := DataW.trod_string Tryd.underlying9 h4
    cases e0; cases e1; cases e2; cases e3; cases e4
    refine ⟨⟨n0, n1, n2, n3, s.data.toList⟩, by unfold Ent.cells; rw [strOf_self], w0, w1, w2, w3, ?_⟩
    show s.data.toList.length ≤ maxLen
    have : s.data.toList.length = s.size := by simp
    rw [this]; exact w4

end

end Go.Proofs.YtkplmaaeggnbgaaDoor.Rg
