/- An instruction by value, as it was read; InstBack of its arguments. No condition but those that each states. -/
import Derived.Test.YtmljjpdodcpohaaDoorInV
import Derived.Lib.SmallJoins
import Derived.ChangeSlices
import Derived.ChangeSame
import Derived.Deep.Slices
import Derived.Deep.Fields
namespace Go.Proofs.YtmljjpdodcpohaaDoor.In
open Go.RowKit Dk

section
variable {H : Type} {enc : TypeId × Value → H} {w : World} {base : Nat} {spare : Nat → Bool} {held : Bool}
open Go.ChangeShapes Go.WideShapes Go.Deep

theorem field_of {t : TypeId} {fs : Array Field} {n : Nat} {cs : List Value} {x : DataW H × List MemPlace} (hs : Tryd.prog.underlying t = some (.struct fs)) (hone : oneCellFields Tryd.prog fs = true) (hC : Tryd.prog.cellsOf t = fs.size)
    (h : DataW.trod enc Tryd.prog w base spare held n t cs = some x) : cs.length = fs.size ∧ ∀ (i : Nat) (u : TypeId) (v : Value), (fs.map (·.type))[i]? = some u → cs[i]? = some v → ∃ m y, DataW.trod enc Tryd.prog w base spare held m u [v] = some y := by
  obtain ⟨xs, m, _, _, hlen, hxl, hf⟩ := DataW.trod_struct hs h
  rw [hC] at hlen
  refine ⟨hlen, fun i u v ht hv => ?_⟩
  rw [Array.getElem?_map] at ht
  obtain ⟨f, hfi, rfl⟩ := Option.map_eq_some_iff.1 ht
  have hi := (Array.getElem?_eq_some_iff.1 hfi).1
  have e := hf i f hfi
  obtain ⟨e1, e2⟩ := hone_of hone i f hfi
  have hil : i < cs.length := by omega
  have hd : (cs.drop i).take 1 = [v] := by
    rw [List.drop_eq_getElem_cons hil]
    rw [List.getElem?_eq_getElem hil] at hv
    cases hv; rfl
  rw [e1, e2, hd, List.getElem?_eq_getElem (by omega)] at e
  exact ⟨_, _, e⟩

set_option maxRecDepth 100000 in
theorem open_inst {b0 : Nat} {v : Value} {d : DataW H} {p : List MemPlace} (hv : Value.okWide Tryd.prog w .any b0 23 v) (h : DataW.Trod enc Tryd.prog w base spare held 23 v d p) : ∃ x : Ix, v = .agg x.cells.toArray := by
  obtain ⟨cs, rfl, hsz⟩ := okWide_struct Tryd.underlying23 hv
  obtain ⟨fuel, hf⟩ := h
  obtain ⟨hlen, key⟩ := field_of Tryd.underlying23 (by kernel_rfl) (by kernel_rfl) hf
  simp only [Value.cells] at hlen key
  match hcs : cs.toList, hlen with
  | [c0, c1, c2, c3], _ =>
    rw [hcs] at key
    obtain ⟨m0, y0, h0⟩ := key 0 3 c0 (by simp) rfl
    obtain ⟨m1, y1, h1⟩ := key 1 3 c1 (by simp) rfl
    obtain ⟨m2, y2, h2⟩ := key 2 3 c2 (by simp) rfl
    obtain ⟨m3, y3, h3⟩ := key 3 3 c3 (by simp) rfl
    obtain ⟨n0, e0, _, w0⟩ := DataW.trod_int Tryd.underlying3 h0
    obtain ⟨n1, e1, _, w1⟩ := DataW.trod_int Tryd.underlying3 h1
    obtain ⟨n2, e2, _, w2⟩ := DataW.trod_int Tryd.underlying3 h2
    obtain ⟨n3, e3, _, w3⟩ := DataW.trod_int Tryd.underlying3 h3
    cases e0; cases e1; cases e2; cases e3
    refine ⟨⟨n0, n1, n2, n3⟩, ?_⟩
    congr 1
    apply Array.ext'
    rw [hcs]; rfl

theorem instBack_raw {b0 : Nat} {v : Value} {d : DataW H} {p : List MemPlace}
    (hv : Value.okWide Tryd.prog w .any b0 23 v) (h : DataW.Trod enc Tryd.prog w base spare held 23 v d p) (a : ByteArray) (ha : a.size ≤ maxLen) (b : ByteArray) (hb : b.size ≤ maxLen) (HF : HasF w) :
    Calls Tryd.prog 5 #[v, .string a, .string b] w fun x w' => x = .returned (.bool true) ∧ Below w.heap.size w w' := by
  obtain ⟨x, rfl⟩ := open_inst hv h
  exact instBack_law x a ha b hb w HF
end

end Go.Proofs.YtmljjpdodcpohaaDoor.In
