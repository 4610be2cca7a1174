/- SlotsLasts of its argument, as it was read. No condition but those that each states. -/
import Derived.Test.YthddiijnomhpfaaSlLW
import Derived.Lib.SmallJoins
namespace Go.Proofs.Ythddiijnomhpfaa.Sl
open Go.RowKit Dk

section
variable {H : Type} {enc : TypeId × Value → H} {w : World} {base : Nat} {spare : Nat → Bool} {held : Bool}
open Go.ChangeShapes Go.WideShapes Go.Deep

/-- Of a struct whose fields have a cell each: each field, as it was read. -/
theorem field_of {t : TypeId} {fs : Array Field} {n : Nat} {cs : List Value} {x : DataW H × List MemPlace} (hs : Try.prog.underlying t = some (.struct fs)) (hone : oneCellFields Try.prog fs = true) (hC : Try.prog.cellsOf t = fs.size)
    (h : DataW.trod enc Try.prog w base spare held n t cs = some x) : cs.length = fs.size ∧ ∀ (i : Nat) (u : TypeId) (v : Value), (fs.map (·.type))[i]? = some u → cs[i]? = some v → ∃ m y, DataW.trod enc Try.prog w base spare held m u [v] = some y := by
  obtain ⟨xs, m, _, _, hlen, hxl, hf⟩ := DataW.trod_struct hs h
  rw [hC] at hlen
  refine ⟨hlen, fun i u v ht hv => ?_⟩
  rw [Array.getElem?_map] at ht
  obtain ⟨f, hfi, rfl⟩ := Option.map_eq_some_iff.1 ht
  have hi := (Array.getElem?_eq_some_iff.1 hfi).1
  have e := hf i f hfi
  obtain ⟨e1, e2⟩ := hone_of hone i f hfi
  have hil : i < cs.length := by omega
  have hd : (cs.drop i).take 1 = [v] := by
    rw [List.drop_eq_getElem_cons hil]
    rw [List.getElem?_eq_getElem hil] at hv
    cases hv; rfl
  rw [e1, e2, hd, List.getElem?_eq_getElem (by omega)] at e
  exact ⟨_, _, e⟩

set_option maxRecDepth 100000 in
theorem open_case {b0 : Nat} {v : Value} {d : DataW H} {p : List MemPlace} (hv : Value.okWide Try.prog w .any b0 47 v) (h : DataW.Trod enc Try.prog w base spare held 47 v d p) :
    ∃ (a b : ByteArray) (f : Bool) (k m : Int), v = .agg #[.string a, .string b, .bool f, .int .u8 k, .int .u64 m] ∧ (Lit.int .u8 k).wf = true ∧ (Lit.int .u64 m).wf = true := by
  obtain ⟨cs, rfl, hsz⟩ := okWide_struct Try.underlying47 hv
  obtain ⟨fuel, hf⟩ := h
  obtain ⟨hlen, key⟩ := field_of Try.underlying47 (by kernel_rfl) (by kernel_rfl) hf
  have hcl : (Value.agg cs).cells.toList = cs.toList := rfl
  rw [hcl] at hlen key
  obtain ⟨l, rfl⟩ : ∃ l : List Value, cs = l.toArray := ⟨cs.toList, by simp⟩
  replace key : ∀ (i : Nat) (u : TypeId) (v : Value), _ → l[i]? = some v → _ := key
  replace hlen : l.length = _ := hlen
  match l, hlen, key with
  | [c0, c1, c2, c3, c4], _, key =>
    obtain ⟨m0, y0, h0⟩ := key 0 9 c0 (by simp) rfl
    obtain ⟨m1, y1, h1⟩ := key 1 9 c1 (by simp) rfl
    obtain ⟨m2, y2, h2⟩ := key 2 4 c2 (by simp) rfl
    obtain ⟨m3, y3, h3⟩ := key 3 5 c3 (by simp) rfl
    obtain ⟨m4, y4, h4⟩ := key 4 31 c4 (by simp) rfl
    obtain ⟨s0, e0, _, w0⟩ := DataW.trod_string Try.underlying9 h0
    obtain ⟨s1, e1, _, w1⟩ := DataW.trod_string Try.underlying9 h1
    obtain ⟨n2, e2, _⟩ := DataW.trod_bool Try.underlying4 h2
    obtain ⟨n3, e3, _, w3⟩ := DataW.trod_int Try.underlying5 h3
    obtain ⟨n4, e4, _, w4⟩ := DataW.trod_int Try.underlying31 h4
    cases e0; cases e1; cases e2; cases e3; cases e4
    exact ⟨s0, s1, n2, n3, n4, rfl, w3, w4⟩

theorem slotsLasts_raw {b0 : Nat} {v : Value} {d : DataW H} {p : List MemPlace}
    (hv : Value.okWide Try.prog w .any b0 47 v) (h : DataW.Trod enc Try.prog w base spare held 47 v d p) :
    Calls Try.prog 4 #[v] w fun x w' => x = .returned (.bool true) ∧ Below w.heap.size w w' := by
  obtain ⟨a, b, f, k, m, rfl, hk, hm⟩ := open_case hv h
  obtain ⟨m, rfl, hm'⟩ := u64_nat hm
  by_cases hl : a.size ≤ 1000 ∧ b.size ≤ 1000
  · exact slotsLasts_short a b f k m w hl.1 hl.2 (u8_nat hk) hm'
  · exact slotsLasts_long a b f k m w hl
end

end Go.Proofs.Ythddiijnomhpfaa.Sl
