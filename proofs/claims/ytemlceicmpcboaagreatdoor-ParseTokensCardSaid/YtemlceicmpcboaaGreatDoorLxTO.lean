/- Rows of tokens, as they were read. No condition but those that each states. -/
import Derived.Test.YtemlceicmpcboaaGreatDoorLxRT
import Derived.ChangeSlices
import Derived.Deep.Slices
import Derived.Deep.Fields
import Derived.ChangeSame
namespace Go.Proofs.YtemlceicmpcboaaGreatDoor.Lx
open Go.RowKit Dk Go.ChangeShapes Go.WideShapes Go.Deep

set_option maxRecDepth 100000 in
theorem tok_one : ∃ fs, Tryz.prog.underlying 72 = some (.struct fs) ∧ fs.size = 4 ∧ oneCellFields Tryz.prog fs = true ∧ Tryz.prog.cellsOf 72 = 4 ∧ (fs.map (·.type)) = #[3, 9, 2, 3] :=
  ⟨_, Tryz.underlying72, rfl, by kernel_rfl, by kernel_rfl, by simp⟩

/-- A place that an int is not too small for. -/
def TkI (t : Tk) : Prop := -9223372036854775808 ≤ t.place

set_option maxRecDepth 100000 in
/-- One token, as it was read. -/
theorem open_tok {H : Type} {enc : TypeId × Value → H} {w : World} {n : Nat} {cs : List Value} {x : DataW H × List MemPlace}
    (h : DataW.trod enc Tryz.prog w 0 (fun _ => true) true n 72 cs = some x) : ∃ o : Tk, cs = o.cells ∧ TkI o := by
  obtain ⟨fs, hs, hsz, hone, hC, hty⟩ := tok_one
  obtain ⟨xs, m, _, _, hlen, hxl, hf⟩ := DataW.trod_struct hs h
  rw [hC] at hlen
  rw [hsz] at hxl
  have key : ∀ (i : Nat) (t : TypeId) (v : Value), (fs.map (·.type))[i]? = some t → cs[i]? = some v → i < 4 → ∃ y, DataW.trod enc Tryz.prog w 0 (fun _ => true) true m t [v] = some y := by
    intro i t v ht hv hi
    have hfi : fs[i]? = some (fs[i]'(by omega)) := Array.getElem?_eq_getElem (by omega)
    have e := hf i _ hfi
    obtain ⟨e1, e2⟩ := hone_of hone i _ hfi
    rw [Array.getElem?_map, hfi] at ht
    simp only [Option.map_some, Option.some.injEq] at ht
    have hil : i < cs.length := by omega
    have hd : (cs.drop i).take 1 = [v] := by
      rw [List.drop_eq_getElem_cons hil]
      rw [List.getElem?_eq_getElem hil] at hv
      simp only [Option.some.injEq] at hv
      rw [hv]; rfl
    rw [e1, e2, hd, ht, List.getElem?_eq_getElem (by omega)] at e
    exact ⟨_, e⟩
  rw [hty] at key
  match cs, hlen with
  | [c0, c1, c2, c3], _ =>
    obtain ⟨y0, h0⟩ := key 0 _ c0 rfl rfl (by decide)
    obtain ⟨y1, h1⟩ := key 1 _ c1 rfl rfl (by decide)
    obtain ⟨y2, h2⟩ := key 2 _ c2 rfl rfl (by decide)
    obtain ⟨y3, h3⟩ := key 3 _ c3 rfl rfl (by decide)
    obtain ⟨n0, e0, _, w0⟩ := DataW.trod_int Tryz.underlying3 h0
    obtain ⟨s, e1, _, w1⟩ := DataW.trod_string Tryz.underlying9 h1
    obtain ⟨n2, e2, _, w2⟩ := DataW.trod_int Tryz.underlying2 h2
    obtain ⟨n3, e3, _, w3⟩ := DataW.trod_int Tryz.underlying3 h3
    cases e0; cases e1; cases e2; cases e3
    refine ⟨⟨n0, s.data.toList, n2, n3⟩, ?_, ?_⟩
    · unfold Tk.cells
      rw [strOf_self]
    · have h5 : (decide (IntKind.i64.min ≤ n3) && decide (n3 ≤ IntKind.i64.max)) = true := w3
      rw [Bool.and_eq_true, decide_eq_true_iff] at h5
      exact h5.1

set_option maxRecDepth 100000 in
theorem gather (w : World) (b off : Nat) : ∀ n, (∀ j, j < n → ∃ o : Tk, w.rangeAt b (off + j * 4) o.cells ∧ TkI o) → ∃ ts : List Tk, ts.length = n ∧ w.rangeAt b off (tcells ts) ∧ ∀ t ∈ ts, TkI t
  | 0, _ => ⟨[], rfl, (fun j v hv => by simp [tcells] at hv), fun t ht => by cases ht⟩
  | n + 1, h => by
    obtain ⟨ts, hl, hr, hI⟩ := gather w b off n (fun j hj => h j (by omega))
    obtain ⟨o, ho, hoI⟩ := h n (Nat.lt_succ_self n)
    refine ⟨ts ++ [o], by rw [List.length_append, hl]; rfl, fun j v hv => ?_, fun t ht => (List.mem_append.1 ht).elim (hI t) (fun h => by rw [List.mem_singleton.1 h]; exact hoI)⟩
    rw [tcells_app] at hv
    by_cases hj : j < (tcells ts).length
    · rw [List.getElem?_append_left hj] at hv
      exact hr j v hv
    · rw [List.getElem?_append_right (by omega)] at hv
      have := ho (j - (tcells ts).length) v (by simpa [tcells] using hv)
      rw [tcells_length, hl] at this hj
      rwa [show off + n * 4 + (j - n * 4) = off + j by omega] at this

set_option maxRecDepth 100000 in
/-- A slice of tokens, as it was read. -/
theorem open_toks {H : Type} {enc : TypeId × Value → H} {w : World} {b0 : Nat} {v : Value} {d : DataW H} {p : List MemPlace}
    (hv : Value.okWide Tryz.prog w .any b0 31 v) (h : DataW.Trod enc Tryz.prog w 0 (fun _ => true) true 31 v d p) : ∃ ts, Toks w v ts ∧ ∀ t ∈ ts, TkI t := by
  have hlt : ∀ x ∈ p, x.block < w.heap.size := by obtain ⟨n, hn⟩ := h; exact DataW.trod_lt n _ _ _ hn
  obtain ⟨a0, len, cap, rfl⟩ := WideShapes.okWide_slice Tryz.underlying31 hv
  obtain ⟨fuel, hf⟩ := h
  obtain ⟨fs, hs, hsz, hone, hC, hty⟩ := tok_one
  rcases open_slice Tryz.underlying31 hf with ⟨hcs, hx⟩ | ⟨a, len', cap', m, n, D, Pl, hcs, _, hl, hmx, hm, hx, hi⟩
  · simp [Value.cells] at hcs
    obtain ⟨rfl, rfl, rfl⟩ := hcs
    exact ⟨[], ⟨_, _, rfl, Nat.zero_le _, .inl rfl⟩, fun t ht => by cases ht⟩
  · simp [Value.cells] at hcs
    obtain ⟨rfl, rfl, rfl⟩ := hcs
    simp only [Prod.mk.injEq] at hx
    simp only [if_true] at hm
    by_cases hl0 : len = 0
    · subst hl0
      exact ⟨[], ⟨_, _, rfl, Nat.zero_le _, .inl rfl⟩, fun t ht => by cases ht⟩
    · rw [hC] at hx hi
      obtain ⟨b, off, spot⟩ := a
      obtain ⟨cs0, hc0, _⟩ := hi 0 (by omega)
      obtain ⟨_, hlen0, hat0⟩ := World.cells?_some hc0
      have hspot : spot = none := by
        have h0 := hat0 0 (by decide)
        rw [List.getElem?_eq_getElem (by omega)] at h0
        simpa [Addr.add] using World.cell?_spot h0
      subst hspot
      have hbW : b < w.heap.size := hlt (.cell b off) (by rw [hx.2]; exact List.mem_append_left _ (MemPlace.mem_row.2 ⟨0, by omega, by simp⟩))
      obtain ⟨ts, hlen, hr, hI⟩ := gather w b off len (fun j hj => by
        obtain ⟨cs, hc, ht⟩ := hi j (by omega)
        obtain ⟨o, rfl, hoI⟩ := open_tok ht
        obtain ⟨_, hlen, hat⟩ := World.cells?_some hc
        refine ⟨o, fun q u hu => ?_, hoI⟩
        have hq : q < 4 := by have := (List.getElem?_eq_some_iff.1 hu).1; omega
        have := hat q hq
        rw [hu] at this
        rw [WideShapes.add_plain, WideShapes.add_plain] at this
        exact this)
      subst hlen
      exact ⟨ts, ⟨_, _, rfl, hl, .inr ⟨b, off, rfl, hbW, hr⟩⟩, hI⟩

end Go.Proofs.YtemlceicmpcboaaGreatDoor.Lx
