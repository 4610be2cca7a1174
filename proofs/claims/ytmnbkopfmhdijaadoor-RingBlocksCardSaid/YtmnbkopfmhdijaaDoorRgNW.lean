/- The walk of RingNil: it returns true. No condition but those that each states. -/
import Derived.Test.YtmnbkopfmhdijaaDoorRgK
import Derived.Lib.SmallJoins
namespace Go.Proofs.YtmnbkopfmhdijaaDoor.Rg
open Go.RowKit Dk

theorem EB.cell4 {W : World} {B : Nat} {e : Ent} (h : EB W B e) : W.cell? ⟨B, 4, none⟩ = some (.string (strOf e.sum)) := by have := h.cells 4 _ rfl; rwa [Nat.zero_add] at this

theorem no_disk (w : World) : NoDisk w none := .inl rfl

set_option maxHeartbeats 2000000 in
set_option maxRecDepth 100000 in
theorem ringNil_law (e : Ent) (w : World) (HK : HasK w) : Calls Tryd.prog 8 #[.agg e.cells.toArray] w fun x w' => x = .returned (.bool true) ∧ Below w.heap.size w w' := by
  have HHK := Lib.hid HK
  have hb0 : Below w.heap.size w (w.alloc (.cells e.cells.toArray 35)) := (Below.refl _ _).alloc (Nat.le_refl _) _
  have HB0 := Lib.hid hb0
  have hx := eb_new w e 35
  have HX := Lib.hid hx
  have c4 := hx.cell4
  have hsz : (strOf e.sum).size = e.sum.length := strOf_size _
  clear HK hb0 hx
  by_cases hl : 1000 < e.sum.length
  · have t0 : decide (1000 < (strOf e.sum).size) = true := decide_eq_true (by omega)
    have t1 : decide ((1000 : Int) < ((strOf e.sum).size : Int)) = true := decide_eq_true (by omega)
    clear hsz
    generalize strOf e.sum = q at *
    go_enter Tryd.func8, Tryd.ntmps8
    go_wp2_with fail
    refine (known5 _ (HHK.out.later HB0.out)).mono ?_
    rintro y w1 ⟨rfl, hb⟩
    have HB1 := Lib.hid (chain2 HB0.out hb)
    clear hb
    go_wp2
    go_ret
    exact ⟨rfl, HB1.out⟩
  · have t0 : decide (1000 < (strOf e.sum).size) = false := decide_eq_false (by omega)
    have t1 : decide ((1000 : Int) < ((strOf e.sum).size : Int)) = false := decide_eq_false (by omega)
    have HI := Lib.hid (ref_info e)
    have HZE : Hid (#[.int .i64 0, .int .i64 0, .int .i64 0, .int .i64 0, .string ⟨#[]⟩] = Ent.zero.cells.toArray) := Lib.hid rfl
    clear hsz
    generalize strOf e.sum = q at *
    go_enter Tryd.func8, Tryd.ntmps8
    go_wp2_with fail
    refine (scan_no none _ (no_disk _)).mono ?_
    rintro y w1 ⟨rfl, rfl⟩
    go_wp2_with fail
    refine (last_no none _ (no_disk _) (fun a h => by cases h)).mono ?_
    rintro y w2 ⟨rfl, hb⟩
    have HB2 := Lib.hid (chain2 HB0.out hb)
    have X2 := Lib.hid (HX.out.later hb)
    clear hb HX c4
    have HZ2 := Lib.hid (ebt_zero w2 39)
    have HP2 := Lib.hid (ebt_put w2 39 Ent.zero)
    go_wp2_with (first
      | (refine wpList_store_mid rfl 39 (.tmp 5) (.tmp 21) rfl w2.heap.size 0 Ent.zero.cells.toArray rfl rfl HZ2.out.room (e_infoA _) (e_all _) ?_; generalize World.setCells _ _ _ _ = W3 at HP2 ⊢; have HB3 := Lib.hid (chain2 HB2.out HP2.out.2); have X3 := Lib.hid (X2.out.later HP2.out.2); clear HP2 HZ2 X2 HB2)
      | (refine wpList_load_mid rfl 35 (.tmp 1) rfl w.heap.size 0 rfl e.cells _ X3.out.cells Tryd.underlying35 rfl HI.out ?_)
      | (go_at_call 17; refine (given_any e _).mono ?_; rintro y w4 ⟨rfl, hb⟩; have HB4 := Lib.hid (chain2 HB3.out hb); clear hb HB3 X3)
      | (go_at_call 24; refine (app_no none e _ (no_disk _) (fun a h => by cases h)).mono ?_; rintro y w5 ⟨rfl, hb⟩; have HB5 := Lib.hid (chain2 HB4.out hb); clear hb HB4; have HZ5 := Lib.hid (ebt_zero w5 39); have HP5 := Lib.hid (ebt_put w5 39 Ent.zero))
      | (refine wpList_store_mid rfl 39 (.tmp 8) (.tmp 28) rfl w5.heap.size 0 Ent.zero.cells.toArray rfl rfl HZ5.out.room (e_infoA _) (e_all _) ?_; generalize World.setCells _ _ _ _ = W6 at HP5 ⊢; have HB6 := Lib.hid (chain2 HB5.out HP5.out.2); have X6 := Lib.hid HP5.out.1; have hI6 := e_info Ent.zero; clear HP5 HZ5 HB5)
      | (refine wpList_load_want (by rfl) 39 (.tmp 8) rfl w5.heap.size 0 rfl Ent.zero.cells _ X6.out.cells Tryd.underlying39 rfl hI6 ?_)
      | (refine wpList_eql (f := Ent.zero) (by rfl) (.tmp 46) (.tmp 47) rfl rfl rfl true (decide_eq_true rfl) ?_)
      | (go_at_call 15; refine (known5 _ (HHK.out.later HB6.out)).mono ?_; rintro y w7 ⟨rfl, hb⟩; have HB7 := Lib.hid (chain2 HB6.out hb); clear hb HB6))
    go_ret
    exact ⟨rfl, HB7.out⟩

section
variable {H : Type} {enc : TypeId × Value → H} {w : World} {base : Nat} {spare : Nat → Bool} {held : Bool}
open Go.ChangeShapes Go.WideShapes Go.Deep

/-- Of a struct whose fields have a cell each: each field, as it was read. -/
theorem field_of {t : TypeId} {fs : Array Field} {n : Nat} {cs : List Value} {x : DataW H × List MemPlace} (hs : Tryd.prog.underlying t = some (.struct fs)) (hone : oneCellFields Tryd.prog fs = true) (hC : Tryd.prog.cellsOf t = fs.size)
    (h : DataW.trod enc Tryd.prog w base spare held n t cs = some x) : cs.length = fs.size ∧ ∀ (i : Nat) (u : TypeId) (v : Value), (fs.map (·.type))[i]? = some u → cs[i]? = some v → ∃ m y, DataW.trod enc Tryd.prog w base spare held m u [v] = some y := by
  obtain ⟨xs, m, _, _, hlen, hxl, hf⟩ := DataW.trod_struct hs h
  rw [hC] at hlen
  refine ⟨hlen, fun i u v ht hv => ?_⟩
  rw [Array.getElem?_map] at ht
  obtain ⟨f, hfi, rfl⟩ := Option.map_eq_some_iff.1 ht
  have hi := (Array.getElem?_eq_some_iff.1 hfi).1
  have e := hf i f hfi
  obtain ⟨e1, e2⟩ := hone_of hone i f hfi
  have hil : i < cs.length := by omega
  have hd : (cs.drop i).take 1 = [v] := by
    rw [List.drop_eq_getElem_cons hil]
    rw [List.getElem?_eq_getElem hil] at hv
    cases hv; rfl
  rw [e1, e2, hd, List.getElem?_eq_getElem (by omega)] at e
  exact ⟨_, _, e⟩

set_option maxRecDepth 100000 in
/-- The cells of an entry, as they were read. -/
theorem open_ent {n : Nat} {cs : List Value} {x : DataW H × List MemPlace} (h : DataW.trod enc Tryd.prog w base spare held n 35 cs = some x) :
    ∃ e : Ent, cs = e.cells ∧ (Lit.int .i64 e.kind).wf = true ∧ (Lit.int .i64 e.number).wf = true ∧ (Lit.int .i64 e.slot).wf = true ∧ (Lit.int .i64 e.size).wf = true ∧ e.sum.length ≤ maxLen := by
  obtain ⟨hlen, key⟩ := field_of Tryd.underlying35 (by kernel_rfl) (by kernel_rfl) h
  match cs, hlen with
  | [c0, c1, c2, c3, c4], _ =>
    obtain ⟨m0, y0, h0⟩ := key 0 3 c0 (by simp) rfl
    obtain ⟨m1, y1, h1⟩ := key 1 3 c1 (by simp) rfl
    obtain ⟨m2, y2, h2⟩ := key 2 3 c2 (by simp) rfl
    obtain ⟨m3, y3, h3⟩ := key 3 3 c3 (by simp) rfl
    obtain ⟨m4, y4, h4⟩ := key 4 9 c4 (by simp) rfl
    obtain ⟨n0, e0, _, w0⟩ := DataW.trod_int Tryd.underlying3 h0
    obtain ⟨n1, e1, _, w1⟩ := DataW.trod_int Tryd.underlying3 h1
    obtain ⟨n2, e2, _, w2⟩ := DataW.trod_int Tryd.underlying3 h2
    obtain ⟨n3, e3, _, w3⟩ := DataW.trod_int Tryd.underlying3 h3
    obtain ⟨s, e4, _, w4⟩ := DataW.trod_string Tryd.underlying9 h4
    cases e0; cases e1; cases e2; cases e3; cases e4
    refine ⟨⟨n0, n1, n2, n3, s.data.toList⟩, by unfold Ent.cells; rw [strOf_self], w0, w1, w2, w3, ?_⟩
    show s.data.toList.length ≤ maxLen
    have : s.data.toList.length = s.size := by simp
    rw [this]; exact w4

set_option maxRecDepth 100000 in
/-- An entry by value, as it was read. -/
theorem open_entry {b0 : Nat} {v : Value} {d : DataW H} {p : List MemPlace} (hv : Value.okWide Tryd.prog w .any b0 35 v) (h : DataW.Trod enc Tryd.prog w base spare held 35 v d p) :
    ∃ e : Ent, v = .agg e.cells.toArray ∧ (Lit.int .i64 e.kind).wf = true ∧ (Lit.int .i64 e.number).wf = true ∧ (Lit.int .i64 e.slot).wf = true ∧ (Lit.int .i64 e.size).wf = true ∧ e.sum.length ≤ maxLen := by
  obtain ⟨cs, rfl, hsz⟩ := okWide_struct Tryd.underlying35 hv
  obtain ⟨fuel, hf⟩ := h
  obtain ⟨e, he, hw⟩ := open_ent hf
  refine ⟨e, ?_, hw⟩
  rw [← he]
  simp [Value.cells]

set_option maxRecDepth 100000 in
/-- RingNil of its argument, as it was read. -/
theorem ringNil_raw {b0 : Nat} {v : Value} {d : DataW H} {p : List MemPlace}
    (hv : Value.okWide Tryd.prog w .any b0 35 v) (h : DataW.Trod enc Tryd.prog w base spare held 35 v d p) (HK : HasK w) :
    Calls Tryd.prog 8 #[v] w fun x w' => x = .returned (.bool true) ∧ Below w.heap.size w w' := by
  obtain ⟨e, rfl, -⟩ := open_entry hv h
  exact ringNil_law e w HK
end

end Go.Proofs.YtmnbkopfmhdijaaDoor.Rg
