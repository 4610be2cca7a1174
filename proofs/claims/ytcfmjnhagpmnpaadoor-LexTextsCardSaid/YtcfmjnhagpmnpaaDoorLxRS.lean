/- Rows of tokens as they are read, and the walk of chrysalisref08.Same where the rows are alike. No condition but those that each states. -/
import Derived.Test.YtcfmjnhagpmnpaaDoorLxN
import Derived.Test.YtcfmjnhagpmnpaaDoorStill
namespace Go.Proofs.YtcfmjnhagpmnpaaDoor.Lx
open Go.RowKit Dk

/-- A slice of tokens, wherever it lies. -/
def Toks (W : World) (v : Value) (ts : List Tk) : Prop := ∃ p c, v = .slice p ts.length c ∧ ts.length ≤ c ∧ (ts = [] ∨ ∃ g o, p = some ⟨g, o, none⟩ ∧ g < W.heap.size ∧ W.rangeAt g o (tcells ts))

theorem Toks.later {W W' : World} {v : Value} {ts : List Tk} (h : Toks W v ts) (hb : Below W.heap.size W W') : Toks W' v ts := by
  obtain ⟨p, c, rfl, hc, h | ⟨g, o, rfl, hg, hr⟩⟩ := h
  · exact ⟨p, c, rfl, hc, .inl h⟩
  · exact ⟨_, c, rfl, hc, .inr ⟨g, o, rfl, Nat.lt_of_lt_of_le hg hb.size, rangeAt_block hr (hb.block g hg)⟩⟩

theorem TR.toks {w W : World} {v : Value} {ts : List Tk} (h : TR w W v ts) : Toks W v ts := by
  rcases h.row.2 with ⟨hv, h0⟩ | ⟨g, cap, cur, hv, hbg, hg, h3, h4, h5, h6⟩
  · exact ⟨none, 0, by rw [hv, h0], by omega, .inl (List.eq_nil_of_length_eq_zero h0)⟩
  · have hrow := h.row
    rw [hv] at hrow
    refine ⟨_, cap, hv, h3, .inr ⟨g, 0, rfl, ?_, ?_⟩⟩
    · rcases Nat.lt_or_ge g W.heap.size with h | h
      · exact h
      · rw [Array.getElem?_eq_none h] at hg; cases hg
    · exact ownsRow_range hrow

theorem tcells_at {ts : List Tk} {i : Nat} (h : i < ts.length) (j : Nat) (hj : j < 4) : (tcells ts)[i * 4 + j]? = (ts[i]).cells[j]? := by
  induction ts generalizing i with
  | nil => simp at h
  | cons t ts ih =>
    rw [tcells_cons]
    cases i with
    | zero => rw [Nat.zero_mul, Nat.zero_add, List.getElem?_append_left (by show j < 4; exact hj)]; rfl
    | succ i =>
      rw [List.getElem?_append_right (by show 4 ≤ _; omega)]
      rw [show (i + 1) * 4 + j - t.cells.length = i * 4 + j by show (i + 1) * 4 + j - 4 = _; omega]
      exact ih (by simpa using h)

/-- Alike; with their places, if asked for. -/
def AlikeP (b : Bool) (x y : List Tk) : Prop := x.length = y.length ∧ ∀ i (h : i < x.length) (h' : i < y.length), x[i].kind = y[i].kind ∧ x[i].text = y[i].text ∧ x[i].n = y[i].n ∧ (b = true → x[i].place = y[i].place)

theorem alikeP_of {x y : List Tk} (h : Alike x y) : AlikeP false x y := by
  have hl : x.length = y.length := by have := congrArg List.length h; simpa using this
  refine ⟨hl, fun i h1 h2 => ?_⟩
  have e : (x.map key3)[i]? = (y.map key3)[i]? := by rw [h]
  rw [List.getElem?_map, List.getElem?_map, List.getElem?_eq_getElem h1, List.getElem?_eq_getElem h2] at e
  have e2 : key3 x[i] = key3 y[i] := Option.some.inj e
  unfold key3 at e2
  obtain ⟨h3, h4⟩ := Prod.mk.inj e2
  obtain ⟨h5, h6⟩ := Prod.mk.inj h4
  exact ⟨h3, h5, h6, fun h => by cases h⟩
theorem alikeP_refl (b : Bool) (x : List Tk) : AlikeP b x x := ⟨rfl, fun _ _ _ => ⟨rfl, rfl, rfl, fun _ => rfl⟩⟩

theorem ws_region {P : Program} {id : Nat} {Q : Exit → Act → World → Prop} {a : Act} {w : World} {l : List Oper} (hm : P.follows .mixedOrders = true) (hB : Region.lexB .any l.toArray = true)
    (w1 : World) (hw : w.drew = w1) (h : WS P l.toArray w1 (fun a' => Q .normal a' w1) l a) : (Code.region id l.toArray true).wp P Q a w :=
  region_still hm hB w1 hw h.out

set_option maxHeartbeats 4000000 in
set_option maxRecDepth 100000 in
theorem same_some (b : Bool) (g1 o1 c1 g2 o2 c2 : Nat) (x y : List Tk) (w : World) (hx : w.rangeAt g1 o1 (tcells x)) (hy : w.rangeAt g2 o2 (tcells y)) (h : AlikeP b x y) (hl : x.length ≤ 2 ^ 40) :
    Calls Tryd.prog 13 #[.slice (some ⟨g1, o1, none⟩) x.length c1, .slice (some ⟨g2, o2, none⟩) y.length c2, .bool b] w fun e w' => e = .returned (.bool true) ∧ Below w.heap.size w w' := by
  have hlen := h.1
  have HX := Lib.hid (show ∀ (W : World), Below w.heap.size w W → W.heap = w.heap → W.rangeAt g1 o1 (tcells x) ∧ W.rangeAt g2 o2 (tcells y) from fun W _ hh => ⟨rangeAt_block hx (by rw [hh]), rangeAt_block hy (by rw [hh])⟩)
  have HA := Lib.hid h
  rw [← hlen]
  obtain ⟨n, hn⟩ : ∃ n, n = x.length := ⟨_, rfl⟩
  rw [← hn] at hl ⊢
  have HN := Lib.hid hn
  clear hx hy hlen h hn
  go_enter Tryd.func13, Tryd.ntmps13
  go_wp2
  go_loopw [7] (fun vi wr => ∃ i : Nat, i ≤ n ∧ vi = .int .i64 (i : Int) ∧ Hid (Below w.heap.size w wr ∧ wr.heap = w.heap)) (fun vi _ => n - (intOf vi).toNat)
  case atStart => exact ⟨0, Nat.zero_le _, rfl, Lib.hid ⟨Below.refl _ _, rfl⟩⟩
  case round =>
    obtain ⟨i, hi, rfl, hI⟩ := hrel
    by_cases hlt : i < n
    · have z0 : (0 : Int) ≤ (i : Int) := by omega
      have z1 : (i : Int) < (n : Int) := by omega
      have h1 : i < x.length := by rw [← HN.out]; exact hlt
      have h2 : i < y.length := by rw [← HA.out.1]; exact h1
      obtain ⟨q1, q2, q3, q4⟩ := HA.out.2 i h1 h2
      obtain ⟨W1, hW1⟩ : ∃ W1, wr.drew = W1 := ⟨_, rfl⟩
      have HW1 := Lib.hid hW1
      have HD : Hid (Below w.heap.size w W1 ∧ W1.heap = w.heap) := Lib.hid (by rw [← hW1]; exact ⟨hI.out.1.drew, hI.out.2⟩)
      obtain ⟨r1, r2⟩ := HX.out W1 HD.out.1 HD.out.2
      have cx : ∀ j (hj : j < 4) u, (x[i]).cells[j]? = some u → W1.cell? ⟨g1, o1 + (i * 4 + j), none⟩ = some u := fun j hj u hu => r1 (i * 4 + j) u (by rw [tcells_at h1 j hj]; exact hu)
      have cy : ∀ j (hj : j < 4) u, (y[i]).cells[j]? = some u → W1.cell? ⟨g2, o2 + (i * 4 + j), none⟩ = some u := fun j hj u hu => r2 (i * 4 + j) u (by rw [tcells_at h2 j hj]; exact hu)
      have a0 : W1.cell? ⟨g1, o1 + i * 4, none⟩ = some (.int .i64 x[i].kind) := cx 0 (by decide) _ rfl
      have a1 : W1.cell? ⟨g1, o1 + i * 4 + 1, none⟩ = some (.string (strOf x[i].text)) := cx 1 (by decide) _ rfl
      have a2 : W1.cell? ⟨g1, o1 + i * 4 + 2, none⟩ = some (.int .i64 x[i].n) := cx 2 (by decide) _ rfl
      have a3 : W1.cell? ⟨g1, o1 + i * 4 + 3, none⟩ = some (.int .i64 x[i].place) := cx 3 (by decide) _ rfl
      have b0 : W1.cell? ⟨g2, o2 + i * 4, none⟩ = some (.int .i64 y[i].kind) := cy 0 (by decide) _ rfl
      have b1 : W1.cell? ⟨g2, o2 + i * 4 + 1, none⟩ = some (.string (strOf y[i].text)) := cy 1 (by decide) _ rfl
      have b2 : W1.cell? ⟨g2, o2 + i * 4 + 2, none⟩ = some (.int .i64 y[i].n) := cy 2 (by decide) _ rfl
      have b3 : W1.cell? ⟨g2, o2 + i * 4 + 3, none⟩ = some (.int .i64 y[i].place) := cy 3 (by decide) _ rfl
      rw [← q1] at b0
      rw [← q2] at b1
      rw [← q3] at b2
      have heq : ((strOf x[i].text).toList == (strOf x[i].text).toList) = true := by simp
      generalize strOf x[i].text = tx at *
      generalize x[i].kind = kx at *
      generalize x[i].n = nx at *
      generalize x[i].place = px at *
      generalize y[i].place = py at *
      clear cx cy r1 r2 q1 q2 q3 hW1 h1 h2
      cases b with
      | false =>
        clear q4
        go_wp2_with fail
        refine ws_region (by kernel_rfl) (by kernel_rfl) W1 HW1.out ?_
        iterate 40 (refine ws_step (fun K hK => ?_); go_simp; refine hK _ ?_; clear hK K)
        iterate 11 (refine ws_skip (by kernel_rfl) ?_)
        iterate 2 (refine ws_step (fun K hK => ?_); go_simp; refine hK _ ?_; clear hK K)
        refine ws_nil ?_
        clear a0 a1 a2 a3 b0 b1 b2 b3 heq HW1
        go_wp2
        go_roundw
        case rel => exact ⟨i + 1, by omega, by go_num, HD⟩
        case measure => simp [intOf]; omega
      | true =>
        have q5 := q4 rfl
        rw [← q5] at b3
        clear q4 q5
        go_wp2_with fail
        refine ws_region (by kernel_rfl) (by kernel_rfl) W1 HW1.out ?_
        iterate 53 (refine ws_step (fun K hK => ?_); go_simp; refine hK _ ?_; clear hK K)
        refine ws_nil ?_
        clear a0 a1 a2 a3 b0 b1 b2 b3 heq HW1
        go_wp2
        go_roundw
        case rel => exact ⟨i + 1, by omega, by go_num, HD⟩
        case measure => simp [intOf]; omega
    · obtain rfl : i = n := by omega
      go_wp2
      go_ret
      exact ⟨rfl, hI.out.1⟩

set_option maxHeartbeats 400000 in
theorem same_none (b : Bool) (p1 p2 : Option Addr) (c1 c2 : Nat) (w : World) :
    Calls Tryd.prog 13 #[.slice p1 0 c1, .slice p2 0 c2, .bool b] w fun e w' => e = .returned (.bool true) ∧ Below w.heap.size w w' := by
  go_enter Tryd.func13, Tryd.ntmps13
  go_wp2
  go_loopw [7] (fun vi wr => vi = .int .i64 0 ∧ wr = w) (fun _ _ => 0)
  case atStart => exact ⟨rfl, rfl⟩
  case round =>
    obtain ⟨rfl, rfl⟩ := hrel
    go_wp2
    go_ret
    exact ⟨rfl, Below.refl _ _⟩

theorem same_any (b : Bool) (x y : List Tk) (v u : Value) (w : World) (hx : Toks w v x) (hy : Toks w u y) (h : AlikeP b x y) (hl : x.length ≤ 2 ^ 40) :
    Calls Tryd.prog 13 #[v, u, .bool b] w fun e w' => e = .returned (.bool true) ∧ Below w.heap.size w w' := by
  obtain ⟨p, c, rfl, -, hp⟩ := hx
  obtain ⟨q, d, rfl, -, hq⟩ := hy
  have hlen := h.1
  rcases hp with rfl | ⟨g1, o1, rfl, -, r1⟩
  · have : y = [] := List.eq_nil_of_length_eq_zero hlen.symm
    subst this
    exact same_none b p q c d w
  · rcases hq with rfl | ⟨g2, o2, rfl, -, r2⟩
    · have : x = [] := List.eq_nil_of_length_eq_zero hlen
      subst this
      exact same_none b _ _ c d w
    · exact same_some b g1 o1 c g2 o2 d x y w r1 r2 h hl

end Go.Proofs.YtcfmjnhagpmnpaaDoor.Lx
