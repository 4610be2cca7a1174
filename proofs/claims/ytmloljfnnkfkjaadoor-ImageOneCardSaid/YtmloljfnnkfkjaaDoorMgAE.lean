/- Units in memory: rows of elements, some of which hold rows; as they were read. No condition but those that each states. -/
import Derived.Test.YtmloljfnnkfkjaaDoorMgAB
import Derived.Test.YtmloljfnnkfkjaaDoorMgAD
import Derived.ChangeSlices
import Derived.Deep.Slices
import Derived.Deep.Fields
import Derived.ChangeSame
namespace Go.Proofs.YtmloljfnnkfkjaaDoor.Im
open Go.RowKit Dk In

/-! rows -/
/-- A slice whose elements' cells are css, in a block of X. -/
def Row (X : Nat → Prop) (W : World) (v : Value) (css : List (List Value)) : Prop := ∃ p c, v = .slice p css.length c ∧ css.length ≤ c ∧ (css = [] ∨ ∃ g o, p = some ⟨g, o, none⟩ ∧ (X g ∧ g < W.heap.size) ∧ W.rangeAt g o css.flatten)
/-- The blocks of X are as they were. -/
structure Keeps (X : Nat → Prop) (W W' : World) : Prop where
  size : W.heap.size ≤ W'.heap.size
  block : ∀ g, X g → g < W.heap.size → W'.heap[g]? = W.heap[g]?
theorem Keeps.of {X : Nat → Prop} {W W' : World} (hb : Below W.heap.size W W') : Keeps X W W' := ⟨hb.size, fun g _ h => hb.block g h⟩
variable {X Y : Nat → Prop}
theorem Row.keep {W W' : World} {v : Value} {css : List (List Value)} (h : Row X W v css) (hb : Keeps X W W') : Row X W' v css := by
  obtain ⟨p, c, rfl, hc, h | ⟨g, o, rfl, hg, hr⟩⟩ := h
  · exact ⟨p, c, rfl, hc, .inl h⟩
  · exact ⟨_, c, rfl, hc, .inr ⟨g, o, rfl, ⟨hg.1, Nat.lt_of_lt_of_le hg.2 hb.size⟩, rangeAt_block hr (hb.block g hg.1 hg.2)⟩⟩
theorem Row.later {W W' : World} {v : Value} {css : List (List Value)} (h : Row X W v css) (hb : Below W.heap.size W W') : Row X W' v css := h.keep (.of hb)
theorem Row.weaken {W : World} {v : Value} {css : List (List Value)} (h : Row X W v css) (hx : ∀ g, X g → g < W.heap.size → Y g) : Row Y W v css := by
  obtain ⟨p, c, rfl, hc, h | ⟨g, o, rfl, hg, hr⟩⟩ := h
  · exact ⟨p, c, rfl, hc, .inl h⟩
  · exact ⟨_, c, rfl, hc, .inr ⟨g, o, rfl, ⟨hx g hg.1 hg.2, hg.2⟩, hr⟩⟩
theorem Row.nil (X : Nat → Prop) (W : World) : Row X W (.slice none 0 0) [] := ⟨none, 0, rfl, Nat.le_refl _, .inl rfl⟩
theorem flat_len {k : Nat} : ∀ {css : List (List Value)}, (∀ c ∈ css, c.length = k) → css.flatten.length = css.length * k
  | [], _ => by simp
  | c :: css, h => by
    rw [List.flatten_cons, List.length_append, h c (List.mem_cons_self ..), flat_len (fun c hc => h c (List.mem_cons_of_mem _ hc)), List.length_cons, Nat.succ_mul]
    omega
theorem flat_at {k : Nat} : ∀ {css : List (List Value)} {i j : Nat} (_ : ∀ c ∈ css, c.length = k) (hi : i < css.length) (_ : j < k), css.flatten[i * k + j]? = css[i][j]?
  | [], i, j, _, hi, _ => by simp at hi
  | c :: css, 0, j, h, hi, hj => by
    have := h c (List.mem_cons_self ..)
    rw [List.flatten_cons, Nat.zero_mul, Nat.zero_add, List.getElem?_append_left (by omega)]
    rfl
  | c :: css, i + 1, j, h, hi, hj => by
    have hc := h c (List.mem_cons_self ..)
    rw [List.flatten_cons, List.getElem?_append_right (by rw [hc, Nat.succ_mul]; omega), hc, show (i + 1) * k + j - k = i * k + j by rw [Nat.succ_mul]; omega]
    exact flat_at (fun c hc => h c (List.mem_cons_of_mem _ hc)) (by simpa using hi) hj
/-- What lies at a place. -/
theorem Row.at {W : World} {p : Option Addr} {m c k : Nat} {css : List (List Value)} (h : Row X W (.slice p m c) css) (hk : ∀ c ∈ css, c.length = k) (i : Nat) (hi : i < css.length) :
    ∃ g o, p = some ⟨g, o, none⟩ ∧ (X g ∧ g < W.heap.size) ∧ W.rangeAt g (o + i * k) css[i] := by
  obtain ⟨p', c', e, hc, h0 | ⟨g, o, hp, hg, hr⟩⟩ := h
  · subst h0; simp at hi
  · cases e
    refine ⟨g, o, hp, hg, fun j u hu => ?_⟩
    have hj : j < k := by
      have := (List.getElem?_eq_some_iff.1 hu).1
      have := hk _ (List.getElem_mem hi)
      omega
    have := hr (i * k + j) u (by rw [flat_at hk hi hj]; exact hu)
    rwa [← Nat.add_assoc] at this
theorem Row.len {W : World} {p : Option Addr} {m c : Nat} {css : List (List Value)} (h : Row X W (.slice p m c) css) : m = css.length := by
  obtain ⟨p', c', e, _⟩ := h
  cases e; rfl
theorem Row.form {W : World} {v : Value} {css : List (List Value)} (h : Row X W v css) : ∃ p c, v = .slice p css.length c := by
  obtain ⟨p, c, e, _⟩ := h
  exact ⟨p, c, e⟩
/-! elements -/
def Us.cells (x : Us) : List Value := [.string (strOf x.md), .string (strOf x.nm), .int .i64 x.ps]
def Cp.cells (x : Cp) : List Value := [.bool x.up, .int .i64 x.ix]
def Vl.cells (x : Vl) : List Value := [.int .i64 x.kind, .int .i64 x.n, .string (strOf x.s)]
/-- A row of plain elements. -/
def Rw {α : Type} (c : α → List Value) (X : Nat → Prop) (W : World) (v : Value) (l : List α) : Prop := Row X W v (l.map c)
/-- The cells of a proto. -/
def PC (X : Nat → Prop) (W : World) (cs : List Value) (p : Pr) : Prop := ∃ vc vk vp, cs = [.string (strOf p.nm), .int .i64 p.ps, .int .i64 p.rg, vc, vk, vp] ∧ Rw Ix.cells X W vc p.code ∧ Rw Vl.cells X W vk p.ks ∧ Rw Cp.cells X W vp p.caps
theorem PC.keep {W W' : World} {cs : List Value} {p : Pr} (h : PC X W cs p) (hb : Keeps X W W') : PC X W' cs p := by
  obtain ⟨a, b, c, e, h1, h2, h3⟩ := h
  exact ⟨a, b, c, e, h1.keep hb, h2.keep hb, h3.keep hb⟩
theorem PC.later {W W' : World} {cs : List Value} {p : Pr} (h : PC X W cs p) (hb : Below W.heap.size W W') : PC X W' cs p := h.keep (.of hb)
theorem PC.weaken {W : World} {cs : List Value} {p : Pr} (h : PC X W cs p) (hx : ∀ g, X g → g < W.heap.size → Y g) : PC Y W cs p := by
  obtain ⟨a, b, c, e, h1, h2, h3⟩ := h
  exact ⟨a, b, c, e, Row.weaken h1 hx, Row.weaken h2 hx, Row.weaken h3 hx⟩
theorem PC.len {W : World} {cs : List Value} {p : Pr} (h : PC X W cs p) : cs.length = 6 := by
  obtain ⟨a, b, c, e, _⟩ := h
  rw [e]; rfl
/-- One for each. -/
structure Each (X : Nat → Prop) (W : World) (css : List (List Value)) (l : List Pr) : Prop where
  len : css.length = l.length
  at' : ∀ (i : Nat) (cs : List Value) (p : Pr), css[i]? = some cs → l[i]? = some p → PC X W cs p
theorem Each.keep {W W' : World} {css : List (List Value)} {l : List Pr} (h : Each X W css l) (hb : Keeps X W W') : Each X W' css l := ⟨h.len, fun i cs p h1 h2 => (h.at' i cs p h1 h2).keep hb⟩
theorem Each.weaken {W : World} {css : List (List Value)} {l : List Pr} (h : Each X W css l) (hx : ∀ g, X g → g < W.heap.size → Y g) : Each Y W css l := ⟨h.len, fun i cs p h1 h2 => (h.at' i cs p h1 h2).weaken hx⟩
theorem Each.six {W : World} {css : List (List Value)} {l : List Pr} (h : Each X W css l) : ∀ c ∈ css, c.length = 6 := by
  intro c hc
  obtain ⟨i, hi, rfl⟩ := List.getElem_of_mem hc
  exact (h.at' i _ _ (List.getElem?_eq_getElem hi) (List.getElem?_eq_getElem (by rw [← h.len]; exact hi))).len
theorem Each.part {W : World} {css : List (List Value)} {l : List Pr} (h : Each X W css l) (i n : Nat) : Each X W ((css.drop i).take n) ((l.drop i).take n) := by
  refine ⟨by simp [h.len], fun j cs p h1 h2 => ?_⟩
  rw [List.getElem?_take] at h1 h2
  split at h1
  · rename_i hj
    rw [if_pos hj] at h2
    rw [List.getElem?_drop] at h1 h2
    exact h.at' (i + j) cs p h1 h2
  · cases h1
theorem Each.nil (X : Nat → Prop) (W : World) : Each X W [] [] := ⟨rfl, fun i cs p h => by simp at h⟩
theorem Each.push {W : World} {css : List (List Value)} {l : List Pr} {cs : List Value} {p : Pr} (h : Each X W css l) (hp : PC X W cs p) : Each X W (css ++ [cs]) (l ++ [p]) := by
  refine ⟨by simp [h.len], fun i c q h1 h2 => ?_⟩
  have hl := h.len
  by_cases hi : i < css.length
  · rw [List.getElem?_append_left hi] at h1
    rw [List.getElem?_append_left (by omega)] at h2
    exact h.at' i c q h1 h2
  · have := (List.getElem?_eq_some_iff.1 h1).1
    rw [List.length_append, List.length_singleton] at this
    obtain rfl : i = css.length := by omega
    rw [List.getElem?_append_right (Nat.le_refl _), Nat.sub_self] at h1
    rw [List.getElem?_append_right (by omega), hl, Nat.sub_self] at h2
    cases h1; cases h2; exact hp
/-- A row of protos. -/
def PRow (X : Nat → Prop) (W : World) (v : Value) (l : List Pr) : Prop := ∃ css, Row X W v css ∧ Each X W css l
/-- The cells of a unit. -/
def UC (X : Nat → Prop) (W : World) (cs : List Value) (u : Un) : Prop := ∃ vu vp, cs = [.string (strOf u.nm), .int .i64 u.ver, vu, .int .i64 u.funs, vp] ∧ Rw Us.cells X W vu u.uses ∧ PRow X W vp u.prs
theorem UC.keep {W W' : World} {cs : List Value} {u : Un} (h : UC X W cs u) (hb : Keeps X W W') : UC X W' cs u := by
  obtain ⟨a, b, e, h1, css, h2, h3⟩ := h
  exact ⟨a, b, e, Row.keep h1 hb, css, h2.keep hb, h3.keep hb⟩
theorem UC.later {W W' : World} {cs : List Value} {u : Un} (h : UC X W cs u) (hb : Below W.heap.size W W') : UC X W' cs u := h.keep (.of hb)
theorem UC.weaken {W : World} {cs : List Value} {u : Un} (h : UC X W cs u) (hx : ∀ g, X g → g < W.heap.size → Y g) : UC Y W cs u := by
  obtain ⟨a, b, e, h1, css, h2, h3⟩ := h
  exact ⟨a, b, e, Row.weaken h1 hx, css, h2.weaken hx, h3.weaken hx⟩
theorem Rw.keep {α : Type} {c : α → List Value} {W W' : World} {v : Value} {l : List α} (h : Rw c X W v l) (hb : Keeps X W W') : Rw c X W' v l := Row.keep h hb
theorem Rw.nil {α : Type} (c : α → List Value) (X : Nat → Prop) (W : World) : Rw c X W (.slice none 0 0) [] := Row.nil X W
theorem us_three : ∀ l : List Us, ∀ c ∈ l.map Us.cells, c.length = 3 := fun l c hc => by obtain ⟨x, _, rfl⟩ := List.mem_map.1 hc; rfl
theorem cp_two : ∀ l : List Cp, ∀ c ∈ l.map Cp.cells, c.length = 2 := fun l c hc => by obtain ⟨x, _, rfl⟩ := List.mem_map.1 hc; rfl
theorem vl_three : ∀ l : List Vl, ∀ c ∈ l.map Vl.cells, c.length = 3 := fun l c hc => by obtain ⟨x, _, rfl⟩ := List.mem_map.1 hc; rfl
theorem ix_four : ∀ l : List Ix, ∀ c ∈ l.map Ix.cells, c.length = 4 := fun l c hc => by obtain ⟨x, _, rfl⟩ := List.mem_map.1 hc; rfl
theorem uc_zero (X : Nat → Prop) (W : World) : UC X W [.string ByteArray.empty, .int .i64 0, .slice none 0 0, .int .i64 0, .slice none 0 0] Un.zero := ⟨_, _, rfl, Rw.nil _ X W, ⟨[], Row.nil X W, Each.nil X W⟩⟩

/-! as they were read -/
section
open Go.ChangeShapes Go.WideShapes Go.Deep
variable {H : Type} {enc : TypeId × Value → H} {w : World}

theorem strOf_self' (s : ByteArray) : Dk.strOf s.data.toList = s := by unfold Dk.strOf; simp

/-- The fields of a struct. -/
theorem field_of {t : TypeId} {fs : Array Field} {n : Nat} {cs : List Value} {x : DataW H × List MemPlace} (hs : Tryd.prog.underlying t = some (.struct fs)) (hone : oneCellFields Tryd.prog fs = true) (hC : Tryd.prog.cellsOf t = fs.size)
    (h : DataW.trod enc Tryd.prog w 0 (fun _ => true) true n t cs = some x) : cs.length = fs.size ∧ ∀ (i : Nat) (u : TypeId) (v : Value), (fs.map (·.type))[i]? = some u → cs[i]? = some v → ∃ m y, DataW.trod enc Tryd.prog w 0 (fun _ => true) true m u [v] = some y := by
  obtain ⟨xs, m, _, _, hlen, hxl, hf⟩ := DataW.trod_struct hs h
  rw [hC] at hlen
  refine ⟨hlen, fun i u v ht hv => ?_⟩
  rw [Array.getElem?_map] at ht
  obtain ⟨f, hfi, rfl⟩ := Option.map_eq_some_iff.1 ht
  have hi := (Array.getElem?_eq_some_iff.1 hfi).1
  have e := hf i f hfi
  obtain ⟨e1, e2⟩ := hone_of hone i f hfi
  have hil : i < cs.length := by omega
  have hd : (cs.drop i).take 1 = [v] := by
    rw [List.drop_eq_getElem_cons hil]
    rw [List.getElem?_eq_getElem hil] at hv
    cases hv; rfl
  rw [e1, e2, hd, List.getElem?_eq_getElem (by omega)] at e
  exact ⟨_, _, e⟩

/-- A slice. -/
theorem open_row {t e : TypeId} {k n : Nat} {v : Value} {x : DataW H × List MemPlace} (ht : Tryd.prog.underlying t = some (.slice e)) (hC : Tryd.prog.cellsOf e = k) (hk : 0 < k)
    (h : DataW.trod enc Tryd.prog w 0 (fun _ => true) true n t [v] = some x) : ∃ css, Row (fun _ => True) w v css ∧ ∀ c ∈ css, c.length = k ∧ ∃ m y, DataW.trod enc Tryd.prog w 0 (fun _ => true) true m e c = some y := by
  have hlt : ∀ z ∈ x.2, z.block < w.heap.size := fun z hz => DataW.trod_lt n _ _ _ (show _ = some (x.1, x.2) from h) z hz
  rcases open_slice ht h with ⟨hcs, hx⟩ | ⟨a, len, cap, m, n', D, Pl, hcs, _, hl, hmx, hm, hx, hi⟩
  · simp only [List.cons.injEq, and_true] at hcs
    subst hcs
    exact ⟨[], Row.nil _ w, fun c hc => by cases hc⟩
  · simp only [List.cons.injEq, and_true] at hcs
    subst hcs
    simp only [if_true] at hm
    by_cases hl0 : len = 0
    · subst hl0
      exact ⟨[], ⟨_, _, rfl, Nat.zero_le _, .inl rfl⟩, fun c hc => by cases hc⟩
    · rw [hC] at hx hi
      obtain ⟨b, off, spot⟩ := a
      obtain ⟨cs0, hc0, _⟩ := hi 0 (by omega)
      obtain ⟨_, hlen0, hat0⟩ := World.cells?_some hc0
      have hspot : spot = none := by
        have h0 := hat0 0 hk
        rw [List.getElem?_eq_getElem (by omega)] at h0
        simpa [Addr.add] using World.cell?_spot h0
      subst hspot
      have hbW : b < w.heap.size := hlt (.cell b off) (by
        rw [hx]
        refine List.mem_append_left _ (MemPlace.mem_row.2 ⟨0, ?_, by simp⟩)
        exact Nat.mul_pos (by omega) hk)
      have key : ∀ q, q ≤ len → ∃ css : List (List Value), css.length = q ∧ (∀ c ∈ css, c.length = k ∧ ∃ m y, DataW.trod enc Tryd.prog w 0 (fun _ => true) true m e c = some y) ∧ w.rangeAt b off css.flatten := by
        intro q
        induction q with
        | zero => exact fun _ => ⟨[], rfl, (fun c hc => by cases hc), (fun j u hu => by simp at hu)⟩
        | succ q ih =>
          intro hq
          obtain ⟨css, h1, h2, h3⟩ := ih (by omega)
          obtain ⟨cs, hc, htr⟩ := hi q (by omega)
          obtain ⟨_, hlen, hat⟩ := World.cells?_some hc
          refine ⟨css ++ [cs], by simp [h1], fun c hc => ?_, fun j u hu => ?_⟩
          · rcases List.mem_append.1 hc with hc | hc
            · exact h2 c hc
            · rw [List.mem_singleton.1 hc]; exact ⟨hlen, _, _, htr⟩
          · have hfl := flat_len (fun c hc => (h2 c hc).1)
            rw [h1] at hfl
            rw [List.flatten_append] at hu
            by_cases hj : j < css.flatten.length
            · rw [List.getElem?_append_left hj] at hu
              exact h3 j u hu
            · rw [List.getElem?_append_right (by omega)] at hu
              simp only [List.flatten_cons, List.flatten_nil, List.append_nil] at hu
              have hq := (List.getElem?_eq_some_iff.1 hu).1
              have := hat (j - css.flatten.length) (by omega)
              rw [hu, WideShapes.add_plain, WideShapes.add_plain] at this
              rw [hfl] at this hj
              rwa [show off + q * k + (j - q * k) = off + j by omega] at this
      obtain ⟨css, h1, h2, h3⟩ := key len (Nat.le_refl _)
      subst h1
      exact ⟨css, ⟨_, _, rfl, hl, .inr ⟨b, off, rfl, ⟨trivial, hbW⟩, h3⟩⟩, h2⟩

/-- Objects out of cells, one for each. -/
theorem gather {α : Type} {c : α → List Value} {P : List Value → Prop} {Q : α → Prop} (hP : ∀ cs, P cs → ∃ x, cs = c x ∧ Q x) : ∀ (css : List (List Value)), (∀ cs ∈ css, P cs) → ∃ l : List α, css = l.map c ∧ ∀ x ∈ l, Q x
  | [], _ => ⟨[], rfl, fun _ h => by cases h⟩
  | cs :: css, h => by
    obtain ⟨x, rfl, hx⟩ := hP cs (h cs (List.mem_cons_self ..))
    obtain ⟨l, rfl, hl⟩ := gather hP css (fun c hc => h c (List.mem_cons_of_mem _ hc))
    refine ⟨x :: l, rfl, fun y hy => ?_⟩
    rcases List.mem_cons.1 hy with rfl | hy
    · exact hx
    · exact hl y hy
theorem int_wf {n : Int} (h : (Lit.int .i64 n).wf = true) : -9223372036854775808 ≤ n ∧ n ≤ 9223372036854775807 := by
  simp only [Lit.wf, IntKind.min, IntKind.max, IntKind.signed, IntKind.bits, Bool.and_eq_true, decide_eq_true_eq, if_true] at h
  omega

theorem open_us {n : Nat} {cs : List Value} {x : DataW H × List MemPlace} (h : DataW.trod enc Tryd.prog w 0 (fun _ => true) true n 43 cs = some x) : ∃ u : Us, cs = u.cells := by
  obtain ⟨hlen, key⟩ := field_of Tryd.underlying43 (by kernel_rfl) (by kernel_rfl) h
  match hcs : cs, hlen with
  | [c0, c1, c2], _ =>
    obtain ⟨m0, y0, h0⟩ := key 0 9 c0 (by simp) rfl
    obtain ⟨m1, y1, h1⟩ := key 1 9 c1 (by simp) rfl
    obtain ⟨m2, y2, h2⟩ := key 2 3 c2 (by simp) rfl
    obtain ⟨s0, e0, _, w0⟩ := DataW.trod_string Tryd.underlying9 h0
    obtain ⟨s1, e1, _, w1⟩ := DataW.trod_string Tryd.underlying9 h1
    obtain ⟨n2, e2, _, w2⟩ := DataW.trod_int Tryd.underlying3 h2
    cases e0; cases e1; cases e2
    refine ⟨⟨s0.data.toList, s1.data.toList, n2⟩, ?_⟩
    unfold Us.cells
    rw [strOf_self', strOf_self']
theorem open_cp {n : Nat} {cs : List Value} {x : DataW H × List MemPlace} (h : DataW.trod enc Tryd.prog w 0 (fun _ => true) true n 83 cs = some x) : ∃ u : Cp, cs = u.cells := by
  obtain ⟨hlen, key⟩ := field_of Tryd.underlying83 (by kernel_rfl) (by kernel_rfl) h
  match hcs : cs, hlen with
  | [c0, c1], _ =>
    obtain ⟨m0, y0, h0⟩ := key 0 4 c0 (by simp) rfl
    obtain ⟨m1, y1, h1⟩ := key 1 3 c1 (by simp) rfl
    obtain ⟨b, e0, _⟩ := DataW.trod_bool Tryd.underlying4 h0
    obtain ⟨n1, e1, _, w1⟩ := DataW.trod_int Tryd.underlying3 h1
    cases e0; cases e1
    exact ⟨⟨b, n1⟩, rfl⟩
theorem open_vl {n : Nat} {cs : List Value} {x : DataW H × List MemPlace} (h : DataW.trod enc Tryd.prog w 0 (fun _ => true) true n 45 cs = some x) : ∃ u : Vl, cs = u.cells ∧ Fits u := by
  obtain ⟨hlen, key⟩ := field_of Tryd.underlying45 (by kernel_rfl) (by kernel_rfl) h
  match hcs : cs, hlen with
  | [c0, c1, c2], _ =>
    obtain ⟨m0, y0, h0⟩ := key 0 3 c0 (by simp) rfl
    obtain ⟨m1, y1, h1⟩ := key 1 2 c1 (by simp) rfl
    obtain ⟨m2, y2, h2⟩ := key 2 9 c2 (by simp) rfl
    obtain ⟨n0, e0, _, w0⟩ := DataW.trod_int Tryd.underlying3 h0
    obtain ⟨n1, e1, _, w1⟩ := DataW.trod_int Tryd.underlying2 h1
    obtain ⟨s2, e2, _, w2⟩ := DataW.trod_string Tryd.underlying9 h2
    cases e0; cases e1; cases e2
    refine ⟨⟨n0, n1, s2.data.toList⟩, ?_, int_wf w1⟩
    unfold Vl.cells
    rw [strOf_self']
theorem open_ix {n : Nat} {cs : List Value} {x : DataW H × List MemPlace} (h : DataW.trod enc Tryd.prog w 0 (fun _ => true) true n 89 cs = some x) : ∃ u : Ix, cs = u.cells := by
  obtain ⟨hlen, key⟩ := field_of Tryd.underlying89 (by kernel_rfl) (by kernel_rfl) h
  match hcs : cs, hlen with
  | [c0, c1, c2, c3], _ =>
    obtain ⟨m0, y0, h0⟩ := key 0 3 c0 (by simp) rfl
    obtain ⟨m1, y1, h1⟩ := key 1 3 c1 (by simp) rfl
    obtain ⟨m2, y2, h2⟩ := key 2 3 c2 (by simp) rfl
    obtain ⟨m3, y3, h3⟩ := key 3 3 c3 (by simp) rfl
    obtain ⟨n0, e0, _, w0⟩ := DataW.trod_int Tryd.underlying3 h0
    obtain ⟨n1, e1, _, w1⟩ := DataW.trod_int Tryd.underlying3 h1
    obtain ⟨n2, e2, _, w2⟩ := DataW.trod_int Tryd.underlying3 h2
    obtain ⟨n3, e3, _, w3⟩ := DataW.trod_int Tryd.underlying3 h3
    cases e0; cases e1; cases e2; cases e3
    exact ⟨⟨n0, n1, n2, n3⟩, rfl⟩
theorem open_pr {n : Nat} {cs : List Value} {x : DataW H × List MemPlace} (h : DataW.trod enc Tryd.prog w 0 (fun _ => true) true n 38 cs = some x) : ∃ u : Pr, PC (fun _ => True) w cs u ∧ FitsP u := by
  obtain ⟨hlen, key⟩ := field_of Tryd.underlying38 (by kernel_rfl) (by kernel_rfl) h
  match hcs : cs, hlen with
  | [c0, c1, c2, c3, c4, c5], _ =>
    obtain ⟨m0, y0, h0⟩ := key 0 9 c0 (by simp) rfl
    obtain ⟨m1, y1, h1⟩ := key 1 3 c1 (by simp) rfl
    obtain ⟨m2, y2, h2⟩ := key 2 3 c2 (by simp) rfl
    obtain ⟨m3, y3, h3⟩ := key 3 34 c3 (by simp) rfl
    obtain ⟨m4, y4, h4⟩ := key 4 35 c4 (by simp) rfl
    obtain ⟨m5, y5, h5⟩ := key 5 36 c5 (by simp) rfl
    obtain ⟨s0, e0, _, w0⟩ := DataW.trod_string Tryd.underlying9 h0
    obtain ⟨n1, e1, _, w1⟩ := DataW.trod_int Tryd.underlying3 h1
    obtain ⟨n2, e2, _, w2⟩ := DataW.trod_int Tryd.underlying3 h2
    cases e0; cases e1; cases e2
    obtain ⟨k3, r3, q3⟩ := open_row (k := 4) Tryd.underlying34 (by kernel_rfl) (by decide) h3
    obtain ⟨k4, r4, q4⟩ := open_row (k := 3) Tryd.underlying35 (by kernel_rfl) (by decide) h4
    obtain ⟨k5, r5, q5⟩ := open_row (k := 2) Tryd.underlying36 (by kernel_rfl) (by decide) h5
    obtain ⟨l3, rfl, -⟩ := gather (c := Ix.cells) (Q := fun _ => True) (fun cs (h : cs.length = 4 ∧ ∃ m y, DataW.trod enc Tryd.prog w 0 (fun _ => true) true m 89 cs = some y) => by obtain ⟨_, m, y, h⟩ := h; obtain ⟨u, hu⟩ := open_ix h; exact ⟨u, hu, trivial⟩) k3 q3
    obtain ⟨l4, rfl, f4⟩ := gather (c := Vl.cells) (Q := Fits) (fun cs (h : cs.length = 3 ∧ ∃ m y, DataW.trod enc Tryd.prog w 0 (fun _ => true) true m 45 cs = some y) => by obtain ⟨_, m, y, h⟩ := h; exact open_vl h) k4 q4
    obtain ⟨l5, rfl, -⟩ := gather (c := Cp.cells) (Q := fun _ => True) (fun cs (h : cs.length = 2 ∧ ∃ m y, DataW.trod enc Tryd.prog w 0 (fun _ => true) true m 83 cs = some y) => by obtain ⟨_, m, y, h⟩ := h; obtain ⟨u, hu⟩ := open_cp h; exact ⟨u, hu, trivial⟩) k5 q5
    exact ⟨⟨s0.data.toList, n1, n2, l3, l4, l5⟩, ⟨c3, c4, c5, by rw [strOf_self'], r3, r4, r5⟩, f4⟩
theorem gatherP : ∀ (css : List (List Value)), (∀ cs ∈ css, ∃ u : Pr, PC (fun _ => True) w cs u ∧ FitsP u) → ∃ l : List Pr, Each (fun _ => True) w css l ∧ ∀ x ∈ l, FitsP x
  | [], _ => ⟨[], Each.nil _ w, fun _ h => by cases h⟩
  | cs :: css, h => by
    obtain ⟨x, hx, hf⟩ := h cs (List.mem_cons_self ..)
    obtain ⟨l, hl, hF⟩ := gatherP css (fun c hc => h c (List.mem_cons_of_mem _ hc))
    refine ⟨x :: l, ⟨by simp [hl.len], fun i c p h1 h2 => ?_⟩, fun y hy => ?_⟩
    · cases i with
      | zero => cases h1; cases h2; exact hx
      | succ i => exact hl.at' i c p h1 h2
    · rcases List.mem_cons.1 hy with rfl | hy
      · exact hf
      · exact hF y hy
set_option maxRecDepth 100000 in
theorem open_un {b0 : Nat} {v : Value} {d : DataW H} {p : List MemPlace} (hv : Value.okWide Tryd.prog w .any b0 25 v) (h : DataW.Trod enc Tryd.prog w 0 (fun _ => true) true 25 v d p) :
    ∃ (cs : List Value) (u : Un), v = .agg cs.toArray ∧ UC (fun _ => True) w cs u ∧ FitsU u := by
  obtain ⟨a, rfl, hsz⟩ := okWide_struct Tryd.underlying25 hv
  obtain ⟨fuel, hf⟩ := h
  obtain ⟨hlen, key⟩ := field_of Tryd.underlying25 (by kernel_rfl) (by kernel_rfl) hf
  simp only [Value.cells] at hlen key
  match hcs : a.toList, hlen with
  | [c0, c1, c2, c3, c4], _ =>
    rw [hcs] at key
    obtain ⟨m0, y0, h0⟩ := key 0 9 c0 (by simp) rfl
    obtain ⟨m1, y1, h1⟩ := key 1 3 c1 (by simp) rfl
    obtain ⟨m2, y2, h2⟩ := key 2 22 c2 (by simp) rfl
    obtain ⟨m3, y3, h3⟩ := key 3 3 c3 (by simp) rfl
    obtain ⟨m4, y4, h4⟩ := key 4 23 c4 (by simp) rfl
    obtain ⟨s0, e0, _, w0⟩ := DataW.trod_string Tryd.underlying9 h0
    obtain ⟨n1, e1, _, w1⟩ := DataW.trod_int Tryd.underlying3 h1
    obtain ⟨n3, e3, _, w3⟩ := DataW.trod_int Tryd.underlying3 h3
    cases e0; cases e1; cases e3
    obtain ⟨k2, r2, q2⟩ := open_row (k := 3) Tryd.underlying22 (by kernel_rfl) (by decide) h2
    obtain ⟨k4, r4, q4⟩ := open_row (k := 6) Tryd.underlying23 (by kernel_rfl) (by decide) h4
    obtain ⟨l2, rfl, -⟩ := gather (c := Us.cells) (Q := fun _ => True) (fun cs (h : cs.length = 3 ∧ ∃ m y, DataW.trod enc Tryd.prog w 0 (fun _ => true) true m 43 cs = some y) => by obtain ⟨_, m, y, h⟩ := h; obtain ⟨u, hu⟩ := open_us h; exact ⟨u, hu, trivial⟩) k2 q2
    obtain ⟨l4, e4, f4⟩ := gatherP k4 (fun cs hc => by obtain ⟨_, m, y, h⟩ := q4 cs hc; exact open_pr h)
    refine ⟨a.toList, ⟨s0.data.toList, n1, l2, n3, l4⟩, by simp, ⟨c2, c4, by rw [hcs, strOf_self'], r2, k4, r4, e4⟩, f4⟩
end

end Go.Proofs.YtmloljfnnkfkjaaDoor.Im

