/- Nodes in rows, as they were read; in blocks; parts of rows. No condition but those that each states. -/
import Derived.Test.YtcfgngaabledpaaTrP
import Derived.Test.YtcfgngaabledpaaTnC
import Derived.Test.YtcfgngaabledpaaDkG
import Derived.ChangeSlices
import Derived.Deep.Slices
import Derived.Deep.Fields
import Derived.ChangeSame
namespace Go.Proofs.Ytcfgngaabledpaa.Tr
open Go.RowKit Dk Lx

/-- A node. -/
structure Nd where
  kind : Int
  kids : Int
  name : List UInt8
  n : Int
  text : List UInt8
deriving DecidableEq

def Nd.cells (x : Nd) : List Value := [.int .i64 x.kind, .int .i64 x.kids, .string (strOf x.name), .int .i64 x.n, .string (strOf x.text)]
def Nd.zero : Nd := ⟨0, 0, [], 0, []⟩
theorem n_one (x : Nd) : ∀ u ∈ x.cells, u.oneCell' = true := by
  intro u hu
  simp [Nd.cells] at hu
  rcases hu with rfl | rfl | rfl | rfl | rfl <;> rfl
theorem n_all (x : Nd) : x.cells.toArray.all (·.oneCell') = true := all_oneCell_toArray (n_one x)
theorem n_info (x : Nd) : (Try.prog.info? 36).map (·.size) = some x.cells.length := by kernel_rfl
theorem n_infoA (x : Nd) : (Try.prog.info? 36).map (·.size) = some x.cells.toArray.size := n_info x
theorem n_info3 : (Try.prog.info? 36).map (fun i => (i.zero, i.size, i.bytes)) = some (some (.agg Nd.zero.cells.toArray), 5, 56) := by kernel_rfl

/-- Block B holds a node. -/
structure NB (W : World) (B : Nat) (x : Nd) : Prop where
  cells : W.rangeAt B 0 x.cells
  room : W.there B 0 5
  lt : B < W.heap.size

theorem NB.of_block {W W' : World} {B : Nat} {x : Nd} (h : NB W B x) (hb : W'.heap[B]? = W.heap[B]?) (hs : W.heap.size ≤ W'.heap.size) : NB W' B x := ⟨rangeAt_block h.cells hb, there_block h.room hb, Nat.lt_of_lt_of_le h.lt hs⟩
theorem NB.later {W W' : World} {B : Nat} {x : Nd} (h : NB W B x) (hb : Below W.heap.size W W') : NB W' B x := h.of_block (hb.block B h.lt) hb.size
theorem nb_new (w : World) (x : Nd) (ty : TypeId) : NB (w.alloc (.cells x.cells.toArray ty)) w.heap.size x := ⟨range_new w x.cells ty, there_new w x.cells.toArray ty, by simp⟩
theorem NB.set {W : World} {B : Nat} {x : Nd} (h : NB W B x) (x' : Nd) : NB (W.setCells B 0 x'.cells) B x' :=
  ⟨World.rangeAt_setCells_same W B 0 x'.cells h.room, World.there_setCells h.room _ _ _, by rw [Dk.size_setCells]; exact h.lt⟩
theorem NB.at {W : World} {B : Nat} {x : Nd} (h : NB W B x) : W.cell? ⟨B, 0, none⟩ = some (.int .i64 x.kind) ∧ W.cell? ⟨B, 1, none⟩ = some (.int .i64 x.kids) ∧ W.cell? ⟨B, 2, none⟩ = some (.string (strOf x.name)) ∧ W.cell? ⟨B, 3, none⟩ = some (.int .i64 x.n) ∧ W.cell? ⟨B, 4, none⟩ = some (.string (strOf x.text)) :=
  ⟨h.cells 0 _ rfl, h.cells 1 _ rfl, h.cells 2 _ rfl, h.cells 3 _ rfl, h.cells 4 _ rfl⟩

theorem nb_zero (W : World) : NB (W.alloc (.cells #[.int .i64 0, .int .i64 0, .string ⟨#[]⟩, .int .i64 0, .string ⟨#[]⟩] 36)) W.heap.size Nd.zero := nb_new W Nd.zero _

/-- A node that was put into a new block. -/
theorem nb_put (W : World) (x : Nd) : NB ((W.alloc (.cells #[.int .i64 0, .int .i64 0, .string ⟨#[]⟩, .int .i64 0, .string ⟨#[]⟩] 36)).setCells W.heap.size 0 x.cells.toArray.toList) W.heap.size x ∧
    Below W.heap.size W ((W.alloc (.cells #[.int .i64 0, .int .i64 0, .string ⟨#[]⟩, .int .i64 0, .string ⟨#[]⟩] 36)).setCells W.heap.size 0 x.cells.toArray.toList) :=
  ⟨(nb_zero W).set x, below_setCells (Below.refl _ _) _ (Nat.le_refl _) _ _ _ ((Below.refl _ _).alloc (Nat.le_refl _) _)⟩

/-! rows of nodes -/
def ncells (l : List Nd) : List Value := l.flatMap Nd.cells
theorem ncells_app (a b : List Nd) : ncells (a ++ b) = ncells a ++ ncells b := by unfold ncells; rw [List.flatMap_append]
theorem ncells_cons (e : Nd) (l : List Nd) : ncells (e :: l) = e.cells ++ ncells l := rfl
theorem ncells_length (l : List Nd) : (ncells l).length = l.length * 5 := by
  induction l with
  | nil => rfl
  | cons a l ih => rw [ncells_cons, List.length_append, ih, List.length_cons]; show 5 + _ = _; omega
theorem ncells_ones (l : List Nd) : ∀ u ∈ ncells l, u.oneCell' = true := by
  intro u hu
  obtain ⟨e, _, he⟩ := List.mem_flatMap.1 hu
  exact n_one e u he
theorem ncells_at {ts : List Nd} {i : Nat} (h : i < ts.length) (j : Nat) (hj : j < 5) : (ncells ts)[i * 5 + j]? = (ts[i]).cells[j]? := by
  induction ts generalizing i with
  | nil => simp at h
  | cons t ts ih =>
    rw [ncells_cons]
    cases i with
    | zero => rw [Nat.zero_mul, Nat.zero_add, List.getElem?_append_left (by show j < 5; exact hj)]; rfl
    | succ i =>
      rw [List.getElem?_append_right (by show 5 ≤ _; omega)]
      rw [show (i + 1) * 5 + j - t.cells.length = i * 5 + j by show (i + 1) * 5 + j - 5 = _; omega]
      exact ih (by simpa using h)

/-- Numbers of kids that an int can be. -/
def Fit (ts : List Nd) : Prop := ∀ x ∈ ts, x.kids ≤ 9223372036854775807
/-- A slice that holds these nodes. -/
def Nds (W : World) (v : Value) (ts : List Nd) : Prop := ∃ p c, v = .slice p ts.length c ∧ ts.length ≤ c ∧ Fit ts ∧ (ts = [] ∨ ∃ g o, p = some ⟨g, o, none⟩ ∧ g < W.heap.size ∧ W.rangeAt g o (ncells ts))

theorem Nds.later {W W' : World} {v : Value} {ts : List Nd} (h : Nds W v ts) (hb : Below W.heap.size W W') : Nds W' v ts := by
  obtain ⟨p, c, rfl, hc, hf, h | ⟨g, o, rfl, hg, hr⟩⟩ := h
  · exact ⟨p, c, rfl, hc, hf, .inl h⟩
  · exact ⟨_, c, rfl, hc, hf, .inr ⟨g, o, rfl, Nat.lt_of_lt_of_le hg hb.size, rangeAt_block hr (hb.block g hg)⟩⟩

/-- What lies at a place. -/
theorem Nds.node {W : World} {p : Option Addr} {m c : Nat} {ts : List Nd} (h : Nds W (.slice p m c) ts) (i : Nat) (hi : i < ts.length) :
    ∃ g o, p = some ⟨g, o, none⟩ ∧ g < W.heap.size ∧ W.cell? ⟨g, o + i * 5, none⟩ = some (.int .i64 ts[i].kind) ∧ W.cell? ⟨g, o + i * 5 + 1, none⟩ = some (.int .i64 ts[i].kids) ∧ W.cell? ⟨g, o + i * 5 + 2, none⟩ = some (.string (strOf ts[i].name)) ∧ W.cell? ⟨g, o + i * 5 + 3, none⟩ = some (.int .i64 ts[i].n) ∧ W.cell? ⟨g, o + i * 5 + 4, none⟩ = some (.string (strOf ts[i].text)) ∧ W.rangeAt g (o + i * 5) (ts[i]).cells := by
  obtain ⟨p', c', e, hc, hfit, h0 | ⟨g, o, hp, hg, hr⟩⟩ := h
  · subst h0; simp at hi
  · cases e
    have q : ∀ j (hj : j < 5) u, (ts[i]).cells[j]? = some u → W.cell? ⟨g, o + i * 5 + j, none⟩ = some u := fun j hj u hu => by
      have := hr (i * 5 + j) u (by rw [ncells_at hi j hj]; exact hu)
      rwa [← Nat.add_assoc] at this
    refine ⟨g, o, hp, hg, q 0 (by decide) _ rfl, q 1 (by decide) _ rfl, q 2 (by decide) _ rfl, q 3 (by decide) _ rfl, q 4 (by decide) _ rfl, fun j u hu => ?_⟩
    exact q j (by have := (List.getElem?_eq_some_iff.1 hu).1; exact this) u hu

theorem strOf_self' (s : ByteArray) : strOf s.data.toList = s := by unfold strOf; simp

section
open Go.ChangeShapes Go.WideShapes Go.Deep
theorem Nds.fit {W : World} {v : Value} {ts : List Nd} (h : Nds W v ts) : Fit ts := by obtain ⟨_, _, _, _, hf, _⟩ := h; exact hf

theorem nd_one : ∃ fs, Try.prog.underlying 36 = some (.struct fs) ∧ fs.size = 5 ∧ oneCellFields Try.prog fs = true ∧ Try.prog.cellsOf 36 = 5 ∧ (fs.map (·.type)) = #[3, 3, 9, 2, 9] :=
  ⟨_, Try.underlying36, rfl, by kernel_rfl, by kernel_rfl, by simp⟩


/-- One node, as it was read. -/
theorem open_nd {H : Type} {enc : TypeId × Value → H} {w : World} {n : Nat} {cs : List Value} {x : DataW H × List MemPlace}
    (h : DataW.trod enc Try.prog w 0 (fun _ => true) true n 36 cs = some x) : ∃ o : Nd, cs = o.cells ∧ o.kids ≤ 9223372036854775807 := by
  obtain ⟨fs, hs, hsz, hone, hC, hty⟩ := nd_one
  obtain ⟨xs, m, _, _, hlen, hxl, hf⟩ := DataW.trod_struct hs h
  rw [hC] at hlen
  rw [hsz] at hxl
  have key : ∀ (i : Nat) (t : TypeId) (v : Value), (fs.map (·.type))[i]? = some t → cs[i]? = some v → i < 5 → ∃ y, DataW.trod enc Try.prog w 0 (fun _ => true) true m t [v] = some y := by
    intro i t v ht hv hi
    have hfi : fs[i]? = some (fs[i]'(by omega)) := Array.getElem?_eq_getElem (by omega)
    have e := hf i _ hfi
    obtain ⟨e1, e2⟩ := hone_of hone i _ hfi
    rw [Array.getElem?_map, hfi] at ht
    simp only [Option.map_some, Option.some.injEq] at ht
    have hil : i < cs.length := by omega
    have hd : (cs.drop i).take 1 = [v] := by
      rw [List.drop_eq_getElem_cons hil]
      rw [List.getElem?_eq_getElem hil] at hv
      simp only [Option.some.injEq] at hv
      rw [hv]; rfl
    rw [e1, e2, hd, ht, List.getElem?_eq_getElem (by omega)] at e
    exact ⟨_, e⟩
  rw [hty] at key
  match cs, hlen with
  | [c0, c1, c2, c3, c4], _ =>
    obtain ⟨y0, h0⟩ := key 0 _ c0 rfl rfl (by decide)
    obtain ⟨y1, h1⟩ := key 1 _ c1 rfl rfl (by decide)
    obtain ⟨y2, h2⟩ := key 2 _ c2 rfl rfl (by decide)
    obtain ⟨y3, h3⟩ := key 3 _ c3 rfl rfl (by decide)
    obtain ⟨y4, h4⟩ := key 4 _ c4 rfl rfl (by decide)
    obtain ⟨n0, e0, _, w0⟩ := DataW.trod_int Try.underlying3 h0
    obtain ⟨n1, e1, _, w1⟩ := DataW.trod_int Try.underlying3 h1
    obtain ⟨s, e2, _, w2⟩ := DataW.trod_string Try.underlying9 h2
    obtain ⟨n3, e3, _, w3⟩ := DataW.trod_int Try.underlying2 h3
    obtain ⟨s', e4, _, w4⟩ := DataW.trod_string Try.underlying9 h4
    cases e0; cases e1; cases e2; cases e3; cases e4
    refine ⟨⟨n0, n1, s.data.toList, n3, s'.data.toList⟩, ?_, by have := w1; simp [Lit.wf] at this; show n1 ≤ _; omega⟩
    unfold Nd.cells
    rw [strOf_self', strOf_self']

theorem gather (w : World) (b off : Nat) : ∀ n, (∀ j, j < n → ∃ o : Nd, w.rangeAt b (off + j * 5) o.cells ∧ o.kids ≤ 9223372036854775807) → ∃ ts : List Nd, ts.length = n ∧ Fit ts ∧ w.rangeAt b off (ncells ts)
  | 0, _ => ⟨[], rfl, (fun _ h => by cases h), fun j v hv => by simp [ncells] at hv⟩
  | n + 1, h => by
    obtain ⟨ts, hl, hf, hr⟩ := gather w b off n (fun j hj => h j (by omega))
    obtain ⟨o, ho, hof⟩ := h n (Nat.lt_succ_self n)
    refine ⟨ts ++ [o], by rw [List.length_append, hl]; rfl, (fun x hx => by rcases List.mem_append.1 hx with h | h; exact hf x h; rw [List.mem_singleton.1 h]; exact hof), fun j v hv => ?_⟩
    rw [ncells_app] at hv
    by_cases hj : j < (ncells ts).length
    · rw [List.getElem?_append_left hj] at hv
      exact hr j v hv
    · rw [List.getElem?_append_right (by omega)] at hv
      have := ho (j - (ncells ts).length) v (by simpa [ncells] using hv)
      rw [ncells_length, hl] at this hj
      rwa [show off + n * 5 + (j - n * 5) = off + j by omega] at this

/-- A slice of nodes, as it was read. -/
theorem open_nds {H : Type} {enc : TypeId × Value → H} {w : World} {b0 : Nat} {v : Value} {d : DataW H} {p : List MemPlace}
    (hv : Value.okWide Try.prog w .any b0 22 v) (h : DataW.Trod enc Try.prog w 0 (fun _ => true) true 22 v d p) : ∃ ts, Nds w v ts := by
  have hlt : ∀ x ∈ p, x.block < w.heap.size := by obtain ⟨n, hn⟩ := h; exact DataW.trod_lt n _ _ _ hn
  obtain ⟨a0, len, cap, rfl⟩ := WideShapes.okWide_slice Try.underlying22 hv
  obtain ⟨fuel, hf⟩ := h
  obtain ⟨fs, hs, hsz, hone, hC, hty⟩ := nd_one
  rcases open_slice Try.underlying22 hf with ⟨hcs, hx⟩ | ⟨a, len', cap', m, n, D, Pl, hcs, _, hl, hmx, hm, hx, hi⟩
  · simp [Value.cells] at hcs
    obtain ⟨rfl, rfl, rfl⟩ := hcs
    exact ⟨[], _, _, rfl, Nat.zero_le _, (fun _ h => by cases h), .inl rfl⟩
  · simp [Value.cells] at hcs
    obtain ⟨rfl, rfl, rfl⟩ := hcs
    simp only [Prod.mk.injEq] at hx
    simp only [if_true] at hm
    by_cases hl0 : len = 0
    · subst hl0
      exact ⟨[], _, _, rfl, Nat.zero_le _, (fun _ h => by cases h), .inl rfl⟩
    · rw [hC] at hx hi
      obtain ⟨b, off, spot⟩ := a
      obtain ⟨cs0, hc0, _⟩ := hi 0 (by omega)
      obtain ⟨_, hlen0, hat0⟩ := World.cells?_some hc0
      have hspot : spot = none := by
        have h0 := hat0 0 (by decide)
        rw [List.getElem?_eq_getElem (by omega)] at h0
        simpa [Addr.add] using World.cell?_spot h0
      subst hspot
      have hbW : b < w.heap.size := hlt (.cell b off) (by rw [hx.2]; exact List.mem_append_left _ (MemPlace.mem_row.2 ⟨0, by omega, by simp⟩))
      obtain ⟨ts, hlen, hfit, hr⟩ := gather w b off len (fun j hj => by
        obtain ⟨cs, hc, ht⟩ := hi j (by omega)
        obtain ⟨o, rfl, hof⟩ := open_nd ht
        obtain ⟨_, hlen, hat⟩ := World.cells?_some hc
        refine ⟨o, fun q u hu => ?_, hof⟩
        have hq : q < 5 := by have := (List.getElem?_eq_some_iff.1 hu).1; omega
        have := hat q hq
        rw [hu] at this
        rw [WideShapes.add_plain, WideShapes.add_plain] at this
        exact this)
      subst hlen
      exact ⟨ts, _, _, rfl, hl, hfit, .inr ⟨b, off, rfl, hbW, hr⟩⟩

end

/-! parts of a slice of nodes -/
theorem nd_size (W : World) : (sizeOf (Try.prog.elem 22)).run Try.prog W = .ok 5 W := by kernel_rfl

/-- The numbers of kids. -/
def kidsOf (ts : List Nd) : List Int := ts.map (·.kids)
theorem kidsOf_len (ts : List Nd) : (kidsOf ts).length = ts.length := by simp [kidsOf]
theorem kidsOf_at {ts : List Nd} {i : Nat} (h : i < ts.length) : (kidsOf ts)[i]? = some ts[i].kids := by simp [kidsOf, h]
theorem kidsOf_part (ts : List Nd) (i n : Nat) : kidsOf ((ts.drop i).take n) = part (kidsOf ts) i n := by simp [kidsOf, part, List.map_take, List.map_drop]

end Go.Proofs.Ytcfgngaabledpaa.Tr
