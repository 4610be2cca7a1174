/- Rows of plain elements that grow beside a reader, in a round of a loop: what is kept. No condition but those that each states. -/
import Derived.Test.YtmloljfnnkfkjaaDoorMgAQ
import Derived.Test.YtmloljfnnkfkjaaDoorMgAX
namespace Go.Proofs.YtmloljfnnkfkjaaDoor.Im
open Go.RowKit Dk In

theorem Keeps.trans {X : Nat → Prop} {W W' W2 : World} (h : Keeps X W W') (k : Keeps X W' W2) : Keeps X W W2 := ⟨Nat.le_trans h.size k.size, fun g hg hl => (k.block g hg (Nat.lt_of_lt_of_le hl h.size)).trans (h.block g hg hl)⟩
/-- What an append of one element to a row of the call's own answers. -/
def AppOk (T E : TypeId) (Z : Nat) : Prop := ∀ {B : Nat} {W : World} {v : Value} {css : List (List Value)} {cs : List Value}, GR B E Z W v css → B ≤ W.heap.size → cs.length = Z → (∀ u ∈ cs, u.oneCell' = true) → css.length ≤ 65536 →
    ∃ q cap W7, (Builtin.append_ #[T, T] T #[v, .slice (some ⟨W.heap.size, 0, none⟩) 1 1]).run Tryd.prog (W.alloc (.cells cs.toArray E)) = .ok (.slice (some ⟨q, 0, none⟩) (css.length + 1) cap) W7 ∧
      GR B E Z W7 (.slice (some ⟨q, 0, none⟩) (css.length + 1) cap) (css ++ [cs]) ∧ Only (fun i => v.ownBlock = some i) W W7 ∧ (v.ownBlock = some q ∨ W.heap.size ≤ q)
theorem appOk_us : AppOk 22 43 3 := fun h hB hl h1 hn => app_us h hB hl h1 hn
theorem appOk_cp : AppOk 36 83 2 := fun h hB hl h1 hn => app_cp h hB hl h1 hn
theorem appOk_vl : AppOk 35 45 3 := fun h hB hl h1 hn => app_vl h hB hl h1 hn
theorem appOk_ix : AppOk 34 89 4 := fun h hB hl h1 hn => app_ix h hB hl h1 hn

/-- Since w a reader reads; since wM a row v of elements l grows; the blocks of D, older than wM, are the call's own, and so are those of L. -/
structure LP {α : Type} (c : α → List Value) (E : TypeId) (Z : Nat) (Q : Rdr) (s : List UInt8) (w wM W : World) (D : List Nat) (L : List (Nat × List Value)) (v : Value) (l : List α) (k : Nat) (b : Bool) : Prop where
  rw : RW Q s w W L k b
  gr : GR wM.heap.size E Z W v (l.map c)
  kp : Keeps (fun g => w.heap.size ≤ g ∧ g < wM.heap.size ∧ g ∉ D) wM W
  hw : w.heap.size ≤ wM.heap.size
  dl : ∀ g ∈ D, g < wM.heap.size
  pl : ∀ x ∈ L, x.1 ∈ D ∨ (wM.heap.size ≤ x.1 ∧ v.ownBlock ≠ some x.1)
section
variable {α : Type} {c : α → List Value} {E : TypeId} {Z : Nat} {Q : Rdr} {s : List UInt8} {w wM W W' : World} {D : List Nat} {L : List (Nat × List Value)} {v : Value} {l : List α} {k k' : Nat} {b b' : Bool}
theorem LP.start (c : α → List Value) (E : TypeId) (Z : Nat) (h : RW Q s w W L k b) (hL : ∀ x ∈ L, x.1 ∈ D) (hD : ∀ g ∈ D, g < W.heap.size) : LP c E Z Q s w W W D L (.slice none 0 0) [] k b :=
  ⟨h, GR.nil _ _ _ _, ⟨Nat.le_refl _, fun _ _ _ => rfl⟩, h.only.size, hD, fun x hx => .inl (hL x hx)⟩
theorem LP.own (h : LP c E Z Q s w wM W D L v l k b) : ∀ g, v.ownBlock = some g → wM.heap.size ≤ g ∧ g < W.heap.size := fun g hg => own_lo h.gr g hg
theorem LP.ok {β : Type} {r : Rd β} {R : Rep β} {e : Ending} {u : Value} {x : β} (h : LP c E Z Q s w wM W D L v l k b) (ho : RdOk Q s r R W k b e W' u x k' b') : LP c E Z Q s w wM W' D L v l k' b' := by
  have hlow := h.rw.low
  have hw := h.hw
  refine ⟨h.rw.ok ho, h.gr.keep (fun g hg => ho.only.block g (h.own g hg).2 (fun hf => by have h1 := Q.lt g hf; have h2 := (h.own g hg).1; omega)), h.kp.trans ⟨ho.only.size, fun g hg hl => ho.only.block g hl (fun hf => by have h1 := Q.lt g hf; have h2 := hg.1; omega)⟩, h.hw, h.dl, h.pl⟩
theorem LP.alloc (h : LP c E Z Q s w wM W D L v l k b) (cs : List Value) (t : TypeId) : LP c E Z Q s w wM (W.alloc (.cells cs.toArray t)) D ((W.heap.size, cs) :: L) v l k b := by
  have hb : Below W.heap.size W (W.alloc (.cells cs.toArray t)) := (Below.refl _ _).alloc (Nat.le_refl _) _
  refine ⟨h.rw.alloc cs t, h.gr.keep (fun g hg => hb.block g (h.own g hg).2), h.kp.trans (.of hb), h.hw, h.dl, fun x hx => ?_⟩
  rcases List.mem_cons.1 hx with rfl | hx
  · exact .inr ⟨h.kp.size, fun e => by have := (h.own _ e).2; exact Nat.lt_irrefl _ this⟩
  · exact h.pl x hx
theorem LP.turn {g : Nat} {c0 c1 : List Value} (h : LP c E Z Q s w wM W D ((g, c0) :: L) v l k b) (hr : RW Q s w W' ((g, c1) :: L) k b) (hs : W'.heap.size = W.heap.size) (hh : ∀ i, i ≠ g → W'.heap[i]? = W.heap[i]?) : LP c E Z Q s w wM W' D ((g, c1) :: L) v l k b := by
  have hp := h.pl (g, c0) (List.mem_cons_self ..)
  refine ⟨hr, h.gr.keep (fun i hi => hh i (fun e => ?_)), h.kp.trans ⟨by omega, fun i hi _ => hh i (fun e => ?_)⟩, h.hw, h.dl, fun x hx => ?_⟩
  · subst e
    rcases hp with hp | hp
    · have := h.dl _ hp; have := (h.own _ hi).1; omega
    · exact hp.2 hi
  · subst e
    rcases hp with hp | hp
    · exact hi.2.2 hp
    · have := hi.2.1; have := hp.1; simp only at this; omega
  · rcases List.mem_cons.1 hx with rfl | hx
    · exact hp
    · exact h.pl x (List.mem_cons_of_mem _ hx)
theorem LP.setOne {g : Nat} {c0 : List Value} (h : LP c E Z Q s w wM W D ((g, c0) :: L) v l k b) (j : Nat) (u : Value) (hj : j < c0.length) : LP c E Z Q s w wM (W.setCell ⟨g, j, none⟩ u) D ((g, c0.set j u) :: L) v l k b :=
  h.turn (h.rw.setOne j u hj) (by simp) (fun i hi => Below.heap_setCell _ _ _ _ (by simpa using hi))
theorem LP.put (h : LP c E Z Q s w wM W D L v l k b) (zc : Array Value) (t : TypeId) (pc : List Value) (hl : zc.size = pc.length) :
    (W.alloc (.cells zc t)).there W.heap.size 0 pc.toArray.size ∧ LP c E Z Q s w wM ((W.alloc (.cells zc t)).setCells W.heap.size 0 pc.toArray.toList) D ((W.heap.size, pc) :: L) v l k b := by
  obtain ⟨h1, h2⟩ := h.rw.put zc t pc hl
  have h3 := h.alloc zc.toList t
  have e : zc.toList.toArray = zc := rfl
  rw [e] at h3
  exact ⟨h1, h3.turn h2 (Dk.size_setCells _ _ _ _) (fun i hi => Dk.block_setCells _ i hi _ _ _)⟩
theorem LP.tail {x : Nat × List Value} (h : LP c E Z Q s w wM W D (x :: L) v l k b) : LP c E Z Q s w wM W D L v l k b := ⟨h.rw.tail, h.gr, h.kp, h.hw, h.dl, fun y hy => h.pl y (List.mem_cons_of_mem _ hy)⟩
/-- An element more: the blocks of L are all of D. -/
theorem LP.push {T : TypeId} (ha : AppOk T E Z) (hc : ∀ x : α, (c x).length = Z) (h1 : ∀ x : α, ∀ u ∈ c x, u.oneCell' = true) (h : LP c E Z Q s w wM W D L v l k b) (hL : ∀ x ∈ L, x.1 ∈ D) (x : α) (hn : l.length ≤ 65536) :
    ∃ q cap W7, (Builtin.append_ #[T, T] T #[v, .slice (some ⟨W.heap.size, 0, none⟩) 1 1]).run Tryd.prog (W.alloc (.cells (c x).toArray E)) = .ok (.slice (some ⟨q, 0, none⟩) (l.length + 1) cap) W7 ∧
      LP c E Z Q s w wM W7 D L (.slice (some ⟨q, 0, none⟩) (l.length + 1) cap) (l ++ [x]) k b := by
  obtain ⟨q, cap, W7, hr, hg, hO, hq⟩ := ha h.gr h.kp.size (hc x) (h1 x) (by rw [List.length_map]; exact hn)
  rw [List.length_map] at hr hg
  have hw := h.hw
  have hlt : ∀ g, v.ownBlock = some g → wM.heap.size ≤ g := fun g hg => (h.own g hg).1
  refine ⟨q, cap, W7, hr, h.rw.aside (B := wM.heap.size) hO hlt h.hw (fun y hy => h.dl _ (hL y hy)), ?_, h.kp.trans ⟨hO.size, fun g hg hl => hO.block g hl (fun e => by have := hlt g e; have := hg.2.1; omega)⟩, h.hw, h.dl, fun y hy => .inl (hL y hy)⟩
  rw [List.map_append]
  exact hg
theorem LP.row (h : LP c E Z Q s w wM W D L v l k b) : Rw c (fun g => w.heap.size ≤ g ∧ g ∉ D) W v l := by
  have hw := h.hw
  exact Row.weaken h.gr.row (fun g hg _ => ⟨by have hg' : wM.heap.size ≤ g := hg; omega, fun hd => by have := h.dl g hd; have hg' : wM.heap.size ≤ g := hg; omega⟩)
theorem LP.old {β : Type} {c' : β → List Value} {u : Value} {m : List β} (h : LP c E Z Q s w wM W D L v l k b) (hr : Rw c' (fun g => w.heap.size ≤ g ∧ g ∉ D) wM u m) : Rw c' (fun g => w.heap.size ≤ g ∧ g ∉ D) W u m :=
  Rw.weaken (Rw.keep (Rw.weaken hr (Y := fun g => w.heap.size ≤ g ∧ g < wM.heap.size ∧ g ∉ D) (fun _g hg hl => ⟨hg.1, hl, hg.2⟩)) h.kp) (fun _g hg _ => ⟨hg.1, hg.2.2⟩)
end

section
variable {s : List UInt8} {r N : Nat} (hN : r < N)
theorem dnumR {K : Nat} (hK : wideB (K : Int) = true) (W : World) (k : Nat) (b : Bool) (hk : k ≤ s.length) (h : (dRdr s r N hN).St W k b) :
    Calls Tryd.prog 40 #[ptr r, .int .i64 (K : Int)] W fun e W' => ∃ n k' b', e = .returned (.int .i64 n) ∧ RdOk (dRdr s r N hN) s (rdN K) intR W k b e W' (.int .i64 n) n k' b' :=
  (dnum_any hN K hK W k b hk h).mono fun e W' ⟨v, n, k', b', ho⟩ => by
    have e1 : v = .int .i64 n := ho.rep
    subst e1
    exact ⟨n, k', b', ho.ret, ho⟩
theorem dtextR (W : World) (k : Nat) (b : Bool) (hk : k ≤ s.length) (h : (dRdr s r N hN).St W k b) :
    Calls Tryd.prog 41 #[ptr r] W fun e W' => ∃ l k' b', e = .returned (.string (strOf l)) ∧ RdOk (dRdr s r N hN) s rdT strR W k b e W' (.string (strOf l)) l k' b' :=
  (dtext_any hN W k b hk h).mono fun e W' ⟨v, n, k', b', ho⟩ => by
    have e1 : v = .string (strOf n) := ho.rep
    subst e1
    exact ⟨n, k', b', ho.ret, ho⟩
theorem DR.short {W : World} {k : Nat} {b : Bool} (h : (dRdr s r N hN).St W k b) : W.cell? ⟨r, 2, none⟩ = some (.bool b) := DR.eb (s := s) (r := r) (N := N) h |>.at 2 _ rfl
end
theorem seq_prG {s : List UInt8} {g : Ix → Ix} {k0 k k2 k3 k4 : Nat} {b0 b b2 b3 b4 : Bool} {a : List UInt8} {u v : Int} {d : List Cp} {e : List Vl} {f : List Ix} (h : Seqs s k0 b0 [.n 1 v, .n 1 u, .t a] k b) (h2 : Out (rdL rdCap) s k b d k2 b2) (h3 : Out (rdL rdVal) s k2 b2 e k3 b3) (h4 : Out (rdL (rdI g)) s k3 b3 f k4 b4) : Out (rdPr g) s k0 b0 ⟨a, u, v, f, e, d⟩ k4 b4 := by
  cases h with
  | num h5 h6 =>
    cases h5 with
    | num h7 h8 =>
      cases h7 with
      | txt h9 h10 =>
        cases h9
        exact h10.bind (h8.bind (h6.bind (h2.bind (h3.bind h4.bindRet))))
theorem rdI_four : rdI id = (rdN 1).bind fun a => (rdN 1).bind fun b => (rdN 1).bind fun c => (rdN 1).bind fun d => Rd.ret ⟨a, b, c, d⟩ := by
  funext l
  have one : ∀ (x : UInt8) (t : List UInt8), rdN 1 (x :: t) = some ((x.toNat : Int), t) := fun x t => by
    unfold rdN
    rw [if_neg (by simp)]
    have : getI [x] = (x.toNat : Int) := by
      unfold getI RowKit.wrap64
      have := x.toNat_lt
      simp [Lib.leNat]
      omega
    simp [this]
  match l with
  | [] => rfl
  | [a] => rfl
  | [a, b] => rw [Rd.bind, one]; rfl
  | [a, b, c] => rw [Rd.bind, one]; rfl
  | a :: b :: c :: d :: t =>
    unfold rdI Rd.bind Rd.ret
    rw [if_neg (by simp)]
    simp only [one]
    rfl
theorem seq_ix {s : List UInt8} {k0 k : Nat} {b0 b : Bool} {u v x y : Int} (h : Seqs s k0 b0 [.n 1 y, .n 1 x, .n 1 v, .n 1 u] k b) : Out (rdI id) s k0 b0 ⟨u, v, x, y⟩ k b := by
  rw [rdI_four]
  cases h with
  | num h5 h6 =>
    cases h5 with
    | num h7 h8 =>
      cases h7 with
      | num h9 h10 =>
        cases h9 with
        | num h11 h12 =>
          cases h11
          exact h12.bind (h10.bind (h8.bind h6.bindRet))
theorem seq_val1 {s : List UInt8} {k0 k : Nat} {b0 b : Bool} {u v : Int} (hu : u = 1) (h : Seqs s k0 b0 [.n 8 v, .n 1 u] k b) : Out rdVal s k0 b0 ⟨u, v, []⟩ k b := by
  cases h with
  | num h5 h6 =>
    cases h5 with
    | num h7 h8 =>
      cases h7
      refine h8.bind ?_
      rw [if_pos hu]
      exact h6.bindRet
theorem seq_val2 {s : List UInt8} {k0 k : Nat} {b0 b : Bool} {u : Int} {t : List UInt8} (hu : u = 2) (h : Seqs s k0 b0 [.t t, .n 1 u] k b) : Out rdVal s k0 b0 ⟨u, 0, t⟩ k b := by
  cases h with
  | txt h5 h6 =>
    cases h5 with
    | num h7 h8 =>
      cases h7
      refine h8.bind ?_
      rw [if_neg (by omega), if_pos hu]
      exact h6.bindRet
theorem seq_val0 {s : List UInt8} {k0 k : Nat} {b0 b : Bool} {u : Int} (h1 : u ≠ 1) (h2 : u ≠ 2) (h : Seqs s k0 b0 [.n 1 u] k b) : Out rdVal s k0 b0 ⟨u, 0, []⟩ k b := by
  cases h with
  | num h7 h8 =>
    have hle := h8.le
    cases h7
    refine h8.bind ?_
    rw [if_neg h1, if_neg h2]
    exact Out.ret _ hle

end Go.Proofs.YtmloljfnnkfkjaaDoor.Im

