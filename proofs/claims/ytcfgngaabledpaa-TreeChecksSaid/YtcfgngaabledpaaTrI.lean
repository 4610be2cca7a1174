/- Rows of ints: those that a call owns, and those that lie somewhere. No condition but those that each states. -/
import Derived.Test.YtcfgngaabledpaaTrB
import Derived.WalkSmall
namespace Go.Proofs.Ytcfgngaabledpaa.Tr
open Go.RowKit Dk Lx

def iv (l : List Int) : List Value := l.map fun x => .int .i64 x
theorem iv_app (a b : List Int) : iv (a ++ b) = iv a ++ iv b := by simp [iv]
theorem iv_len (l : List Int) : (iv l).length = l.length := by simp [iv]
theorem iv_one (l : List Int) : ∀ u ∈ iv l, u.oneCell' = true := by
  intro u hu
  simp [iv] at hu
  obtain ⟨b, _, rfl⟩ := hu
  rfl

theorem own_lo {w : World} {base : Nat} {e : TypeId} {size n : Nat} {v : Value} {xs : List Value} (h : w.ownsRow base e size v n xs) : ∀ b, v.ownBlock = some b → base ≤ b ∧ b < w.heap.size := by
  intro b hb
  rcases h.2 with ⟨rfl, _⟩ | ⟨g, cap, cur, rfl, hbg, hg, _⟩
  · cases hb
  · cases hb
    exact ⟨hbg, by
      rcases Nat.lt_or_ge g w.heap.size with h | h
      · exact h
      · rw [Array.getElem?_eq_none h] at hg; cases hg⟩

theorem below_grown {B : Nat} {w w1 W : World} {row : Option Nat} (h : w1.grownBy W row) (hb : Below B w w1) (hr : ∀ k, row = some k → B ≤ k) (_hB : B ≤ w1.heap.size) (ha : B ≤ w.heap.size) : Below B w W :=
  (Only.of_grown (F := fun k => B ≤ k) h hr).below hb (fun _ h => h) ha

/-- A row of its own that holds these ints. -/
structure IR (w w' : World) (v : Value) (l : List Int) : Prop where
  row : w'.ownsRow w.heap.size 3 1 v l.length (iv l)
  below : Below w.heap.size w w'

theorem IR.later {w wr W : World} {v : Value} {l : List Int} (h : IR w wr v l) (hb : Below wr.heap.size wr W) : IR w W v l :=
  ⟨ownsRow_block h.row (fun b hb' => hb.block b (own_lo h.row b hb').2), chain2 h.below hb⟩
theorem IR.first (w : World) : IR w w (.slice none 0 0) [] := ⟨World.ownsRow_nil _ _ _ _, Below.refl _ _⟩

theorem IR.push {w W4 W7 : World} {v : Value} {l : List Int} {x : Int} {g' cap : Nat} {o : Obj} (h : IR w W4 v l) (hrow : W7.ownsRow w.heap.size 3 1 (.slice (some ⟨g', 0, none⟩) (l.length + 1) cap) (l.length + 1) (iv l ++ [.int .i64 x]))
    (hgr : (W4.alloc o).grownBy W7 v.ownBlock) : IR w W7 (.slice (some ⟨g', 0, none⟩) (l.length + 1) cap) (l ++ [x]) := by
  refine ⟨?_, below_grown hgr (h.below.alloc h.below.size o) (fun k hk => (own_lo h.row k hk).1) (by have := h.below.size; simp; omega) (Nat.le_refl _)⟩
  rw [List.length_append, iv_app]
  simpa [iv] using hrow

/-- Its form, where it holds one. -/
theorem own_form {w : World} {base size n : Nat} {e : TypeId} {v : Value} {xs : List Value} (h : w.ownsRow base e size v n xs) (hn : 0 < n) : ∃ g cap, v = .slice (some ⟨g, 0, none⟩) n cap := by
  rcases h.2 with ⟨rfl, h0⟩ | ⟨g, cap, cur, rfl, _⟩
  · omega
  · exact ⟨g, cap, rfl⟩
theorem own_form0 {w : World} {base size n : Nat} {e : TypeId} {v : Value} {xs : List Value} (h : w.ownsRow base e size v n xs) : ∃ p cap, v = .slice p n cap ∧ (p = none → n = 0) ∧ ∀ g s o, p = some ⟨g, s, o⟩ → s = 0 ∧ o = none := by
  rcases h.2 with ⟨rfl, h0⟩ | ⟨g, cap, cur, rfl, _⟩
  · subst h0; exact ⟨none, 0, rfl, fun _ => rfl, fun _ _ _ e => by cases e⟩
  · exact ⟨_, cap, rfl, (fun e => by cases e), fun _ _ _ e => by cases e; exact ⟨rfl, rfl⟩⟩

/-- The last one is put anew. -/
theorem IR.setLast {w W : World} {g c n : Nat} {l : List Int} {x y : Int} (h : IR w W (.slice (some ⟨g, 0, none⟩) n c) (l ++ [x])) : IR w (W.setCell ⟨g, l.length, none⟩ (.int .i64 y)) (.slice (some ⟨g, 0, none⟩) n c) (l ++ [y]) := by
  have hlo := own_lo h.row g rfl
  obtain ⟨p, cap, he, -, -⟩ := own_form0 h.row
  have hn : n = (l ++ [x]).length := by cases he; rfl
  have hrow := h.row
  rw [hn] at hrow ⊢
  obtain ⟨h1, h2⟩ := hrow.stored l.length (.int .i64 y)
  refine ⟨?_, below_grown h2 h.below (fun k hk => by cases hk; exact hlo.1) h.below.size (Nat.le_refl _)⟩
  have e : (iv (l ++ [x])).set l.length (.int .i64 y) = iv (l ++ [y]) := by
    rw [iv_app, iv_app, List.set_append_right _ _ (by rw [iv_len]; exact Nat.le_refl _), iv_len, Nat.sub_self]; rfl
  rw [e] at h1
  simpa using h1

/-- The last one is struck. -/
theorem IR.pop {w W : World} {g c n : Nat} {l : List Int} {x : Int} (h : IR w W (.slice (some ⟨g, 0, none⟩) n c) (l ++ [x])) : IR w W (.slice (some ⟨g, 0, none⟩) l.length c) l := by
  obtain ⟨p, cap, he, -, -⟩ := own_form0 h.row
  have hn : n = (l ++ [x]).length := by cases he; rfl
  have hrow := h.row
  rw [hn, List.length_append, iv_app] at hrow
  exact ⟨ownsRow_pop (by rw [iv_len, Nat.mul_one]) hrow, h.below⟩

theorem IR.last {w W : World} {g c n : Nat} {l : List Int} {x : Int} (h : IR w W (.slice (some ⟨g, 0, none⟩) n c) (l ++ [x])) : n = l.length + 1 ∧ W.cell? ⟨g, l.length, none⟩ = some (.int .i64 x) ∧ W.frozen? ⟨g, l.length, none⟩ = false := by
  obtain ⟨p, cap, he, -, -⟩ := own_form0 h.row
  have hn : n = (l ++ [x]).length := by cases he; rfl
  have hrow := h.row
  rw [hn] at hrow
  refine ⟨by rw [hn, List.length_append]; rfl, ?_, hrow.frozenAt _⟩
  rw [hrow.cellAt _ (by simp), iv_app, List.getElem?_append_right (by rw [iv_len]; exact Nat.le_refl _), iv_len, Nat.sub_self]; rfl

/-- A slice that holds these ints, wherever it lies. -/
def Ins (W : World) (v : Value) (l : List Int) : Prop := ∃ p c, v = .slice p l.length c ∧ l.length ≤ c ∧ (l = [] ∨ ∃ g o, p = some ⟨g, o, none⟩ ∧ g < W.heap.size ∧ W.rangeAt g o (iv l))

theorem Ins.later {W W' : World} {v : Value} {l : List Int} (h : Ins W v l) (hb : Below W.heap.size W W') : Ins W' v l := by
  obtain ⟨p, c, rfl, hc, h | ⟨g, o, rfl, hg, hr⟩⟩ := h
  · exact ⟨p, c, rfl, hc, .inl h⟩
  · exact ⟨_, c, rfl, hc, .inr ⟨g, o, rfl, Nat.lt_of_lt_of_le hg hb.size, rangeAt_block hr (hb.block g hg)⟩⟩

theorem IR.ins {w W : World} {v : Value} {l : List Int} (h : IR w W v l) : Ins W v l := by
  rcases h.row.2 with ⟨hv, h0⟩ | ⟨g, cap, cur, hv, hbg, hg, h3, h4, h5, h6⟩
  · exact ⟨none, 0, by rw [hv, h0], by omega, .inl (List.eq_nil_of_length_eq_zero h0)⟩
  · have hrow := h.row
    rw [hv] at hrow
    refine ⟨_, cap, hv, h3, .inr ⟨g, 0, rfl, ?_, ?_⟩⟩
    · rcases Nat.lt_or_ge g W.heap.size with h | h
      · exact h
      · rw [Array.getElem?_eq_none h] at hg; cases hg
    · exact ownsRow_range hrow

theorem Ins.int {W : World} {p : Option Addr} {m c : Nat} {l : List Int} (h : Ins W (.slice p m c) l) (i : Nat) (hi : i < l.length) : ∃ g o, p = some ⟨g, o, none⟩ ∧ g < W.heap.size ∧ W.cell? ⟨g, o + i, none⟩ = some (.int .i64 l[i]) := by
  obtain ⟨p', c', e, hc, h0 | ⟨g, o, hp, hg, hr⟩⟩ := h
  · subst h0; simp at hi
  · cases e
    exact ⟨g, o, hp, hg, hr i _ (by simp [iv, hi])⟩

theorem int_info3 : (Try.prog.info? 3).map (fun i => (i.zero, i.size, i.bytes)) = some (some (.int .i64 0), 1, 8) := by kernel_rfl

end Go.Proofs.Ytcfgngaabledpaa.Tr
