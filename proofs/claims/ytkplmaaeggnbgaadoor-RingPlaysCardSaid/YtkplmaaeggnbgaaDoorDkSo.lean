/- A disk beside blocks that are none of its own. No condition but those that each states. -/
import Derived.Test.YtkplmaaeggnbgaaDoorDkK
namespace Go.Proofs.YtkplmaaeggnbgaaDoor.Dk
open Go.RowKit

/-- A disk since a world; none of P's blocks is one of its own. -/
def Solo (w0 w : World) (P : Nat → Prop) (g : Nat) (S : DS) : Prop := ∃ F, DiskAt w F g S ∧ Below w0.heap.size w0 w ∧ (∀ k, F k → w0.heap.size ≤ k ∧ k < w.heap.size) ∧ ∀ k, P k → k < w.heap.size ∧ ¬F k

section
variable {w0 w w' : World} {P D : Nat → Prop} {g : Nat} {S S' : DS}

theorem Solo.below (h : Solo w0 w P g S) : Below w0.heap.size w0 w := by obtain ⟨F, -, h, -⟩ := h; exact h
theorem Solo.disk (h : Solo w0 w P g S) : ∃ F, DiskAt w F g S ∧ ∀ k, F k → w0.heap.size ≤ k := by obtain ⟨F, h, -, h2, -⟩ := h; exact ⟨F, h, fun k hk => (h2 k hk).1⟩
theorem Solo.later (h : Solo w0 w P g S) (k : Below w.heap.size w w') : Solo w0 w' P g S := by
  obtain ⟨F, h, hb, h2, h3⟩ := h
  have := k.size
  exact ⟨F, h.below k, chain2 hb k, fun i hi => ⟨(h2 i hi).1, Nat.lt_of_lt_of_le (h2 i hi).2 this⟩, fun i hi => ⟨Nat.lt_of_lt_of_le (h3 i hi).1 this, (h3 i hi).2⟩⟩
theorem Solo.less (h : Solo w0 w P g S) (hPD : ∀ k, D k → P k) : Solo w0 w D g S := by
  obtain ⟨F, h, hb, h2, h3⟩ := h; exact ⟨F, h, hb, h2, fun k hk => h3 k (hPD k hk)⟩
theorem Solo.fresh (h : Solo w0 w P g S) (k : Below w.heap.size w w') (hD : ∀ i, D i → w.heap.size ≤ i ∧ i < w'.heap.size) : Solo w0 w' (fun i => P i ∨ D i) g S := by
  obtain ⟨F, h, hb, h2, h3⟩ := h
  have := k.size
  exact ⟨F, h.below k, chain2 hb k, fun i hi => ⟨(h2 i hi).1, Nat.lt_of_lt_of_le (h2 i hi).2 this⟩, fun i hi => hi.elim (fun e => ⟨Nat.lt_of_lt_of_le (h3 i e).1 this, (h3 i e).2⟩) (fun e => ⟨(hD i e).2, fun hf => absurd (h2 i hf).2 (Nat.not_lt.2 (hD i e).1)⟩)⟩
theorem Solo.step {f : Nat} {args : Array Value} {Ans : Ending → Prop} (h : Solo w0 w P g S) (C : ∀ F, DiskAt w F g S → (∀ k, F k → w0.heap.size ≤ k) → Calls Tryd.prog f args w fun e w' => Ans e ∧ DiskAt w' (More F w) g S' ∧ Only F w w') :
    Calls Tryd.prog f args w fun e w' => Ans e ∧ Solo w0 w' P g S' ∧ Only (fun k => ¬P k) w w' := by
  obtain ⟨F, h, hb, h2, h3⟩ := h
  refine (C F h (fun k hk => (h2 k hk).1)).mono fun e w' ⟨ha, hd, ho⟩ => ⟨ha, ⟨fun k => More F w k ∧ k < w'.heap.size, hd.tight, ho.below hb (fun i hi => (h2 i hi).1) (Nat.le_refl _), fun k hk => ⟨hk.1.elim (fun e => (h2 k e).1) (fun e => Nat.le_trans hb.size e), hk.2⟩,
    fun k hk => ⟨Nat.lt_of_lt_of_le (h3 k hk).1 ho.size, fun e => e.1.elim (h3 k hk).2 (fun e => absurd (h3 k hk).1 (Nat.not_lt.2 e))⟩⟩, ho.mono (fun k e e2 => (h3 k e2).2 e)⟩
theorem solo_new {F : Nat → Prop} (h : Dk w0 w F g S) : Solo w0 w (fun _ => False) g S :=
  ⟨fun k => F k ∧ k < w.heap.size, h.here.tight, h.below, fun k hk => ⟨h.lo k hk.1, hk.2⟩, fun _ h => h.elim⟩
end

end Go.Proofs.YtkplmaaeggnbgaaDoor.Dk
