/- Parts of a slice of tokens. No condition but those that each states. -/
import Derived.Test.YtemlceicmpcboaaGreatDoorMgC
namespace Go.Proofs.YtemlceicmpcboaaGreatDoor.Lx
open Go.RowKit Dk

/-! parts of a slice of tokens -/
theorem tok_size (W : World) : (sizeOf (Tryz.prog.elem 31)).run Tryz.prog W = .ok 4 W := by kernel_rfl
theorem slice_to (p : Option Addr) (n c k : Nat) (hk : k ≤ c) (hp : p = none ∨ ∃ g o, p = some ⟨g, o, none⟩) (W : World) :
    (Instr.slice 31 (.slice p n c) none (some (.int .i64 (k : Int))) none).run Tryz.prog W = .ok (.slice p k c) W := by
  rw [run_slice_h W 31 p n c (by kernel_rfl) .i64 (k : Int) (by omega) (by omega), tok_size]
  show Result.ok (sliced p 0 (k : Int).toNat c 4) W = _
  unfold sliced
  rcases hp with rfl | ⟨g, o, rfl⟩
  · simp
  · simp [Addr.add_mid]
theorem slice_from (p : Option Addr) (n c k : Nat) (hk : k ≤ n) (W : World) :
    (Instr.slice 31 (.slice p n c) (some (.int .i64 (k : Int))) none none).run Tryz.prog W = .ok (.slice (if c = k then p else p.map (·.add (k * 4))) (n - k) (c - k)) W := by
  rw [run_slice_l W 31 p n c (by kernel_rfl) .i64 (k : Int) (by omega) (by omega), tok_size]
  rfl

theorem tcells_split (ts : List Tk) (k : Nat) (hk : k ≤ ts.length) : tcells ts = tcells (ts.take k) ++ tcells (ts.drop k) ∧ (tcells (ts.take k)).length = k * 4 := by
  constructor
  · rw [← tcells_app, List.take_append_drop]
  · rw [tcells_length, List.length_take, Nat.min_eq_left hk]

/-- The first tokens of a slice, and the others. -/
theorem Toks.parts {W : World} {p : Option Addr} {c : Nat} {ts : List Tk} (h : Toks W (.slice p ts.length c) ts) (k : Nat) (hk : k ≤ ts.length) :
    (∀ W', (Instr.slice 31 (.slice p ts.length c) none (some (.int .i64 (k : Int))) none).run Tryz.prog W' = .ok (.slice p k c) W') ∧ Toks W (.slice p k c) (ts.take k) ∧
    ∃ q, (∀ W', (Instr.slice 31 (.slice p ts.length c) (some (.int .i64 (k : Int))) none none).run Tryz.prog W' = .ok (.slice q (ts.length - k) (c - k)) W') ∧ Toks W (.slice q (ts.length - k) (c - k)) (ts.drop k) := by
  obtain ⟨p', c', e, hc, hp⟩ := h
  cases e
  have hkc : k ≤ c := by omega
  have hform : ts = [] ∨ ∃ g o, p = some ⟨g, o, none⟩ ∧ g < W.heap.size ∧ W.rangeAt g o (tcells ts) := hp
  have hl1 : (ts.take k).length = k := by rw [List.length_take, Nat.min_eq_left hk]
  have hl2 : (ts.drop k).length = ts.length - k := List.length_drop
  have hz : ts = [] → k = 0 := fun h => by subst h; simpa using hk
  refine ⟨?_, ?_, ?_⟩
  · intro W'
    rcases hform with rfl | ⟨g, o, rfl, -, -⟩
    · have := hz rfl
      subst this
      rw [show (([] : List Tk).length) = 0 from rfl, run_slice_h W' 31 p 0 c (by kernel_rfl) .i64 ((0 : Nat) : Int) (by omega) (by omega), tok_size]
      show Result.ok (sliced p 0 0 c 4) W' = _
      unfold sliced
      cases p with
      | none => simp
      | some a => cases a; simp [Addr.add]
    · exact slice_to _ _ _ _ hkc (.inr ⟨g, o, rfl⟩) W'
  · refine ⟨p, c, by rw [hl1], by rw [hl1]; exact hkc, ?_⟩
    rcases hform with rfl | ⟨g, o, rfl, hg, hr⟩
    · exact .inl (by simp)
    · refine .inr ⟨g, o, rfl, hg, ?_⟩
      rw [(tcells_split ts k hk).1] at hr
      exact rangeAt_left hr
  · refine ⟨_, fun W' => slice_from p _ c k hk W', _, _, by rw [hl2], by rw [hl2]; omega, ?_⟩
    by_cases hck : c = k
    · exact .inl (List.drop_eq_nil_of_le (by omega))
    · rw [if_neg hck]
      rcases hform with rfl | ⟨g, o, rfl, hg, hr⟩
      · exact .inl (by simp)
      · refine .inr ⟨g, o + k * 4, by simp [Addr.add_mid], hg, ?_⟩
        rw [(tcells_split ts k hk).1] at hr
        exact rangeAt_right hr (tcells_split ts k hk).2.symm

end Go.Proofs.YtemlceicmpcboaaGreatDoor.Lx
