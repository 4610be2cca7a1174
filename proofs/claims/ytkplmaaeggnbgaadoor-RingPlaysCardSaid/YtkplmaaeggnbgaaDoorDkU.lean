/- What is read of a disk behind each call, over states; no walk. No condition but those that each states. -/
import Derived.Test.YtkplmaaeggnbgaaDoorDkM
namespace Go.Proofs.YtkplmaaeggnbgaaDoor.Dk
open Go.RowKit

theorem read_put_at (T : DS) (k i : Nat) (s : Bytes) : (T.put k s).read i = if k = i then s else T.read i := by
  unfold DS.read DS.readUpto DS.put
  have h := lastIx_put T.W k i s
  unfold lastIx at h
  simp only [h]
  by_cases e : k = i
  · rw [if_pos e, if_pos e]; simp only [wAt_app_eq]
  · rw [if_neg e, if_neg e]
    cases hl : lastUpto T.W i T.W.length with
    | none => rfl
    | some j => simp only [wAt_app_lt (lastUpto_some hl).1]

theorem readUpto_succ' (S : DS) (i k : Nat) : S.readUpto i (k + 1) = if (wAt S.W k).1 = i then (wAt S.W k).2 else S.readUpto i k := by
  unfold DS.readUpto
  show (match (if (wAt S.W k).1 = i then some k else lastUpto S.W i k) with | some j => (wAt S.W j).2 | none => bAt S.L i) = _
  by_cases h : (wAt S.W k).1 = i
  · rw [if_pos h, if_pos h]
  · rw [if_neg h, if_neg h]; rfl

theorem settled_upto {S : DS} (h : S.Ok) (i : Nat) : ∀ n, n ≤ S.W.length → bAt (stl allM S.W S.L n) i = S.readUpto i n
  | 0, _ => rfl
  | k + 1, hk => by
    have ih := settled_upto h i k (by omega)
    rw [readUpto_succ', ← ih]
    show bAt (if bit allM k then (stl allM S.W S.L k).set (wAt S.W k).1 (wAt S.W k).2 else stl allM S.W S.L k) i = _
    rw [bit_all, if_pos rfl, bAt_set, stl_length]
    have := (h.wat k (by omega)).1
    by_cases e : i = (wAt S.W k).1
    · rw [if_pos ⟨e, this⟩, if_pos e.symm]
    · rw [if_neg (fun x => e x.1), if_neg (fun x => e x.symm)]

theorem read_settled {S : DS} (h : S.Ok) (i : Nat) : (S.settled allM).read i = S.read i := settled_upto h i _ (Nat.le_refl _)

theorem write_true_read {S T : DS} {k : Nat} {s : Bytes} (h : S.write k s = (T, true)) (i : Nat) : T.read i = if k = i then s else S.read i := by
  rw [← read_put_at]
  unfold DS.write DS.step at h
  split at h
  · cases h; rfl
  · cases h
  · cases h; rfl

theorem sync_true_read {S U : DS} (hS : S.Ok) (h : S.sync = (U, true)) (i : Nat) : U.read i = S.read i := by
  have hk : ∀ S' : DS, S'.L = S.L → S'.W = S.W → (S'.settled allM).read i = S.read i := fun S' h1 h2 => by
    rw [← read_settled hS i]
    unfold DS.read DS.settled DS.readUpto
    rw [h1, h2]
  unfold DS.sync DS.step at h
  split at h
  · cases h; exact hk _ rfl rfl
  · cases h
  · cases h; exact hk _ rfl rfl

/-- A Write that goes through, or is interrupted. -/
theorem write_cases (S : DS) (a : Nat) (s : Bytes) :
    ((S.write a s).2 = true ∧ (S.write a s).1.on = S.on ∧ (S.write a s).1.L = S.L ∧ (S.write a s).1.W = S.W ++ [(a, s)]) ∨
    ((S.write a s).2 = false ∧ (S.write a s).1.on = false ∧ (S.write a s).1.W = [] ∧ ∃ m, (S.write a s).1.L = stl m (S.W ++ [(a, s)]) S.L (S.W.length + 1)) := by
  have hl : (S.W ++ [(a, s)]).length = S.W.length + 1 := by simp
  unfold DS.write DS.step
  split
  · exact .inl ⟨rfl, rfl, rfl, rfl⟩
  · rename_i m _
    refine .inr ⟨rfl, rfl, rfl, m, ?_⟩
    show stl m (S.W ++ [(a, s)]) S.L (S.W ++ [(a, s)]).length = _
    rw [hl]
  · exact .inl ⟨rfl, rfl, rfl, rfl⟩

/-- A Sync that goes through, or is interrupted. -/
theorem sync_cases (S : DS) :
    (S.sync.2 = true ∧ S.sync.1.on = S.on ∧ S.sync.1.W = [] ∧ S.sync.1.L = stl allM S.W S.L S.W.length) ∨
    (S.sync.2 = false ∧ S.sync.1.on = false ∧ S.sync.1.W = [] ∧ ∃ m, S.sync.1.L = stl m S.W S.L S.W.length) := by
  unfold DS.sync DS.step
  split
  · exact .inl ⟨rfl, rfl, rfl, rfl⟩
  · exact .inr ⟨rfl, rfl, rfl, _, rfl⟩
  · exact .inl ⟨rfl, rfl, rfl, rfl⟩

theorem DS.Ok.step {S : DS} (h : S.Ok) : S.step.1.Ok := by
  unfold DS.step
  split
  · exact h.tick
  · exact (DS.Ok.clear h.tick).lose _
  · rename_i k m e
    have := h.next _ _ e
    exact h.tick.plan (by omega) this.2
theorem DS.Ok.write {S : DS} (h : S.Ok) {a : Nat} {s : Bytes} (ha : a < S.L.length) (hs : s.length = 64) : (S.write a s).1.Ok := (h.put ha hs).step
theorem DS.Ok.sync {S : DS} (h : S.Ok) : S.sync.1.Ok := by
  unfold DS.sync
  split
  · exact h.step.settled _
  · exact h.step
theorem DS.Ok.fail {S : DS} (h : S.Ok) (m : Nat) : (S.fail m).Ok := by
  unfold DS.fail
  split
  · exact h.lose m
  · exact h

/-- Outside R nothing of what lay in L is turned, whatever waits. -/
structure Keep (R : Nat → Prop) (L : List Bytes) (T : DS) : Prop where
  same : ∀ i, ¬R i → bAt T.L i = bAt L i
  wait : ∀ j, j < T.W.length → R (wAt T.W j).1

theorem Keep.stl {R : Nat → Prop} {L : List Bytes} {T : DS} (h : Keep R L T) (m n : Nat) (hn : n ≤ T.W.length) {i : Nat} (hi : ¬R i) : bAt (stl m T.W T.L n) i = bAt L i := by
  rcases stl_or m T.W T.L i n with e | ⟨j, h1, h2, _⟩
  · rw [e]; exact h.same i hi
  · exact absurd (h2 ▸ h.wait j (by omega)) hi
theorem Keep.read {R : Nat → Prop} {L : List Bytes} {T : DS} (h : Keep R L T) {i : Nat} (hi : ¬R i) : T.read i = bAt L i := by
  unfold DS.read DS.readUpto
  cases hl : lastUpto T.W i T.W.length with
  | none => exact h.same i hi
  | some j => exact absurd ((lastUpto_some hl).2 ▸ h.wait j (lastUpto_some hl).1) hi
theorem Keep.put {R : Nat → Prop} {L : List Bytes} {T : DS} (h : Keep R L T) {a : Nat} (ha : R a) (s : Bytes) : Keep R L (T.put a s) := by
  refine ⟨h.same, fun j hj => ?_⟩
  have hj' : j < T.W.length + 1 := by simpa [DS.put] using hj
  show R (wAt (T.W ++ [(a, s)]) j).1
  by_cases e : j = T.W.length
  · subst e; rw [wAt_app_eq]; exact ha
  · rw [wAt_app_lt (by omega)]; exact h.wait j (by omega)
theorem Keep.of {R : Nat → Prop} {L : List Bytes} {T U : DS} (h : Keep R L T) (hL : U.L = T.L) (hW : U.W = T.W) : Keep R L U := ⟨by rw [hL]; exact h.same, by rw [hW]; exact h.wait⟩
theorem Keep.write {R : Nat → Prop} {L : List Bytes} {T : DS} (h : Keep R L T) {a : Nat} (ha : R a) (s : Bytes) : Keep R L (T.write a s).1 := by
  have hp := h.put ha s
  rcases write_cases T a s with ⟨_, _, e1, e2⟩ | ⟨_, _, e1, m, e2⟩
  · exact hp.of e1 e2
  · refine ⟨fun i hi => ?_, fun j hj => by rw [e1] at hj; exact absurd hj (Nat.not_lt_zero j)⟩
    rw [e2]
    exact hp.stl m (T.W.length + 1) (by simp [DS.put]) hi
theorem Keep.sync {R : Nat → Prop} {L : List Bytes} {T : DS} (h : Keep R L T) : Keep R L T.sync.1 := by
  rcases sync_cases T with ⟨_, _, e1, e2⟩ | ⟨_, _, e1, m, e2⟩
  · exact ⟨fun i hi => by rw [e2]; exact h.stl _ _ (Nat.le_refl _) hi, fun j hj => by rw [e1] at hj; exact absurd hj (Nat.not_lt_zero j)⟩
  · exact ⟨fun i hi => by rw [e2]; exact h.stl _ _ (Nat.le_refl _) hi, fun j hj => by rw [e1] at hj; exact absurd hj (Nat.not_lt_zero j)⟩
theorem Keep.fail {R : Nat → Prop} {L : List Bytes} {T : DS} (h : Keep R L T) (m : Nat) : Keep R L (T.fail m) := by
  unfold DS.fail
  split
  · exact ⟨fun i hi => h.stl m _ (Nat.le_refl _) hi, fun j hj => absurd hj (Nat.not_lt_zero j)⟩
  · exact h

end Go.Proofs.YtkplmaaeggnbgaaDoor.Dk
