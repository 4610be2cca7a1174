/- What a journal is after an Append, over states; no walk. No condition but those that each states. -/
import Derived.Test.YtkplmaaeggnbgaaDoorRgH
import Derived.Test.YtkplmaaeggnbgaaDoorDkU
namespace Go.Proofs.YtkplmaaeggnbgaaDoor.Rg
open Go.RowKit Dk

theorem scan_congr {r1 r2 : Nat → Bytes} : ∀ k, (∀ i, i < k → r1 i = r2 i) → scan r1 k = scan r2 k
  | 0, _ => rfl
  | k + 1, h => by
    unfold scan
    have e : found r1 k = found r2 k := by unfold found; rw [h k (Nat.lt_succ_self k)]
    rw [e, scan_congr k (fun i hi => h i (by omega))]

theorem lastE_congr {S T : DS} (h : ∀ i, i < 8 → S.read i = T.read i) : lastE S = lastE T := by unfold lastE; rw [scan_congr 8 h]

/-- All numbers are at most the last one's. -/
theorem num_le_last {S : DS} {x : Ent} (h : x ∈ scan S.read 8) : x.number ≤ lastN S := by
  unfold lastN lastE
  have hs := scan_sorted S.read 8 (Nat.le_refl _)
  obtain ⟨X, y, hX⟩ := list_snoc (List.ne_nil_of_mem h)
  rw [hX] at h hs ⊢
  rw [List.getLast?_concat]
  rcases List.mem_append.1 h with h | h
  · have := (List.pairwise_append.1 hs).2.2 x h y (List.mem_singleton.2 rfl)
    exact Int.le_of_lt this
  · have := List.mem_singleton.1 h; subst this; exact Int.le_refl _

theorem found_blk {rd : Nat → Bytes} {i : Nat} {e : Ent} (hv : e.valid = true) (hi : e.number % 8 = (i : Int)) (h : rd i = e.blk) : found rd i = some e := by
  unfold found
  rw [h, parse_blk hv]
  exact if_pos hi

/-- A journal of which one block is that of a newer entry. -/
theorem last_new {S T : DS} {e : Ent} {k : Nat} (hv : e.valid = true) (hk : e.number % 8 = (k : Int)) (hn : lastN S < e.number) (h : ∀ i, i < 8 → T.read i = if k = i then e.blk else S.read i) :
    lastE T = some e ∧ (∀ x ∈ scan S.read 8, x.number % 8 ≠ e.number % 8 → x ∈ scan T.read 8) ∧ (∀ x ∈ scan T.read 8, x = e ∨ x ∈ scan S.read 8) := by
  have hk8 : k < 8 := by omega
  have hf : found T.read k = some e := found_blk hv hk (by rw [h k hk8, if_pos rfl])
  have ho : ∀ i, i < 8 → k ≠ i → found T.read i = found S.read i := fun i hi hne => by unfold found; rw [h i hi, if_neg hne]
  have hm : ∀ x ∈ scan T.read 8, x = e ∨ x ∈ scan S.read 8 := fun x hx => by
    obtain ⟨i, hi, hfi⟩ := mem_scan.1 hx
    by_cases e1 : k = i
    · subst e1; rw [hf] at hfi; cases hfi; exact .inl rfl
    · rw [ho i hi e1] at hfi; exact .inr (mem_scan.2 ⟨i, hi, hfi⟩)
  have he : e ∈ scan T.read 8 := mem_scan.2 ⟨k, hk8, hf⟩
  refine ⟨?_, fun x hx hne => ?_, hm⟩
  · have hs := scan_sorted T.read 8 (Nat.le_refl _)
    obtain ⟨X, y, hX⟩ := list_snoc (List.ne_nil_of_mem he)
    have hy : y ∈ scan T.read 8 := by rw [hX]; simp
    unfold lastE
    rw [hX] at he hs ⊢
    rw [List.getLast?_concat]
    rcases List.mem_append.1 he with h1 | h1
    · have h2 := (List.pairwise_append.1 hs).2.2 e h1 y (List.mem_singleton.2 rfl)
      rcases hm y hy with h3 | h3
      · rw [h3]
      · have := num_le_last h3; omega
    · rw [List.mem_singleton.1 h1]
  · obtain ⟨i, hi, hfi⟩ := mem_scan.1 hx
    have hin := (found_some hfi).2
    have hne2 : k ≠ i := fun e1 => by subst e1; exact hne (by rw [hin, hk])
    exact mem_scan.2 ⟨i, hi, by rw [ho i hi hne2]; exact hfi⟩

theorem new_read (n i : Nat) (h : i < n) : (new n).read i = zeroB := bAt_rep n zeroB h

theorem new_scan (n : Nat) (h : 8 ≤ n) : scan (new n).read 8 = [] := by
  rw [List.eq_nil_iff_forall_not_mem]
  intro x hx
  obtain ⟨i, hi, hf⟩ := mem_scan.1 hx
  have := (found_some hf).1
  rw [new_read n i (by omega), parse_zero] at this
  cases this

theorem new_last (n : Nat) (h : 8 ≤ n) : lastE (new n) = none := by unfold lastE; rw [new_scan n h]; rfl
theorem new_lastN (n : Nat) (h : 8 ≤ n) : lastN (new n) = 0 := by unfold lastN; rw [new_last n h]; rfl

/-- An Append that goes through. -/
theorem app_ok {S T U : DS} {e : Ent} (hon : S.on = true) (hn : lastN S ≠ 4294967295) (hv : (e.num (lastN S + 1)).valid = true) (hT : S.write ((e.num (lastN S + 1)).number % 8).toNat (e.num (lastN S + 1)).blk = (T, true)) (hU : T.sync = (U, true)) :
    DS.app S e = (U, e.num (lastN S + 1), 0) := by
  unfold DS.app
  rw [if_neg (by rw [hon]; decide), if_neg hn, if_neg (by rw [hv]; decide), hT, if_neg (fun x => Bool.noConfusion x), hU, if_neg (fun x => Bool.noConfusion x)]

end Go.Proofs.YtkplmaaeggnbgaaDoor.Rg
