/- The walk of lex.Key: its contract. No condition but those that each states. -/
import Derived.Test.YtcfgngaabledpaaTnB
import Derived.Test.YtcfgngaabledpaaDkG
namespace Go.Proofs.Ytcfgngaabledpaa.Lx
open Go.RowKit Dk
theorem strOf_tl (l : List UInt8) : (strOf l).toList = l := ByteArray.toList_mk l
theorem str_beq (a b : List UInt8) : ((strOf a).toList == (strOf b).toList) = decide (a = b) := by
  rw [strOf_tl, strOf_tl]
  by_cases h : a = b
  · rw [decide_eq_true h]; subst h; simp
  · rw [decide_eq_false h]; exact beq_false_of_ne h
set_option maxHeartbeats 4000000 in
theorem key_yes (l : List UInt8) (h : l ∈ keyList) (w : World) : Calls Try.prog 45 #[.string (strOf l)] w fun e w' => e = .returned (.bool true) ∧ w = w' := by
  have hb : ∀ m, m ∈ keyList → ((strOf l).toList == m) = decide (l = m) := fun m _ => by
    have := str_beq l m
    rwa [strOf_tl m] at this
  simp only [keyList, List.mem_cons, List.not_mem_nil, or_false, forall_eq_or_imp, forall_eq] at hb
  obtain ⟨h1, h2, h3, h4, h5, h6, h7, h8, h9, h10, h11, h12, h13, h14, h15, h16, h17, h18, h19, h20⟩ := hb
  simp only [keyList, List.mem_cons, List.not_mem_nil, or_false] at h
  generalize strOf l = s at *
  rcases h with rfl | rfl | rfl | rfl | rfl | rfl | rfl | rfl | rfl | rfl | rfl | rfl | rfl | rfl | rfl | rfl | rfl | rfl | rfl | rfl
  all_goals
    first | replace h1 := h1.trans (show decide _ = true by decide) | replace h1 := h1.trans (show decide _ = false by decide)
    first | replace h2 := h2.trans (show decide _ = true by decide) | replace h2 := h2.trans (show decide _ = false by decide)
    first | replace h3 := h3.trans (show decide _ = true by decide) | replace h3 := h3.trans (show decide _ = false by decide)
    first | replace h4 := h4.trans (show decide _ = true by decide) | replace h4 := h4.trans (show decide _ = false by decide)
    first | replace h5 := h5.trans (show decide _ = true by decide) | replace h5 := h5.trans (show decide _ = false by decide)
    first | replace h6 := h6.trans (show decide _ = true by decide) | replace h6 := h6.trans (show decide _ = false by decide)
    first | replace h7 := h7.trans (show decide _ = true by decide) | replace h7 := h7.trans (show decide _ = false by decide)
    first | replace h8 := h8.trans (show decide _ = true by decide) | replace h8 := h8.trans (show decide _ = false by decide)
    first | replace h9 := h9.trans (show decide _ = true by decide) | replace h9 := h9.trans (show decide _ = false by decide)
    first | replace h10 := h10.trans (show decide _ = true by decide) | replace h10 := h10.trans (show decide _ = false by decide)
    first | replace h11 := h11.trans (show decide _ = true by decide) | replace h11 := h11.trans (show decide _ = false by decide)
    first | replace h12 := h12.trans (show decide _ = true by decide) | replace h12 := h12.trans (show decide _ = false by decide)
    first | replace h13 := h13.trans (show decide _ = true by decide) | replace h13 := h13.trans (show decide _ = false by decide)
    first | replace h14 := h14.trans (show decide _ = true by decide) | replace h14 := h14.trans (show decide _ = false by decide)
    first | replace h15 := h15.trans (show decide _ = true by decide) | replace h15 := h15.trans (show decide _ = false by decide)
    first | replace h16 := h16.trans (show decide _ = true by decide) | replace h16 := h16.trans (show decide _ = false by decide)
    first | replace h17 := h17.trans (show decide _ = true by decide) | replace h17 := h17.trans (show decide _ = false by decide)
    first | replace h18 := h18.trans (show decide _ = true by decide) | replace h18 := h18.trans (show decide _ = false by decide)
    first | replace h19 := h19.trans (show decide _ = true by decide) | replace h19 := h19.trans (show decide _ = false by decide)
    first | replace h20 := h20.trans (show decide _ = true by decide) | replace h20 := h20.trans (show decide _ = false by decide)
    go_enter Try.func45, Try.ntmps45
    go_wp2
    go_ret
    exact ⟨rfl, rfl⟩
set_option maxHeartbeats 1000000 in
theorem key_no (l : List UInt8) (h : l ∉ keyList) (w : World) : Calls Try.prog 45 #[.string (strOf l)] w fun e w' => e = .returned (.bool false) ∧ w = w' := by
  have hb : ∀ m, m ∈ keyList → ((strOf l).toList == m) = false := fun m hm => by
    rw [strOf_tl]; exact beq_false_of_ne (fun e => h (e ▸ hm))
  simp only [keyList, List.mem_cons, List.not_mem_nil, or_false, forall_eq_or_imp, forall_eq] at hb
  obtain ⟨h1, h2, h3, h4, h5, h6, h7, h8, h9, h10, h11, h12, h13, h14, h15, h16, h17, h18, h19, h20⟩ := hb
  generalize strOf l = s at *
  go_enter Try.func45, Try.ntmps45
  go_wp2
  go_ret
  exact ⟨rfl, rfl⟩
theorem isKey_iff (l : List UInt8) : isKey l = true ↔ l ∈ keyList := by unfold isKey; exact List.contains_iff_mem
theorem key_any (l : List UInt8) (w : World) : Calls Try.prog 45 #[.string (strOf l)] w fun e w' => e = .returned (.bool (isKey l)) ∧ w = w' := by
  cases h : isKey l with
  | true => exact key_yes l ((isKey_iff l).1 h) w
  | false => exact key_no l (fun hm => by rw [(isKey_iff l).2 hm] at h; cases h) w
end Go.Proofs.Ytcfgngaabledpaa.Lx
