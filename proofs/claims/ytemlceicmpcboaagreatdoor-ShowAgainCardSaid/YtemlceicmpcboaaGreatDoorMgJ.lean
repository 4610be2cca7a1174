/- A name for a text that stands elsewhere. The walks of tree.isBinary, isUnary and validFields: their contracts. No condition but those that each states. -/
import Derived.Test.YtemlceicmpcboaaGreatDoorMgB
import Derived.Test.YtemlceicmpcboaaGreatDoorMgF
namespace Go.Proofs.YtemlceicmpcboaaGreatDoor.Tr
open Go.RowKit Dk Lx

/-- The operations of two, and of one. -/
def binList : List (List UInt8) := [[43], [45], [42], [47], [37], [46, 46], [61, 61], [33, 61], [60], [60, 61], [97, 110, 100], [111, 114]]
def unList : List (List UInt8) := [[45], [110, 111, 116], [108, 101, 110]]
def isBin (l : List UInt8) : Bool := binList.contains l
def isUn (l : List UInt8) : Bool := unList.contains l
theorem isBin_iff (l : List UInt8) : isBin l = true ↔ l ∈ binList := by unfold isBin; exact List.contains_iff_mem
theorem isUn_iff (l : List UInt8) : isUn l = true ↔ l ∈ unList := by unfold isUn; exact List.contains_iff_mem

set_option maxHeartbeats 4000000 in
theorem bin_yes (l : List UInt8) (h : l ∈ binList) (w : World) : Calls Tryz.prog 103 #[.string (strOf l)] w fun e w' => e = .returned (.bool true) ∧ w = w' := by
  have hb : ∀ m, m ∈ binList → ((strOf l).toList == m) = decide (l = m) := fun m _ => by
    have := str_beq l m
    rwa [strOf_tl m] at this
  simp only [binList, List.mem_cons, List.not_mem_nil, or_false, forall_eq_or_imp, forall_eq] at hb
  obtain ⟨h1, h2, h3, h4, h5, h6, h7, h8, h9, h10, h11, h12⟩ := hb
  simp only [binList, List.mem_cons, List.not_mem_nil, or_false] at h
  generalize strOf l = s at *
  rcases h with rfl | rfl | rfl | rfl | rfl | rfl | rfl | rfl | rfl | rfl | rfl | rfl
  all_goals
    first | replace h1 := h1.trans (show decide _ = true by decide) | replace h1 := h1.trans (show decide _ = false by decide)
    first | replace h2 := h2.trans (show decide _ = true by decide) | replace h2 := h2.trans (show decide _ = false by decide)
    first | replace h3 := h3.trans (show decide _ = true by decide) | replace h3 := h3.trans (show decide _ = false by decide)
    first | replace h4 := h4.trans (show decide _ = true by decide) | replace h4 := h4.trans (show decide _ = false by decide)
    first | replace h5 := h5.trans (show decide _ = true by decide) | replace h5 := h5.trans (show decide _ = false by decide)
    first | replace h6 := h6.trans (show decide _ = true by decide) | replace h6 := h6.trans (show decide _ = false by decide)
    first | replace h7 := h7.trans (show decide _ = true by decide) | replace h7 := h7.trans (show decide _ = false by decide)
    first | replace h8 := h8.trans (show decide _ = true by decide) | replace h8 := h8.trans (show decide _ = false by decide)
    first | replace h9 := h9.trans (show decide _ = true by decide) | replace h9 := h9.trans (show decide _ = false by decide)
    first | replace h10 := h10.trans (show decide _ = true by decide) | replace h10 := h10.trans (show decide _ = false by decide)
    first | replace h11 := h11.trans (show decide _ = true by decide) | replace h11 := h11.trans (show decide _ = false by decide)
    first | replace h12 := h12.trans (show decide _ = true by decide) | replace h12 := h12.trans (show decide _ = false by decide)
    go_enter Tryz.func103, Tryz.ntmps103
    go_wp2
    go_ret
    exact ⟨rfl, rfl⟩

set_option maxHeartbeats 1000000 in
theorem bin_no (l : List UInt8) (h : l ∉ binList) (w : World) : Calls Tryz.prog 103 #[.string (strOf l)] w fun e w' => e = .returned (.bool false) ∧ w = w' := by
  have hb : ∀ m, m ∈ binList → ((strOf l).toList == m) = false := fun m hm => by
    rw [strOf_tl]; exact beq_false_of_ne (fun e => h (e ▸ hm))
  simp only [binList, List.mem_cons, List.not_mem_nil, or_false, forall_eq_or_imp, forall_eq] at hb
  obtain ⟨h1, h2, h3, h4, h5, h6, h7, h8, h9, h10, h11, h12⟩ := hb
  generalize strOf l = s at *
  go_enter Tryz.func103, Tryz.ntmps103
  go_wp2
  go_ret
  exact ⟨rfl, rfl⟩

theorem bin_any (l : List UInt8) (w : World) : Calls Tryz.prog 103 #[.string (strOf l)] w fun e w' => e = .returned (.bool (isBin l)) ∧ w = w' := by
  cases h : isBin l with
  | true => exact bin_yes l ((isBin_iff l).1 h) w
  | false => exact bin_no l (fun hm => by rw [(isBin_iff l).2 hm] at h; cases h) w

set_option maxHeartbeats 4000000 in
theorem un_yes (l : List UInt8) (h : l ∈ unList) (w : World) : Calls Tryz.prog 104 #[.string (strOf l)] w fun e w' => e = .returned (.bool true) ∧ w = w' := by
  have hb : ∀ m, m ∈ unList → ((strOf l).toList == m) = decide (l = m) := fun m _ => by
    have := str_beq l m
    rwa [strOf_tl m] at this
  simp only [unList, List.mem_cons, List.not_mem_nil, or_false, forall_eq_or_imp, forall_eq] at hb
  obtain ⟨h1, h2, h3⟩ := hb
  simp only [unList, List.mem_cons, List.not_mem_nil, or_false] at h
  generalize strOf l = s at *
  rcases h with rfl | rfl | rfl
  all_goals
    first | replace h1 := h1.trans (show decide _ = true by decide) | replace h1 := h1.trans (show decide _ = false by decide)
    first | replace h2 := h2.trans (show decide _ = true by decide) | replace h2 := h2.trans (show decide _ = false by decide)
    first | replace h3 := h3.trans (show decide _ = true by decide) | replace h3 := h3.trans (show decide _ = false by decide)
    go_enter Tryz.func104, Tryz.ntmps104
    go_wp2
    go_ret
    exact ⟨rfl, rfl⟩

set_option maxHeartbeats 1000000 in
theorem un_no (l : List UInt8) (h : l ∉ unList) (w : World) : Calls Tryz.prog 104 #[.string (strOf l)] w fun e w' => e = .returned (.bool false) ∧ w = w' := by
  have hb : ∀ m, m ∈ unList → ((strOf l).toList == m) = false := fun m hm => by
    rw [strOf_tl]; exact beq_false_of_ne (fun e => h (e ▸ hm))
  simp only [unList, List.mem_cons, List.not_mem_nil, or_false, forall_eq_or_imp, forall_eq] at hb
  obtain ⟨h1, h2, h3⟩ := hb
  generalize strOf l = s at *
  go_enter Tryz.func104, Tryz.ntmps104
  go_wp2
  go_ret
  exact ⟨rfl, rfl⟩

theorem un_any (l : List UInt8) (w : World) : Calls Tryz.prog 104 #[.string (strOf l)] w fun e w' => e = .returned (.bool (isUn l)) ∧ w = w' := by
  cases h : isUn l with
  | true => exact un_yes l ((isUn_iff l).1 h) w
  | false => exact un_no l (fun hm => by rw [(isUn_iff l).2 hm] at h; cases h) w

end Go.Proofs.YtemlceicmpcboaaGreatDoor.Tr
