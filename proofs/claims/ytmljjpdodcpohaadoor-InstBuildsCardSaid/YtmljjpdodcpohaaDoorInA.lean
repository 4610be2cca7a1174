/- The walks of inst.known, Shape, Name, unused: their contracts. No condition but those that each states. -/
import Derived.Test.YtmljjpdodcpohaaDoorInL
namespace Go.Proofs.YtmljjpdodcpohaaDoor.In
open Go.RowKit Dk

theorem known_any (op : Int) (w : World) : Calls Tryd.prog 23 #[.int .i64 op] w fun e w' => e = .returned (.bool (decide (0 ≤ op ∧ op < 38))) ∧ w = w' := by
  by_cases h0 : 0 ≤ op
  · have v0 : op ≥ 0 := h0
    by_cases h1 : op < 38
    · have v1 : decide (0 ≤ op ∧ op < 38) = true := decide_eq_true ⟨h0, h1⟩
      rw [v1]
      go_enter Tryd.func23, Tryd.ntmps23
      go_wp2
      go_ret
      exact ⟨rfl, rfl⟩
    · have v1 : decide (0 ≤ op ∧ op < 38) = false := decide_eq_false (fun h => h1 h.2)
      rw [v1]
      go_enter Tryd.func23, Tryd.ntmps23
      go_wp2
      go_ret
      exact ⟨rfl, rfl⟩
  · have v0 : ¬op ≥ 0 := h0
    have v1 : decide (0 ≤ op ∧ op < 38) = false := decide_eq_false (fun h => h0 h.1)
    rw [v1]
    go_enter Tryd.func23, Tryd.ntmps23
    go_wp2
    go_ret
    exact ⟨rfl, rfl⟩

set_option maxRecDepth 100000 in
theorem shape_any (op : Int) (w : World) (HF : HasF w) : Calls Tryd.prog 14 #[.int .i64 op] w fun e w' => e = .returned (.string (strOf (shapeL op))) ∧ w = w' := by
  have KN := Lib.hid (known_any op w)
  by_cases h : 0 ≤ op ∧ op < 38
  · rw [decide_eq_true h] at KN
    obtain ⟨k, hk, rfl⟩ := op_cases h
    rw [shape_at hk]
    have hc := HF.sh k hk
    have z0 : (0 : Int) ≤ (k : Int) := by omega
    have z1 : (k : Int) < 38 := by omega
    generalize strOf (ops.getD k ([], [])).2 = q at *
    clear HF h
    go_enter Tryd.func14, Tryd.ntmps14
    go_wp2_with (go_at_call 23; refine KN.out.mono ?_; rintro e w1 ⟨rfl, rfl⟩)
    go_ret
    exact ⟨rfl, rfl⟩
  · rw [decide_eq_false h] at KN
    rw [shape_none h]
    clear HF h
    go_enter Tryd.func14, Tryd.ntmps14
    go_wp2_with (go_at_call 23; refine KN.out.mono ?_; rintro e w1 ⟨rfl, rfl⟩)
    go_ret
    exact ⟨rfl, rfl⟩

set_option maxRecDepth 100000 in
theorem name_any (op : Int) (w : World) (HF : HasF w) : Calls Tryd.prog 16 #[.int .i64 op] w fun e w' => e = .returned (.string (strOf (nameL op))) ∧ w = w' := by
  have KN := Lib.hid (known_any op w)
  by_cases h : 0 ≤ op ∧ op < 38
  · rw [decide_eq_true h] at KN
    obtain ⟨k, hk, rfl⟩ := op_cases h
    rw [name_at hk]
    have hc := HF.nm k hk
    have z0 : (0 : Int) ≤ (k : Int) := by omega
    have z1 : (k : Int) < 38 := by omega
    generalize strOf (ops.getD k ([], [])).1 = q at *
    clear HF h
    go_enter Tryd.func16, Tryd.ntmps16
    go_wp2_with (go_at_call 23; refine KN.out.mono ?_; rintro e w1 ⟨rfl, rfl⟩)
    go_ret
    exact ⟨rfl, rfl⟩
  · rw [decide_eq_false h] at KN
    rw [name_none h]
    clear HF h
    go_enter Tryd.func16, Tryd.ntmps16
    go_wp2_with (go_at_call 23; refine KN.out.mono ?_; rintro e w1 ⟨rfl, rfl⟩)
    go_ret
    exact ⟨rfl, rfl⟩

/-- Whether a shape has no use for a number. -/
theorem unused_any (sh : List UInt8) (i : Nat) (w : World) (_hs : sh.length ≤ 3) : Calls Tryd.prog 21 #[.string (strOf sh), .int .i64 (i : Int)] w fun e w' => e = .returned (.bool (letter sh i == 45)) ∧ w = w' := by
  have hsz := strOf_size sh
  have z0 : (0 : Int) ≤ (i : Int) := by omega
  by_cases h : i < sh.length
  · obtain ⟨c, hc⟩ : ∃ c, c = sh[i] := ⟨_, rfl⟩
    have hl : letter sh i = c := by unfold letter; rw [List.getD_eq_getElem?_getD, List.getElem?_eq_getElem h, hc]; rfl
    rw [hl]
    have z1 : (i : Int) < ((strOf sh).size : Int) := by omega
    have hq : ∀ h' : i < (strOf sh).size, (strOf sh)[i] = c := fun _ => by rw [hc]; rfl
    have hqi : i < (strOf sh).size := by omega
    clear hc hl
    generalize strOf sh = q at *
    have e1 : (c == 45) = ((c.toNat : Int) == 45) := by
      rw [Bool.eq_iff_iff, beq_iff_eq, beq_iff_eq, ← UInt8.toNat_inj]
      constructor
      · intro e; rw [e]; rfl
      · intro e; have : (45 : UInt8).toNat = 45 := rfl; omega
    rw [e1]
    clear h hsz
    go_enter Tryd.func21, Tryd.ntmps21
    go_wp2
    go_ret
    exact ⟨by rw [← hq hqi]; rfl, rfl⟩
  · have z1 : ¬(i : Int) < ((strOf sh).size : Int) := by omega
    have hl : letter sh i = 119 := by unfold letter; rw [List.getD_eq_getElem?_getD, List.getElem?_eq_none (by omega)]; rfl
    rw [hl]
    generalize strOf sh = q at *
    clear hl h hsz
    go_enter Tryd.func21, Tryd.ntmps21
    go_wp2
    go_ret
    exact ⟨rfl, rfl⟩

end Go.Proofs.YtmljjpdodcpohaaDoor.In
