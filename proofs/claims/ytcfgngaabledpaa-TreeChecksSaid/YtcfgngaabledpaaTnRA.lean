/- The walks of chrysalisref08's letter, digit, blank, Key, word, Name: their contracts. No condition but those that each states. -/
import Derived.Test.YtcfgngaabledpaaTnG
namespace Go.Proofs.Ytcfgngaabledpaa.Lx
open Go.RowKit Dk
set_option maxHeartbeats 400000 in
theorem rletter_any (r : Int) (w : World) : Calls Try.prog 51 #[.int .u8 r] w fun e w' => e = .returned (.bool (rL r)) ∧ w = w' := by
  rcases (show r < 97 ∨ (97 ≤ r ∧ r ≤ 122) ∨ 122 < r by omega) with h | ⟨h, h'⟩ | h
  all_goals
    go_enter Try.func51, Try.ntmps51
    go_wp2
    go_ret
    refine ⟨?_, rfl⟩
    congr 2
    unfold rL
    simp
    omega
set_option maxHeartbeats 400000 in
theorem rdigit_any (r : Int) (w : World) : Calls Try.prog 52 #[.int .u8 r] w fun e w' => e = .returned (.bool (rD r)) ∧ w = w' := by
  rcases (show r < 48 ∨ (48 ≤ r ∧ r ≤ 57) ∨ 57 < r by omega) with h | ⟨h, h'⟩ | h
  all_goals
    go_enter Try.func52, Try.ntmps52
    go_wp2
    go_ret
    refine ⟨?_, rfl⟩
    congr 2
    unfold rD
    simp
    omega
theorem row_strings (w : World) (ks : List (List UInt8)) (t : TypeId) (j : Nat) (k : List UInt8) (h : ks[j]? = some k) : (w.alloc (.cells (ks.map fun l => Value.string (strOf l)).toArray t)).cell? ⟨w.heap.size, j, none⟩ = some (.string (strOf k)) := by
  rw [World.cell?_alloc_mark]
  simp [h]
set_option maxHeartbeats 1000000 in
theorem rkey_any (l : List UInt8) (w : World) : Calls Try.prog 48 #[.string (strOf l)] w fun e w' => e = .returned (.bool (isKey l)) ∧ Below w.heap.size w w' := by
  have HB : Hid (Below w.heap.size w (w.alloc (.cells (keyList.map fun l => Value.string (strOf l)).toArray 9))) := Lib.hid ((Below.refl _ _).alloc (Nat.le_refl _) _)
  have HC := Lib.hid (fun j k h => row_strings w keyList 9 j k h)
  have HK := Lib.hid (isKey_iff l)
  go_enter Try.func48, Try.ntmps48
  go_wp2
  obtain ⟨W1, hW⟩ : ∃ W1, W1 = w.alloc (.cells (keyList.map fun l => Value.string (strOf l)).toArray 9) := ⟨_, rfl⟩
  rw [← hW] at HB HC
  go_loopw [4] (fun vi wr => ∃ j : Nat, j ≤ 20 ∧ vi = .int .i64 (j : Int) ∧ wr = W1 ∧ Hid (l ∉ keyList.take j)) (fun vi _ => 20 - (intOf vi).toNat)
  case atStart => exact ⟨0, Nat.zero_le _, rfl, hW.symm, Lib.hid (by simp)⟩
  case round =>
    obtain ⟨j, hj, rfl, rfl, hn⟩ := hrel
    by_cases hlt : j < 20
    · obtain ⟨k, hk⟩ : ∃ k, keyList[j]? = some k := ⟨_, List.getElem?_eq_getElem (by show j < 20; exact hlt)⟩
      have c := HC.out j k hk
      have hb := str_beq k l
      have z0 : (0 : Int) ≤ (j : Int) := by omega
      have z1 : (j : Int) < 20 := by omega
      by_cases he : k = l
      · have HT : Hid (isKey l = true) := Lib.hid (HK.out.2 (by rw [← he]; exact List.mem_of_getElem? hk))
        rw [decide_eq_true he] at hb
        generalize strOf k = y at *
        generalize strOf l = z at *
        clear he hk hW
        go_wp2
        go_ret
        exact ⟨by rw [HT.out]; rfl, HB.out⟩
      · have HN : Hid (l ∉ keyList.take (j + 1)) := Lib.hid (by
          have e := List.getElem?_eq_some_iff.1 hk
          obtain ⟨h1, h2⟩ := e
          rw [List.take_succ_eq_append_getElem h1, List.mem_append]
          rintro (h | h)
          · exact hn.out h
          · rw [List.mem_singleton, h2] at h; exact he h.symm)
        rw [decide_eq_false he] at hb
        generalize strOf k = y at *
        generalize strOf l = z at *
        clear he hk hW hn
        go_wp2
        go_roundw
        case rel => exact ⟨j + 1, by omega, by go_num, by trivial, HN⟩
        case measure => simp [intOf]; omega
    · obtain rfl : j = 20 := by omega
      have HF : Hid (isKey l = false) := Lib.hid (by
        cases h : isKey l with
        | false => rfl
        | true => exact absurd (HK.out.1 h) hn.out)
      clear hW hn
      go_wp2
      go_ret
      exact ⟨by rw [HF.out]; rfl, HB.out⟩
/-- How many bytes of a word stand there. -/
def wordN (L : List UInt8) : Nat := match L with
  | [] => 0
  | c :: r => if isL c then spanN isW (c :: r) else 0
end Go.Proofs.Ytcfgngaabledpaa.Lx
