/- What octet.Get, octet.Next and the document's Get, Next answer, each by one function: and the walk of chrysalislaw01.OctetGets. No condition but those that each states. -/
import Derived.Test.YtbnpocgmidnjcaaOctS
import Derived.Test.YtbnpocgmidnjcaaOctK
namespace Go.Proofs.Ytbnpocgmidnjcaa
open Go.RowKit

def getN (s : ByteArray) (p k : Int) : Int := if wideB k = true ∧ 0 ≤ p ∧ k ≤ (s.size : Int) - p then getI (bytesAt s p.toNat k.toNat) else 0
def getE (s : ByteArray) (p k : Int) : Int := if wideB k = true ∧ 0 ≤ p then (if k ≤ (s.size : Int) - p then 0 else 2) else 1

theorem get_all (s : ByteArray) (p k : Int) (w : World) (hp2 : p ≤ 9223372036854775807) (hs : s.size ≤ 9223372036854775807) :
    Calls Try.prog 12 #[.string s, .int .i64 p, .int .i64 k] w fun e w' => e = .returned (.tuple #[.int .i64 (getN s p k), .int .i64 (getE s p k)]) ∧ w = w' := by
  cases hk : wideB k with
  | false => exact (get_wide s p k w hk).mono fun _ _ ⟨he, hb⟩ => ⟨by rw [he]; simp [getN, getE, hk], hb⟩
  | true =>
    by_cases hp : p < 0
    · exact (get_neg s p k w hk hp).mono fun _ _ ⟨he, hb⟩ => ⟨by rw [he, getN, getE, if_neg (by omega), if_neg (by omega)], hb⟩
    · by_cases h : (s.size : Int) - p < k
      · exact (get_short s p k w hk (by omega) hp2 hs h).mono fun _ _ ⟨he, hb⟩ => ⟨by rw [he, getN, getE, if_neg (by omega), if_pos ⟨hk, by omega⟩, if_neg (by omega)], hb⟩
      · exact (get_ok s p k w hk (by omega) hs (by omega)).mono fun _ _ ⟨he, hb⟩ => ⟨by rw [he, getN, getE, if_pos ⟨hk, by omega, by omega⟩, if_pos ⟨hk, by omega⟩, if_pos (by omega)]; rfl, hb⟩

theorem rget_all (s : ByteArray) (p k : Int) (w : World) (hp2 : p ≤ 9223372036854775807) (hs : s.size ≤ 9223372036854775807) :
    Calls Try.prog 13 #[.string s, .int .i64 p, .int .i64 k] w fun e w' => e = .returned (.tuple #[.int .i64 (getN s p k), .int .i64 (getE s p k)]) ∧ w = w' := by
  cases hk : wideB k with
  | false => exact (rget_wide s p k w hk).mono fun _ _ ⟨he, hb⟩ => ⟨by rw [he]; simp [getN, getE, hk], hb⟩
  | true =>
    by_cases hp : p < 0
    · exact (rget_neg s p k w hk hp).mono fun _ _ ⟨he, hb⟩ => ⟨by rw [he, getN, getE, if_neg (by omega), if_neg (by omega)], hb⟩
    · by_cases h : (s.size : Int) - p < k
      · exact (rget_short s p k w hk (by omega) hp2 hs h).mono fun _ _ ⟨he, hb⟩ => ⟨by rw [he, getN, getE, if_neg (by omega), if_pos ⟨hk, by omega⟩, if_neg (by omega)], hb⟩
      · have hk' := wide_cases hk
        obtain ⟨a, rfl⟩ := Int.eq_ofNat_of_zero_le (show 0 ≤ p by omega)
        obtain ⟨q, rfl⟩ := Int.eq_ofNat_of_zero_le (show 0 ≤ k by omega)
        exact (rget_nat s a q w hk hs (by omega)).mono fun _ _ ⟨he, hb⟩ => ⟨by rw [he, getN, getE, if_pos ⟨hk, by omega, by omega⟩, if_pos ⟨hk, by omega⟩, if_pos (by omega), Int.toNat_natCast, Int.toNat_natCast], hb⟩

def nextB (s : ByteArray) (p : Int) : Bool := decide (0 ≤ p ∧ p + 4 + (lenAt s p.toNat : Int) ≤ s.size)
def nextS (s : ByteArray) (p : Int) : ByteArray := if nextB s p = true then s.extract (p.toNat + 4) (p.toNat + 4 + lenAt s p.toNat) else ⟨#[]⟩
def nextI (s : ByteArray) (p : Int) : Int := if nextB s p = true then p + 4 + (lenAt s p.toNat : Int) else 0
def nextE (s : ByteArray) (p : Int) : Int := if nextB s p = true then 0 else if 0 ≤ p then 2 else 1

theorem nextB_no {s : ByteArray} {p : Int} (h : ¬ (0 ≤ p ∧ p + 4 + (lenAt s p.toNat : Int) ≤ s.size)) : ¬ nextB s p = true := by simpa [nextB] using h
theorem nextB_yes {s : ByteArray} {p : Int} (h : 0 ≤ p ∧ p + 4 + (lenAt s p.toNat : Int) ≤ s.size) : nextB s p = true := by simpa [nextB] using h

theorem next_all (s : ByteArray) (p : Int) (w : World) (hp2 : p ≤ 9223372036854775807) (hs : s.size ≤ 9223372036854775807) :
    Calls Try.prog 14 #[.string s, .int .i64 p] w fun e w' => e = .returned (.tuple #[.string (nextS s p), .int .i64 (nextI s p), .int .i64 (nextE s p)]) ∧ w = w' := by
  by_cases hp : p < 0
  · have hn := nextB_no (s := s) (p := p) (by omega)
    exact (next_neg s p w hp).mono fun _ _ ⟨he, hb⟩ => ⟨by rw [he, nextS, nextI, nextE, if_neg hn, if_neg hn, if_neg hn, if_neg (by omega)], hb⟩
  · by_cases h : (s.size : Int) - p < 4
    · have hn := nextB_no (s := s) (p := p) (by omega)
      exact (next_short s p w (by omega) hp2 hs h).mono fun _ _ ⟨he, hb⟩ => ⟨by rw [he, nextS, nextI, nextE, if_neg hn, if_neg hn, if_neg hn, if_pos (by omega)], hb⟩
    · obtain ⟨a, rfl⟩ := Int.eq_ofNat_of_zero_le (show 0 ≤ p by omega)
      by_cases h2 : a + 4 + lenAt s a ≤ s.size
      · have hn := nextB_yes (s := s) (p := (a : Int)) (by rw [Int.toNat_natCast]; omega)
        exact (next_ok s a w hs h2).mono fun _ _ ⟨he, hb⟩ => ⟨by rw [he, nextS, nextI, nextE, if_pos hn, if_pos hn, if_pos hn, Int.toNat_natCast, Int.natCast_add, Int.natCast_add]; rfl, hb⟩
      · have hn := nextB_no (s := s) (p := (a : Int)) (by rw [Int.toNat_natCast]; omega)
        exact (next_cut s a w hs (by omega) (by omega)).mono fun _ _ ⟨he, hb⟩ => ⟨by rw [he, nextS, nextI, nextE, if_neg hn, if_neg hn, if_neg hn, if_pos (by omega)], hb⟩

theorem rnext_all (s : ByteArray) (p : Int) (w : World) (hp2 : p ≤ 9223372036854775807) (hs : s.size ≤ 9223372036854775807) :
    Calls Try.prog 15 #[.string s, .int .i64 p] w fun e w' => e = .returned (.tuple #[.string (nextS s p), .int .i64 (nextI s p), .int .i64 (nextE s p)]) ∧ w = w' := by
  by_cases hp : p < 0
  · have hn := nextB_no (s := s) (p := p) (by omega)
    exact (rnext_neg s p w hp).mono fun _ _ ⟨he, hb⟩ => ⟨by rw [he, nextS, nextI, nextE, if_neg hn, if_neg hn, if_neg hn, if_neg (by omega)], hb⟩
  · by_cases h : (s.size : Int) - p < 4
    · have hn := nextB_no (s := s) (p := p) (by omega)
      exact (rnext_short s p w (by omega) hp2 hs h).mono fun _ _ ⟨he, hb⟩ => ⟨by rw [he, nextS, nextI, nextE, if_neg hn, if_neg hn, if_neg hn, if_pos (by omega)], hb⟩
    · obtain ⟨a, rfl⟩ := Int.eq_ofNat_of_zero_le (show 0 ≤ p by omega)
      by_cases h2 : a + 4 + lenAt s a ≤ s.size
      · have hn := nextB_yes (s := s) (p := (a : Int)) (by rw [Int.toNat_natCast]; omega)
        exact (rnext_ok s a w hs h2).mono fun _ _ ⟨he, hb⟩ => ⟨by rw [he, nextS, nextI, nextE, if_pos hn, if_pos hn, if_pos hn, Int.toNat_natCast, Int.natCast_add, Int.natCast_add]; rfl, hb⟩
      · have hn := nextB_no (s := s) (p := (a : Int)) (by rw [Int.toNat_natCast]; omega)
        exact (rnext_cut s a w hs (by omega) (by omega)).mono fun _ _ ⟨he, hb⟩ => ⟨by rw [he, nextS, nextI, nextE, if_neg hn, if_neg hn, if_neg hn, if_pos (by omega)], hb⟩

theorem i64_le {p : Int} (h : (Lit.int .i64 p).wf = true) : -9223372036854775808 ≤ p ∧ p ≤ 9223372036854775807 := by
  simp only [Lit.wf, IntKind.min, IntKind.max, IntKind.signed, IntKind.bits, Bool.and_eq_true, decide_eq_true_eq, if_true] at h
  omega

set_option maxHeartbeats 1000000 in
theorem gets_true (s : ByteArray) (ws : s.size ≤ maxLen) (p : Int) (wp : (Lit.int .i64 p).wf = true) (k : Int) (_wk : (Lit.int .i64 k).wf = true) (w : World) :
    Calls Try.prog 4 #[.string s, .int .i64 p, .int .i64 k] w fun e w' => e = .returned (.bool true) ∧ Below w.heap.size w w' := by
  have hp := (i64_le wp).2
  have hs : s.size ≤ 9223372036854775807 := by unfold maxLen at ws; omega
  clear wp ws
  by_cases hb : 100000 < s.size
  · have hb' : (100000 : Int) < (s.size : Int) := by omega
    go_enter Try.func4, Try.ntmps4
    go_wp2_with fail
    refine (known_true _).mono ?_
    rintro e w1 ⟨rfl, hb⟩
    go_wp2
    go_ret
    exact ⟨rfl, hb⟩
  · have hb' : ¬ (100000 : Int) < (s.size : Int) := by omega
    go_enter Try.func4, Try.ntmps4
    go_wp2_with fail
    refine (get_all _ _ _ _ hp hs).mono ?_
    rintro e w1 ⟨rfl, rfl⟩
    go_wp2_with fail
    refine (rget_all _ _ _ _ hp hs).mono ?_
    rintro e w1 ⟨rfl, rfl⟩
    go_wp2_with fail
    refine (next_all _ _ _ hp hs).mono ?_
    rintro e w1 ⟨rfl, rfl⟩
    go_wp2_with fail
    refine (rnext_all _ _ _ hp hs).mono ?_
    rintro e w1 ⟨rfl, rfl⟩
    go_wp2_with fail
    refine (known_true _).mono ?_
    rintro e w1 ⟨rfl, hb⟩
    go_wp2
    go_ret
    exact ⟨rfl, hb⟩

end Go.Proofs.Ytbnpocgmidnjcaa
