/- The walk of octet.isWidth, octet.fits, octet.encode, octet.decode and chrysalisref01.wide: their contracts. No condition but those that each states. -/
import Derived.Test.YtmnbkopfmhdijaaDoorRows
import Derived.WalkKit
import Derived.WalkLawsBesides
import Derived.WalkSpells
import Derived.Lib.Hide
import Derived.Deep.OwnRows
import Derived.Laws.IdiomStrings
import Derived.Lib.Endian
import Derived.Lib.EndianBits
import Derived.Test.YtmnbkopfmhdijaaDoorOctPlain
namespace Go.Proofs.YtmnbkopfmhdijaaDoor
open Go.RowKit

/-- Two calls one behind the other. -/
theorem chain {w w1 w2 : World} (h : Below w.heap.size w w1) (k : Below w1.heap.size w1 w2) : Below w.heap.size w w2 := h.trans (k.mono h.size)

def wideB (n : Int) : Bool := n == 1 || n == 2 || n == 4 || n == 8

set_option maxHeartbeats 400000 in
theorem isWidth_any (n : Int) (w : World) : Calls Tryd.prog 82 #[.int .i64 n] w fun e w' => e = .returned (.bool (wideB n)) ∧ w = w' := by
  by_cases h1 : n = 1
  · subst h1
    go_enter Tryd.func82, Tryd.ntmps82
    go_wp2
    go_ret
    exact ⟨rfl, rfl⟩
  by_cases h2 : n = 2
  · subst h2
    go_enter Tryd.func82, Tryd.ntmps82
    go_wp2
    go_ret
    exact ⟨rfl, rfl⟩
  by_cases h4 : n = 4
  · subst h4
    go_enter Tryd.func82, Tryd.ntmps82
    go_wp2
    go_ret
    exact ⟨rfl, rfl⟩
  by_cases h8 : n = 8
  · subst h8
    go_enter Tryd.func82, Tryd.ntmps82
    go_wp2
    go_ret
    exact ⟨rfl, rfl⟩
  have e1 : (n == 1) = false := beq_eq_false_iff_ne.2 h1
  have e2 : (n == 2) = false := beq_eq_false_iff_ne.2 h2
  have e4 : (n == 4) = false := beq_eq_false_iff_ne.2 h4
  have e8 : (n == 8) = false := beq_eq_false_iff_ne.2 h8
  have hw : wideB n = false := by simp [wideB, e1, e2, e4, e8]
  rw [hw]
  clear h1 h2 h4 h8 hw
  go_enter Tryd.func82, Tryd.ntmps82
  go_wp2
  go_ret
  exact ⟨rfl, rfl⟩

theorem Tryd.info5 : (Tryd.prog.info? 5).map (fun i => (i.zero, i.size, i.bytes)) = some (some (.int .u8 0), 1, 1) := by kernel_rfl

/-- What the row of encode holds behind j rounds. -/
def encRow (u j : Nat) : Nat → Value := fun i => if i < j then .int .u8 ((u / 256 ^ i % 256 : Nat) : Int) else .int .u8 0

theorem cast_div (u j : Nat) : ((u / 256 ^ j : Nat) : Int) = (u : Int) / 256 ^ j := by
  rw [Int.natCast_ediv, Int.natCast_pow]; rfl

theorem encRow_set (u j : Nat) (i : Nat) : (if i = j then Value.int .u8 ((u : Int) / 256 ^ j % 256) else encRow u j i) = encRow u (j + 1) i := by
  unfold encRow
  by_cases h1 : i = j
  · subst h1; rw [if_pos rfl, if_pos (by omega), Int.natCast_emod, cast_div]; rfl
  · rw [if_neg h1]
    by_cases h2 : i < j
    · rw [if_pos h2, if_pos (by omega)]
    · rw [if_neg h2, if_neg (by omega)]

set_option maxHeartbeats 400000 in
theorem encode_any (u k : Nat) (w : World) (_hu : u < 2 ^ 64) (hk : k ≤ 8) :
    Calls Tryd.prog 84 #[.int .u64 u, .int .i64 k] w fun e w' => e = .returned (.string ⟨(Lib.leBytes k u).toArray⟩) ∧ Below w.heap.size w w' := by
  have hmk := fun w : World => run_make_row' (P := Tryd.prog) 83 5 (.int .u8 0) 1 Tryd.underlying83 Tryd.info5 rfl .i64 .i64 k (by omega) (by omega) w
  go_enter Tryd.func84, Tryd.ntmps84
  go_wp2
  clear hmk
  go_loopw [0, 11] (fun vn vi wr => ∃ j : Nat, j ≤ k ∧ vi = .int .i64 j ∧ vn = .int .u64 ((u : Int) / 256 ^ j) ∧ Hid (wr.rowIs w.heap.size 5 k (encRow u j)) ∧ Hid (Below w.heap.size w wr)) (fun _ vi _ => k - (intOf vi).toNat)
  case atStart => exact ⟨0, Nat.zero_le _, rfl, by simp, (World.rowIs_made w _ _ _).congr (fun i _ => by simp [encRow]), (Below.refl _ _).alloc (Nat.le_refl _) _⟩
  case round =>
    obtain ⟨j, hj, rfl, rfl, hrow, hbel⟩ := hrel
    have hf : wr.frozen? ⟨w.heap.size, j, none⟩ = false := hrow.out.frozen _
    have hc : j < k → wr.cell? ⟨w.heap.size, j, none⟩ = some (encRow u j j) := fun h => hrow.out.cell h
    by_cases hlt : j < k
    · have hc' := hc hlt
      clear hc
      go_wp2
      go_roundw
      case rel =>
        refine ⟨j + 1, by omega, by go_num, ?_, (hrow.out.set _ _).congr (fun i _ => encRow_set u j i), hbel.out.setCell (by simp) _⟩
        rw [← cast_div, ← cast_div, Nat.pow_succ, ← Nat.div_div_eq_div_mul]; rfl
      case measure => simp [intOf]; omega
    · obtain rfl : j = k := by omega
      have g := run_convert_bytes_back (P := Tryd.prog) wr 83 9 5 ⟨w.heap.size, 0, none⟩ j (Lib.leBytes j u) Tryd.underlying83 Tryd.underlying5 Tryd.underlying9 (fun i hi => by
        have hi' : i < j := by simpa [Lib.leBytes_length] using hi
        rw [show (⟨w.heap.size, 0, none⟩ : Addr).add i = ⟨w.heap.size, i, none⟩ by rw [Addr.add_lit, Nat.zero_add], hrow.out.cell hi', leBytes_at]
        simp [encRow, hi'])
      rw [Lib.leBytes_length] at g
      clear hc hf
      go_wp2
      go_ret
      exact ⟨rfl, hbel.out⟩

/-- What octet.fits answers. -/
def fitsB (n k : Int) : Bool := k == 8 || (decide (0 ≤ n) && decide (n < 2 ^ (8 * k).toNat))

set_option maxHeartbeats 400000 in
theorem fits_any (n k : Int) (w : World) (hk : k = 1 ∨ k = 2 ∨ k = 4 ∨ k = 8) : Calls Tryd.prog 83 #[.int .i64 n, .int .i64 k] w fun e w' => e = .returned (.bool (fitsB n k)) ∧ w = w' := by
  rcases hk with rfl | rfl | rfl | rfl
  all_goals
    by_cases h0 : 0 ≤ n
    all_goals
      go_enter Tryd.func83, Tryd.ntmps83
      go_wp2
      go_ret
      exact ⟨by first | (simp [fitsB, h0]; done) | (simp [fitsB]; omega), rfl⟩

theorem encode_int (x k : Int) (w : World) (h0 : 0 ≤ x) (h1 : x < 2 ^ 64) (k0 : 0 ≤ k) (k8 : k ≤ 8) :
    Calls Tryd.prog 84 #[.int .u64 x, .int .i64 k] w fun e w' => e = .returned (.string ⟨(Lib.leBytes k.toNat x.toNat).toArray⟩) ∧ Below w.heap.size w w' := by
  obtain ⟨u, rfl⟩ := Int.eq_ofNat_of_zero_le h0
  obtain ⟨j, rfl⟩ := Int.eq_ofNat_of_zero_le k0
  exact encode_any u j w (by omega) (by omega)

end Go.Proofs.YtmnbkopfmhdijaaDoor
