/- Plain facts on bytes and numbers: what octet's functions compute, as functions over lists. The walk of octet.isWidth, octet.fits, octet.encode, octet.decode and chrysalisref01.wide: their contracts. The walk of octet.Put, octet.decode and octet.Get: their contracts. The walk of octet.Get, octet.Next, octet.Text: their contracts. No condition but those that each states. -/
import Derived.Lib.Endian
import Derived.Lib.EndianMore
import Derived.Lib.EndianBits
import Derived.Test.YtkplmaaeggnbgaaDoorRows
import Derived.WalkKit
import Derived.WalkLawsBesides
import Derived.WalkSpells
import Derived.Lib.Hide
import Derived.Deep.OwnRows
import Derived.Laws.IdiomStrings
import Derived.Lib.Strings
import Derived.IntWalk
import Derived.ShutString
namespace Go.Proofs.YtkplmaaeggnbgaaDoor

theorem leBytes_at : ∀ (k u i : Nat) (h : i < (Lib.leBytes k u).length), ((Lib.leBytes k u)[i].toNat : Nat) = u / 256 ^ i % 256
  | 0, _, _, h => absurd h (Nat.not_lt_zero _)
  | k + 1, u, 0, _ => by simp [Lib.leBytes]
  | k + 1, u, i + 1, h => by
    have h' : i < (Lib.leBytes k (u / 256)).length := by simpa [Lib.leBytes] using h
    have := leBytes_at k (u / 256) i h'
    simp only [Lib.leBytes, List.getElem_cons_succ, this, Nat.pow_succ, Nat.div_div_eq_div_mul]
    rw [Nat.mul_comm]

theorem leBytes_snoc : ∀ (j u : Nat), Lib.leBytes (j + 1) u = Lib.leBytes j u ++ [(u / 256 ^ j % 256).toUInt8]
  | 0, u => by simp [Lib.leBytes]
  | j + 1, u => by
    rw [Lib.leBytes, leBytes_snoc j (u / 256)]
    simp only [Lib.leBytes, List.cons_append, Nat.div_div_eq_div_mul, Nat.pow_succ, Nat.mul_comm 256]

theorem leNat_lt : ∀ l : List UInt8, Lib.leNat l < 256 ^ l.length
  | [] => by simp [Lib.leNat]
  | b :: r => by
    have h := leNat_lt r
    have hb : b.toNat < 256 := b.toNat_lt
    simp only [Lib.leNat, List.length_cons, Nat.pow_succ]
    omega

theorem leNat_take_succ (l : List UInt8) (j : Nat) (h : j < l.length) : Lib.leNat (l.take (j + 1)) = Lib.leNat (l.take j) + 256 ^ j * l[j].toNat := by
  rw [List.take_succ_eq_append_getElem h, Lib.leNat_append]
  simp [Lib.leNat, List.length_take, Nat.min_eq_left (Nat.le_of_lt h)]

theorem pow256 (j : Nat) : 256 ^ j = 2 ^ (8 * j) := by rw [Nat.pow_mul]

/-- A number's bits as a number without a sign. -/
def u64 (n : Int) : Nat := (IntKind.u64.wrap n).toNat

theorem u64_cast (n : Int) : (u64 n : Int) = IntKind.u64.wrap n := by
  unfold u64; rw [IntKind.wrap_u64]; omega
theorem u64_lt (n : Int) : u64 n < 2 ^ 64 := by
  unfold u64; rw [IntKind.wrap_u64]; omega

theorem or_step (y b j : Nat) (hj : j < 8) (hy : y < 256 ^ j) (hb : b < 256) :
    bits .or .u64 (y : Int) (IntKind.u64.wrap (IntKind.u64.wrap (b : Int) * 2 ^ (8 * j))) = ((y + 256 ^ j * b : Nat) : Int) := by
  have hp : (2 : Nat) ^ (8 * j) * 256 ≤ 2 ^ 64 := by
    rw [show (256 : Nat) = 2 ^ 8 from rfl, ← Nat.pow_add]
    exact Nat.pow_le_pow_right (by omega) (by omega)
  have hq : b * 2 ^ (8 * j) < 2 ^ 64 := by
    have : b * 2 ^ (8 * j) < 256 * 2 ^ (8 * j) := Nat.mul_lt_mul_of_pos_right hb (Nat.pow_pos (by omega))
    rw [Nat.mul_comm 256] at this
    omega
  rw [pow256] at hy ⊢
  have e1 : IntKind.u64.wrap (b : Int) = b := wraps_u64 _ (by omega) (by omega)
  have e2 : (b : Int) * 2 ^ (8 * j) = ((b * 2 ^ (8 * j) : Nat) : Int) := by rw [Int.natCast_mul, Int.natCast_pow]; rfl
  rw [e1, e2, wraps_u64 _ (by omega) (by exact_mod_cast hq)]
  have hy64 : y < 2 ^ 64 := Nat.lt_of_lt_of_le hy (Nat.pow_le_pow_right (by omega) (by omega))
  have hm : ((b * 2 ^ (8 * j) : Nat) : Int) % 2 ^ (8 * j) = 0 := by rw [← e2]; exact Int.mul_emod_left _ _
  rw [bits_join_low .u64 64 (by decide) wraps_u64 (8 * j) y _ (by omega) (by exact_mod_cast hy) (by exact_mod_cast hy64) (by omega) hm (by exact_mod_cast hq)]
  rw [Nat.mul_comm b]
  omega

theorem mul_step (y b : Nat) (h : 256 * y + b < 2 ^ 64) (hb : b < 256) :
    IntKind.u64.wrap (IntKind.u64.wrap (256 * (y : Int)) + IntKind.u64.wrap (b : Int)) = ((256 * y + b : Nat) : Int) := by
  rw [wraps_u64 (256 * (y : Int)) (by omega) (by omega), wraps_u64 (b : Int) (by omega) (by omega), wraps_u64 _ (by omega) (by omega)]
  omega

theorem leNat_drop (l : List UInt8) (j : Nat) (h : j < l.length) : Lib.leNat (l.drop j) = 256 * Lib.leNat (l.drop (j + 1)) + l[j].toNat := by
  rw [List.drop_eq_getElem_cons h, Lib.leNat]
  omega

theorem leNat_drop_lt (l : List UInt8) (j : Nat) (h : l.length ≤ 8) : Lib.leNat (l.drop j) < 2 ^ 64 := by
  have h1 := leNat_lt (l.drop j)
  have h2 : 256 ^ (l.drop j).length ≤ 256 ^ 8 := Nat.pow_le_pow_right (by omega) (by simp; omega)
  exact Nat.lt_of_lt_of_le h1 h2

theorem wraps_u8 (n : Int) (h₀ : 0 ≤ n) (h₁ : n < 2 ^ 8) : IntKind.u8.wrap n = n := by
  simp [IntKind.wrap, IntKind.bits, IntKind.signed]; omega

theorem and15 (x : Nat) (h : x < 256) : bits .and .u8 (x : Int) 15 = ((x % 16 : Nat) : Int) := by
  have := (bits_nat .u8 8 (by decide) wraps_u8 x 15 (by omega) (by omega)).1
  rw [show ((15 : Nat) : Int) = 15 from rfl] at this
  rw [this, show (15 : Nat) = 2 ^ 4 - 1 from rfl, Nat.and_two_pow_sub_one_eq_mod]

/-- The number of eight bytes or fewer, as an int. -/
def getI (l : List UInt8) : Int := RowKit.wrap64 (Lib.leNat l)

end Go.Proofs.YtkplmaaeggnbgaaDoor
namespace Go.Proofs.YtkplmaaeggnbgaaDoor
open Go.RowKit

/-- Two calls one behind the other. -/
theorem chain {w w1 w2 : World} (h : Below w.heap.size w w1) (k : Below w1.heap.size w1 w2) : Below w.heap.size w w2 := h.trans (k.mono h.size)

def wideB (n : Int) : Bool := n == 1 || n == 2 || n == 4 || n == 8

set_option maxHeartbeats 400000 in
theorem isWidth_any (n : Int) (w : World) : Calls Tryd.prog 110 #[.int .i64 n] w fun e w' => e = .returned (.bool (wideB n)) ∧ w = w' := by
  by_cases h1 : n = 1
  · subst h1
    go_enter Tryd.func110, Tryd.ntmps110
    go_wp2
    go_ret
    exact ⟨rfl, rfl⟩
  by_cases h2 : n = 2
  · subst h2
    go_enter Tryd.func110, Tryd.ntmps110
    go_wp2
    go_ret
    exact ⟨rfl, rfl⟩
  by_cases h4 : n = 4
  · subst h4
    go_enter Tryd.func110, Tryd.ntmps110
    go_wp2
    go_ret
    exact ⟨rfl, rfl⟩
  by_cases h8 : n = 8
  · subst h8
    go_enter Tryd.func110, Tryd.ntmps110
    go_wp2
    go_ret
    exact ⟨rfl, rfl⟩
  have e1 : (n == 1) = false := beq_eq_false_iff_ne.2 h1
  have e2 : (n == 2) = false := beq_eq_false_iff_ne.2 h2
  have e4 : (n == 4) = false := beq_eq_false_iff_ne.2 h4
  have e8 : (n == 8) = false := beq_eq_false_iff_ne.2 h8
  have hw : wideB n = false := by simp [wideB, e1, e2, e4, e8]
  rw [hw]
  clear h1 h2 h4 h8 hw
  go_enter Tryd.func110, Tryd.ntmps110
  go_wp2
  go_ret
  exact ⟨rfl, rfl⟩

theorem Tryd.info5 : (Tryd.prog.info? 5).map (fun i => (i.zero, i.size, i.bytes)) = some (some (.int .u8 0), 1, 1) := by kernel_rfl

/-- What the row of encode holds behind j rounds. -/
def encRow (u j : Nat) : Nat → Value := fun i => if i < j then .int .u8 ((u / 256 ^ i % 256 : Nat) : Int) else .int .u8 0

theorem cast_div (u j : Nat) : ((u / 256 ^ j : Nat) : Int) = (u : Int) / 256 ^ j := by
  rw [Int.natCast_ediv, Int.natCast_pow]; rfl

theorem encRow_set (u j : Nat) (i : Nat) : (if i = j then Value.int .u8 ((u : Int) / 256 ^ j % 256) else encRow u j i) = encRow u (j + 1) i := by
  unfold encRow
  by_cases h1 : i = j
  · subst h1; rw [if_pos rfl, if_pos (by omega), Int.natCast_emod, cast_div]; rfl
  · rw [if_neg h1]
    by_cases h2 : i < j
    · rw [if_pos h2, if_pos (by omega)]
    · rw [if_neg h2, if_neg (by omega)]

set_option maxHeartbeats 400000 in
theorem encode_any (u k : Nat) (w : World) (_hu : u < 2 ^ 64) (hk : k ≤ 8) :
    Calls Tryd.prog 112 #[.int .u64 u, .int .i64 k] w fun e w' => e = .returned (.string ⟨(Lib.leBytes k u).toArray⟩) ∧ Below w.heap.size w w' := by
  have hmk := fun w : World => run_make_row' (P := Tryd.prog) 85 5 (.int .u8 0) 1 Tryd.underlying85 Tryd.info5 rfl .i64 .i64 k (by omega) (by omega) w
  go_enter Tryd.func112, Tryd.ntmps112
  go_wp2
  clear hmk
  go_loopw [0, 11] (fun vn vi wr => ∃ j : Nat, j ≤ k ∧ vi = .int .i64 j ∧ vn = .int .u64 ((u : Int) / 256 ^ j) ∧ Hid (wr.rowIs w.heap.size 5 k (encRow u j)) ∧ Hid (Below w.heap.size w wr)) (fun _ vi _ => k - (intOf vi).toNat)
  case atStart => exact ⟨0, Nat.zero_le _, rfl, by simp, (World.rowIs_made w _ _ _).congr (fun i _ => by simp [encRow]), (Below.refl _ _).alloc (Nat.le_refl _) _⟩
  case round =>
    obtain ⟨j, hj, rfl, rfl, hrow, hbel⟩ := hrel
    have hf : wr.frozen? ⟨w.heap.size, j, none⟩ = false := hrow.out.frozen _
    have hc : j < k → wr.cell? ⟨w.heap.size, j, none⟩ = some (encRow u j j) := fun h => hrow.out.cell h
    by_cases hlt : j < k
    · have hc' := hc hlt
      clear hc
      go_wp2
      go_roundw
      case rel =>
        refine ⟨j + 1, by omega, by go_num, ?_, (hrow.out.set _ _).congr (fun i _ => encRow_set u j i), hbel.out.setCell (by simp) _⟩
        rw [← cast_div, ← cast_div, Nat.pow_succ, ← Nat.div_div_eq_div_mul]; rfl
      case measure => simp [intOf]; omega
    · obtain rfl : j = k := by omega
      have g := run_convert_bytes_back (P := Tryd.prog) wr 85 9 5 ⟨w.heap.size, 0, none⟩ j (Lib.leBytes j u) Tryd.underlying85 Tryd.underlying5 Tryd.underlying9 (fun i hi => by
        have hi' : i < j := by simpa [Lib.leBytes_length] using hi
        rw [show (⟨w.heap.size, 0, none⟩ : Addr).add i = ⟨w.heap.size, i, none⟩ by rw [Addr.add_lit, Nat.zero_add], hrow.out.cell hi', leBytes_at]
        simp [encRow, hi'])
      rw [Lib.leBytes_length] at g
      clear hc hf
      go_wp2
      go_ret
      exact ⟨rfl, hbel.out⟩

/-- What octet.fits answers. -/
def fitsB (n k : Int) : Bool := k == 8 || (decide (0 ≤ n) && decide (n < 2 ^ (8 * k).toNat))

set_option maxHeartbeats 400000 in
theorem fits_any (n k : Int) (w : World) (hk : k = 1 ∨ k = 2 ∨ k = 4 ∨ k = 8) : Calls Tryd.prog 111 #[.int .i64 n, .int .i64 k] w fun e w' => e = .returned (.bool (fitsB n k)) ∧ w = w' := by
  rcases hk with rfl | rfl | rfl | rfl
  all_goals
    by_cases h0 : 0 ≤ n
    all_goals
      go_enter Tryd.func111, Tryd.ntmps111
      go_wp2
      go_ret
      exact ⟨by first | (simp [fitsB, h0]; done) | (simp [fitsB]; omega), rfl⟩

theorem encode_int (x k : Int) (w : World) (h0 : 0 ≤ x) (h1 : x < 2 ^ 64) (k0 : 0 ≤ k) (k8 : k ≤ 8) :
    Calls Tryd.prog 112 #[.int .u64 x, .int .i64 k] w fun e w' => e = .returned (.string ⟨(Lib.leBytes k.toNat x.toNat).toArray⟩) ∧ Below w.heap.size w w' := by
  obtain ⟨u, rfl⟩ := Int.eq_ofNat_of_zero_le h0
  obtain ⟨j, rfl⟩ := Int.eq_ofNat_of_zero_le k0
  exact encode_any u j w (by omega) (by omega)

end Go.Proofs.YtkplmaaeggnbgaaDoor
namespace Go.Proofs.YtkplmaaeggnbgaaDoor
open Go.RowKit

theorem wide_cases {k : Int} (h : wideB k = true) : k = 1 ∨ k = 2 ∨ k = 4 ∨ k = 8 := by
  simp [wideB] at h; omega

set_option maxHeartbeats 400000 in
theorem put_wide (n k : Int) (w : World) (hk : wideB k = false) :
    Calls Tryd.prog 97 #[.int .i64 n, .int .i64 k] w fun e w' => e = .returned (.tuple #[.string ⟨#[]⟩, .int .i64 1]) ∧ w = w' := by
  go_enter Tryd.func97, Tryd.ntmps97
  go_wp2_with (first | (go_at_call 110; refine (isWidth_any _ _).mono ?_; rintro e w' ⟨rfl, rfl⟩))
  go_ret2
  exact ⟨rfl, rfl⟩

set_option maxHeartbeats 400000 in
theorem put_fits (n k : Int) (w : World) (hk : wideB k = true) (hf : fitsB n k = false) :
    Calls Tryd.prog 97 #[.int .i64 n, .int .i64 k] w fun e w' => e = .returned (.tuple #[.string ⟨#[]⟩, .int .i64 1]) ∧ w = w' := by
  go_enter Tryd.func97, Tryd.ntmps97
  go_wp2_with (first | (go_at_call 110; refine (isWidth_any _ _).mono ?_; rintro e w' ⟨rfl, rfl⟩) | (go_at_call 111; refine (fits_any _ _ _ (wide_cases hk)).mono ?_; rintro e w' ⟨rfl, rfl⟩))
  go_ret2
  exact ⟨rfl, rfl⟩

set_option maxHeartbeats 400000 in
theorem put_ok (n k : Int) (w : World) (hk : wideB k = true) (hf : fitsB n k = true) :
    Calls Tryd.prog 97 #[.int .i64 n, .int .i64 k] w fun e w' => e = .returned (.tuple #[.string ⟨(Lib.leBytes k.toNat (u64 n)).toArray⟩, .int .i64 0]) ∧ Below w.heap.size w w' := by
  go_enter Tryd.func97, Tryd.ntmps97
  go_wp2_with (first | (go_at_call 110; refine (isWidth_any _ _).mono ?_; rintro e w' ⟨rfl, rfl⟩) | (go_at_call 111; refine (fits_any _ _ _ (wide_cases hk)).mono ?_; rintro e w' ⟨rfl, rfl⟩))
  rw [← u64_cast]
  have hk' := wide_cases hk
  have hu := u64_lt n
  refine (encode_int _ _ _ (by omega) (by omega) (by omega) (by omega)).mono ?_
  rintro e w' ⟨rfl, hb⟩
  rw [Int.toNat_natCast]
  have HB := Lib.hid hb
  clear hb
  go_wp2
  go_ret2
  exact ⟨rfl, HB.out⟩

def decAt (l : List UInt8) (j : Nat) : Nat := Lib.leNat (l.take j)

set_option maxHeartbeats 400000 in
theorem decode_any (s : ByteArray) (w : World) (hs : s.size ≤ 8) :
    Calls Tryd.prog 114 #[.string s] w fun e w' => e = .returned (.int .u64 (Lib.leNat s.data.toList)) ∧ w = w' := by
  go_enter Tryd.func114, Tryd.ntmps114
  go_wp2
  go_loop [3, 7] (fun vn vi => ∃ j : Nat, j ≤ s.size ∧ vi = .int .i64 j ∧ vn = .int .u64 (decAt s.data.toList j)) (fun _ vi => s.size - (intOf vi).toNat)
  case atStart => exact ⟨0, Nat.zero_le _, rfl, by simp [decAt, Lib.leNat]⟩
  case round =>
    obtain ⟨j, hj, rfl, rfl⟩ := hrel
    by_cases hlt : j < s.size
    · have hst : Hid (bits .or .u64 (decAt s.data.toList j : Int) (IntKind.u64.wrap (IntKind.u64.wrap (s[j].toNat : Int) * 2 ^ (8 * j))) = (decAt s.data.toList (j + 1) : Int)) := by
        have h1 := leNat_lt (s.data.toList.take j)
        have h2 : (s.data.toList.take j).length = j := by simp; omega
        rw [h2] at h1
        have h3 := or_step (decAt s.data.toList j) s[j].toNat j (by omega) h1 (UInt8.toNat_lt _)
        unfold Hid
        rw [h3]
        unfold decAt
        rw [leNat_take_succ _ _ (by simpa using hlt)]
        rfl
      go_wp2
      go_round
      case rel => exact ⟨j + 1, by omega, by go_num, by rw [hst.out]⟩
      case measure => simp [intOf]; omega
    · obtain rfl : j = s.size := by omega
      go_wp2
      go_ret
      exact ⟨by unfold decAt; rw [List.take_of_length_le (by simp)]; rfl, rfl⟩

end Go.Proofs.YtkplmaaeggnbgaaDoor
namespace Go.Proofs.YtkplmaaeggnbgaaDoor
open Go.RowKit

set_option maxHeartbeats 400000 in
theorem get_wide (s : ByteArray) (p k : Int) (w : World) (hk : wideB k = false) :
    Calls Tryd.prog 103 #[.string s, .int .i64 p, .int .i64 k] w fun e w' => e = .returned (.tuple #[.int .i64 0, .int .i64 1]) ∧ w = w' := by
  go_enter Tryd.func103, Tryd.ntmps103
  go_wp2_with (first | (go_at_call 110; refine (isWidth_any _ _).mono ?_; rintro e w' ⟨rfl, rfl⟩))
  go_ret2
  exact ⟨rfl, rfl⟩

set_option maxHeartbeats 400000 in
theorem get_neg (s : ByteArray) (p k : Int) (w : World) (hk : wideB k = true) (hp : p < 0) :
    Calls Tryd.prog 103 #[.string s, .int .i64 p, .int .i64 k] w fun e w' => e = .returned (.tuple #[.int .i64 0, .int .i64 1]) ∧ w = w' := by
  go_enter Tryd.func103, Tryd.ntmps103
  go_wp2_with (first | (go_at_call 110; refine (isWidth_any _ _).mono ?_; rintro e w' ⟨rfl, rfl⟩))
  go_ret2
  exact ⟨rfl, rfl⟩

set_option maxHeartbeats 400000 in
theorem get_short (s : ByteArray) (p k : Int) (w : World) (hk : wideB k = true) (hp : 0 ≤ p) (hp2 : p ≤ 9223372036854775807) (hs : s.size ≤ 9223372036854775807) (h : (s.size : Int) - p < k) :
    Calls Tryd.prog 103 #[.string s, .int .i64 p, .int .i64 k] w fun e w' => e = .returned (.tuple #[.int .i64 0, .int .i64 2]) ∧ w = w' := by
  have hp' : decide (p < 0) = false := by simp; omega
  go_enter Tryd.func103, Tryd.ntmps103
  go_wp2_with (first | (go_at_call 110; refine (isWidth_any _ _).mono ?_; rintro e w' ⟨rfl, rfl⟩))
  go_ret2
  exact ⟨rfl, rfl⟩

set_option maxHeartbeats 400000 in
theorem get_nat (s : ByteArray) (p q : Nat) (w : World) (hk : wideB q = true) (hs : s.size ≤ 9223372036854775807) (h : p + q ≤ s.size) :
    Calls Tryd.prog 103 #[.string s, .int .i64 p, .int .i64 q] w fun e w' => e = .returned (.tuple #[.int .i64 (getI ((s.data.toList.drop p).take q)), .int .i64 0]) ∧ w = w' := by
  have hq := wide_cases hk
  have hd : decide ((s.size : Int) - (p : Int) < (q : Int)) = false := by simp; omega
  go_enter Tryd.func103, Tryd.ntmps103
  go_wp2_with (first | (go_at_call 110; refine (isWidth_any _ _).mono ?_; rintro e w' ⟨rfl, rfl⟩))
  refine (decode_any _ _ (by rw [ByteArray.size_extract]; omega)).mono ?_
  rintro e w' ⟨rfl, rfl⟩
  rw [Lib.extract_data, Nat.add_sub_cancel_left]
  go_wp2
  go_ret2
  exact ⟨rfl, rfl⟩

/-- Where there are bytes enough: the number at the place. -/
theorem get_ok (s : ByteArray) (p k : Int) (w : World) (hk : wideB k = true) (hp : 0 ≤ p) (hs : s.size ≤ 9223372036854775807) (h : k ≤ (s.size : Int) - p) :
    Calls Tryd.prog 103 #[.string s, .int .i64 p, .int .i64 k] w fun e w' => e = .returned (.tuple #[.int .i64 (getI ((s.data.toList.drop p.toNat).take k.toNat)), .int .i64 0]) ∧ w = w' := by
  have hk' := wide_cases hk
  obtain ⟨a, rfl⟩ := Int.eq_ofNat_of_zero_le hp
  obtain ⟨q, rfl⟩ := Int.eq_ofNat_of_zero_le (show 0 ≤ k by omega)
  exact get_nat s a q w hk hs (by omega)

/-- Of four bytes the number is what they spell. -/
theorem getI_four (l : List UInt8) (h : l.length ≤ 4) : getI l = (Lib.leNat l : Int) ∧ (Lib.leNat l : Int) < 4294967296 := by
  have h1 := leNat_lt l
  have h2 : 256 ^ l.length ≤ 256 ^ 4 := Nat.pow_le_pow_right (by omega) h
  have h3 : Lib.leNat l < 4294967296 := Nat.lt_of_lt_of_le h1 h2
  exact ⟨by unfold getI wrap64; omega, by omega⟩

/-- The length that the four bytes at a place spell. -/
def lenAt (s : ByteArray) (p : Nat) : Nat := Lib.leNat ((s.data.toList.drop p).take 4)

theorem lenAt_lt (s : ByteArray) (p : Nat) : (lenAt s p : Int) < 4294967296 := (getI_four ((s.data.toList.drop p).take 4) (by simp; omega)).2
theorem getI_lenAt (s : ByteArray) (p : Nat) : getI ((s.data.toList.drop p).take 4) = (lenAt s p : Int) := (getI_four _ (by simp; omega)).1

end Go.Proofs.YtkplmaaeggnbgaaDoor
