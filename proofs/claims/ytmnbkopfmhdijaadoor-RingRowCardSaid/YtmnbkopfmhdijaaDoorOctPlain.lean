/- Plain facts on bytes and numbers: what octet's functions compute, as functions over lists. No condition but those that each states. -/
import Derived.Lib.Endian
import Derived.Lib.EndianMore
import Derived.Lib.EndianBits
namespace Go.Proofs.YtmnbkopfmhdijaaDoor

theorem leBytes_at : ∀ (k u i : Nat) (h : i < (Lib.leBytes k u).length), ((Lib.leBytes k u)[i].toNat : Nat) = u / 256 ^ i % 256
  | 0, _, _, h => absurd h (Nat.not_lt_zero _)
  | k + 1, u, 0, _ => by simp [Lib.leBytes]
  | k + 1, u, i + 1, h => by
    have h' : i < (Lib.leBytes k (u / 256)).length := by simpa [Lib.leBytes] using h
    have := leBytes_at k (u / 256) i h'
    simp only [Lib.leBytes, List.getElem_cons_succ, this, Nat.pow_succ, Nat.div_div_eq_div_mul]
    rw [Nat.mul_comm]

theorem leBytes_snoc : ∀ (j u : Nat), Lib.leBytes (j + 1) u = Lib.leBytes j u ++ [(u / 256 ^ j % 256).toUInt8]
  | 0, u => by simp [Lib.leBytes]
  | j + 1, u => by
    rw [Lib.leBytes, leBytes_snoc j (u / 256)]
    simp only [Lib.leBytes, List.cons_append, Nat.div_div_eq_div_mul, Nat.pow_succ, Nat.mul_comm 256]

theorem leNat_lt : ∀ l : List UInt8, Lib.leNat l < 256 ^ l.length
  | [] => by simp [Lib.leNat]
  | b :: r => by
    have h := leNat_lt r
    have hb : b.toNat < 256 := b.toNat_lt
    simp only [Lib.leNat, List.length_cons, Nat.pow_succ]
    omega

theorem leNat_take_succ (l : List UInt8) (j : Nat) (h : j < l.length) : Lib.leNat (l.take (j + 1)) = Lib.leNat (l.take j) + 256 ^ j * l[j].toNat := by
  rw [List.take_succ_eq_append_getElem h, Lib.leNat_append]
  simp [Lib.leNat, List.length_take, Nat.min_eq_left (Nat.le_of_lt h)]

theorem pow256 (j : Nat) : 256 ^ j = 2 ^ (8 * j) := by rw [Nat.pow_mul]

/-- A number's bits as a number without a sign. -/
def u64 (n : Int) : Nat := (IntKind.u64.wrap n).toNat

theorem u64_cast (n : Int) : (u64 n : Int) = IntKind.u64.wrap n := by
  unfold u64; rw [IntKind.wrap_u64]; omega
theorem u64_lt (n : Int) : u64 n < 2 ^ 64 := by
  unfold u64; rw [IntKind.wrap_u64]; omega

theorem or_step (y b j : Nat) (hj : j < 8) (hy : y < 256 ^ j) (hb : b < 256) :
    bits .or .u64 (y : Int) (IntKind.u64.wrap (IntKind.u64.wrap (b : Int) * 2 ^ (8 * j))) = ((y + 256 ^ j * b : Nat) : Int) := by
  have hp : (2 : Nat) ^ (8 * j) * 256 ≤ 2 ^ 64 := by
    rw [show (256 : Nat) = 2 ^ 8 from rfl, ← Nat.pow_add]
    exact Nat.pow_le_pow_right (by omega) (by omega)
  have hq : b * 2 ^ (8 * j) < 2 ^ 64 := by
    have : b * 2 ^ (8 * j) < 256 * 2 ^ (8 * j) := Nat.mul_lt_mul_of_pos_right hb (Nat.pow_pos (by omega))
    rw [Nat.mul_comm 256] at this
    omega
  rw [pow256] at hy ⊢
  have e1 : IntKind.u64.wrap (b : Int) = b := wraps_u64 _ (by omega) (by omega)
  have e2 : (b : Int) * 2 ^ (8 * j) = ((b * 2 ^ (8 * j) : Nat) : Int) := by rw [Int.natCast_mul, Int.natCast_pow]; rfl
  rw [e1, e2, wraps_u64 _ (by omega) (by exact_mod_cast hq)]
  have hy64 : y < 2 ^ 64 := Nat.lt_of_lt_of_le hy (Nat.pow_le_pow_right (by omega) (by omega))
  have hm : ((b * 2 ^ (8 * j) : Nat) : Int) % 2 ^ (8 * j) = 0 := by rw [← e2]; exact Int.mul_emod_left _ _
  rw [bits_join_low .u64 64 (by decide) wraps_u64 (8 * j) y _ (by omega) (by exact_mod_cast hy) (by exact_mod_cast hy64) (by omega) hm (by exact_mod_cast hq)]
  rw [Nat.mul_comm b]
  omega

theorem mul_step (y b : Nat) (h : 256 * y + b < 2 ^ 64) (hb : b < 256) :
    IntKind.u64.wrap (IntKind.u64.wrap (256 * (y : Int)) + IntKind.u64.wrap (b : Int)) = ((256 * y + b : Nat) : Int) := by
  rw [wraps_u64 (256 * (y : Int)) (by omega) (by omega), wraps_u64 (b : Int) (by omega) (by omega), wraps_u64 _ (by omega) (by omega)]
  omega

theorem leNat_drop (l : List UInt8) (j : Nat) (h : j < l.length) : Lib.leNat (l.drop j) = 256 * Lib.leNat (l.drop (j + 1)) + l[j].toNat := by
  rw [List.drop_eq_getElem_cons h, Lib.leNat]
  omega

theorem leNat_drop_lt (l : List UInt8) (j : Nat) (h : l.length ≤ 8) : Lib.leNat (l.drop j) < 2 ^ 64 := by
  have h1 := leNat_lt (l.drop j)
  have h2 : 256 ^ (l.drop j).length ≤ 256 ^ 8 := Nat.pow_le_pow_right (by omega) (by simp; omega)
  exact Nat.lt_of_lt_of_le h1 h2

theorem wraps_u8 (n : Int) (h₀ : 0 ≤ n) (h₁ : n < 2 ^ 8) : IntKind.u8.wrap n = n := by
  simp [IntKind.wrap, IntKind.bits, IntKind.signed]; omega

theorem and15 (x : Nat) (h : x < 256) : bits .and .u8 (x : Int) 15 = ((x % 16 : Nat) : Int) := by
  have := (bits_nat .u8 8 (by decide) wraps_u8 x 15 (by omega) (by omega)).1
  rw [show ((15 : Nat) : Int) = 15 from rfl] at this
  rw [this, show (15 : Nat) = 2 ^ 4 - 1 from rfl, Nat.and_two_pow_sub_one_eq_mod]

/-- The number of eight bytes or fewer, as an int. -/
def getI (l : List UInt8) : Int := RowKit.wrap64 (Lib.leNat l)

end Go.Proofs.YtmnbkopfmhdijaaDoor
