/- A text's digest by definition (plain functions over lists of bytes); facts on blocks; two digests reckoned out. No condition but those that each states. -/
import Derived.Test.YthddiijnomhpfaaDoorDgD
namespace Go.Proofs.YthddiijnomhpfaaDoor
open Go.RowKit

def rounds (ks ws : List Int) : Nat → R8 → R8
  | 0, s => s
  | k + 1, s => stepR (rounds ks ws k s) (ks.getD k 0) (ws.getD k 0)

def add8 (s v : R8) : R8 := ⟨(s.a + v.a) % 4294967296, (s.b + v.b) % 4294967296, (s.c + v.c) % 4294967296, (s.d + v.d) % 4294967296, (s.e + v.e) % 4294967296, (s.f + v.f) % 4294967296, (s.g + v.g) % 4294967296, (s.h + v.h) % 4294967296⟩

/-- The words behind one more block. -/
def comp (s : R8) (blk : List UInt8) : R8 := add8 s (rounds consts (sched blk) 64 s)

def init8 : R8 := ⟨1779033703, 3144134277, 1013904242, 2773480762, 1359893119, 2600822924, 528734635, 1541459225⟩

/-- Block n of a message. -/
def blockOf (l : List UInt8) (n : Nat) : List UInt8 := (l.drop (64 * n)).take 64

/-- The words behind n blocks. -/
def absorb (l : List UInt8) : Nat → R8
  | 0 => init8
  | n + 1 => comp (absorb l n) (blockOf l n)

def be4 (x : Int) : List UInt8 := [UInt8.ofNat (x.toNat / 2 ^ 24), UInt8.ofNat (x.toNat / 2 ^ 16), UInt8.ofNat (x.toNat / 2 ^ 8), UInt8.ofNat x.toNat]

def out8 (s : R8) : List UInt8 := be4 s.a ++ be4 s.b ++ be4 s.c ++ be4 s.d ++ be4 s.e ++ be4 s.f ++ be4 s.g ++ be4 s.h

/-- A text's digest. -/
def sha (l : List UInt8) : List UInt8 := out8 (absorb (pad l) ((pad l).length / 64))

theorem out8_length (s : R8) : (out8 s).length = 32 := rfl
theorem sha_length (l : List UInt8) : (sha l).length = 32 := rfl

theorem endOf_length (n : Nat) : (endOf n).length = 9 + zerosOf n := by simp [endOf, be8]; omega

theorem pad_length (l : List UInt8) : (pad l).length = l.length + 9 + zerosOf l.length := by simp [pad, endOf_length]; omega

theorem pad_blocks (l : List UInt8) : (pad l).length = 64 * ((pad l).length / 64) := by
  rw [pad_length]; unfold zerosOf; omega

theorem blockOf_length (l : List UInt8) (n : Nat) (h : 64 * n + 64 ≤ l.length) : (blockOf l n).length = 64 := by simp [blockOf]; omega

theorem blockOf_prefix (l r : List UInt8) (n : Nat) (h : 64 * n + 64 ≤ l.length) : blockOf (l ++ r) n = blockOf l n := by
  unfold blockOf
  rw [List.drop_append_of_le_length (by omega), List.take_append_of_le_length (by simp; omega)]

theorem absorb_prefix (l r : List UInt8) : ∀ n, 64 * n ≤ l.length → absorb (l ++ r) n = absorb l n
  | 0, _ => rfl
  | n + 1, h => by
    rw [absorb, absorb, absorb_prefix l r n (by omega), blockOf_prefix l r n (by omega)]

/-! Each word is a number below 2^32. -/
structure R8.Ok (s : R8) : Prop where
  a : 0 ≤ s.a ∧ s.a < 4294967296
  b : 0 ≤ s.b ∧ s.b < 4294967296
  c : 0 ≤ s.c ∧ s.c < 4294967296
  d : 0 ≤ s.d ∧ s.d < 4294967296
  e : 0 ≤ s.e ∧ s.e < 4294967296
  f : 0 ≤ s.f ∧ s.f < 4294967296
  g : 0 ≤ s.g ∧ s.g < 4294967296
  h : 0 ≤ s.h ∧ s.h < 4294967296

theorem add8_ok (s v : R8) : (add8 s v).Ok := by
  constructor <;> simp only [add8] <;> omega

theorem absorb_ok (l : List UInt8) : ∀ n, (absorb l n).Ok
  | 0 => by constructor <;> simp [absorb, init8]
  | n + 1 => add8_ok _ _

end Go.Proofs.YthddiijnomhpfaaDoor
