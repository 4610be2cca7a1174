/- The ops by definition: their names and formats; what an instruction may be; its bytes, there and back. The document's scanner as functions over lists of bytes, and plain facts on them. Plain facts on bytes and numbers: what octet's functions compute, as functions over lists. No condition but those that each states. -/
import Derived.WalkKit
import Derived.Lib.DecodeN
import Derived.Lib.Endian
import Derived.Lib.EndianMore
import Derived.Lib.EndianBits
namespace Go.Proofs.YtmloljfnnkfkjaaDoor.In

/-- The names and formats of the ops, in their order. -/
def ops : List (List UInt8 × List UInt8) :=
  [([116, 105, 99, 107], [110, 45, 45]),
   ([110, 105, 108], [114, 45, 45]),
   ([99, 111, 110, 115, 116], [114, 119]),
   ([109, 111, 118, 101], [114, 114, 45]),
   ([98, 111, 120], [114, 45, 45]),
   ([103, 101, 116], [114, 114, 45]),
   ([115, 101, 116], [114, 114, 45]),
   ([117, 112], [114, 117, 45]),
   ([117, 112, 115, 101, 116], [117, 114, 45]),
   ([97, 100, 100], [114, 114, 114]),
   ([115, 117, 98], [114, 114, 114]),
   ([109, 117, 108], [114, 114, 114]),
   ([100, 105, 118], [114, 114, 114]),
   ([114, 101, 109], [114, 114, 114]),
   ([99, 97, 116], [114, 114, 114]),
   ([101, 113], [114, 114, 114]),
   ([110, 101], [114, 114, 114]),
   ([108, 116], [114, 114, 114]),
   ([108, 101], [114, 114, 114]),
   ([110, 101, 103], [114, 114, 45]),
   ([110, 111, 116], [114, 114, 45]),
   ([108, 101, 110], [114, 114, 45]),
   ([116, 97, 98, 108, 101], [114, 45, 45]),
   ([105, 110, 100, 101, 120], [114, 114, 114]),
   ([115, 116, 111, 114, 101], [114, 114, 114]),
   ([106, 117, 109, 112], [45, 119]),
   ([102, 97, 108, 115, 101], [114, 119]),
   ([116, 114, 117, 101], [114, 119]),
   ([102, 110], [114, 119]),
   ([99, 97, 108, 108], [114, 114, 110]),
   ([111, 119, 110], [114, 114, 110]),
   ([117, 115, 101], [114, 114, 110]),
   ([115, 112, 97, 119, 110], [114, 114, 45]),
   ([115, 116, 97, 116, 101], [114, 45, 45]),
   ([112, 117, 116], [114, 45, 45]),
   ([101, 109, 105, 116], [114, 45, 45]),
   ([121, 105, 101, 108, 100], [110, 45, 45]),
   ([114, 101, 116, 117, 114, 110], [114, 45, 45])]
def nameL (op : Int) : List UInt8 := if 0 ≤ op ∧ op < 38 then (ops.getD op.toNat ([], [])).1 else []
def shapeL (op : Int) : List UInt8 := if 0 ≤ op ∧ op < 38 then (ops.getD op.toNat ([], [])).2 else []

theorem op_cases {op : Int} (h : 0 ≤ op ∧ op < 38) : ∃ k : Nat, k < 38 ∧ op = (k : Int) := ⟨op.toNat, by omega, by omega⟩
theorem name_none {op : Int} (h : ¬(0 ≤ op ∧ op < 38)) : nameL op = [] := if_neg h
theorem shape_none {op : Int} (h : ¬(0 ≤ op ∧ op < 38)) : shapeL op = [] := if_neg h
theorem name_at {k : Nat} (h : k < 38) : nameL (k : Int) = (ops.getD k ([], [])).1 := by
  unfold nameL
  rw [if_pos ⟨by omega, by omega⟩, Int.toNat_natCast]
theorem shape_at {k : Nat} (h : k < 38) : shapeL (k : Int) = (ops.getD k ([], [])).2 := by
  unfold shapeL
  rw [if_pos ⟨by omega, by omega⟩, Int.toNat_natCast]

/-- What is so of each row. -/
def rowOk (r : List UInt8 × List UInt8) : Bool := decide (0 < r.1.length) && (decide (r.2.length = 3) || (decide (r.2.length = 2) && r.2.getD 1 0 == 119)) && decide (r.1.length ≤ 10)
theorem rows_ok : ops.all rowOk = true := by decide +kernel
theorem rows_len : ops.length = 38 := by decide +kernel
theorem row_in {k : Nat} (h : k < 38) : rowOk (ops.getD k ([], [])) = true := by
  have hl : k < ops.length := by rw [rows_len]; exact h
  rw [List.getD_eq_getElem?_getD, List.getElem?_eq_getElem hl]
  exact List.all_eq_true.1 rows_ok _ (List.getElem_mem hl)
theorem shape_len {op : Int} (h : 0 ≤ op ∧ op < 38) : (shapeL op).length = 3 ∨ ((shapeL op).length = 2 ∧ (shapeL op).getD 1 0 = 119) := by
  obtain ⟨k, hk, rfl⟩ := op_cases h
  have := row_in hk
  unfold rowOk at this
  simp only [Bool.and_eq_true, decide_eq_true_eq, Bool.or_eq_true, beq_iff_eq] at this
  rw [shape_at hk]
  exact this.1.2
theorem shape_size (op : Int) : (shapeL op).length ≤ 3 := by
  by_cases h : 0 ≤ op ∧ op < 38
  · rcases shape_len h with h1 | ⟨h1, -⟩ <;> omega
  · rw [shape_none h]; simp
/-- An instruction. -/
structure Ix where
  op : Int
  a : Int
  b : Int
  c : Int
deriving DecidableEq
def Ix.cells (x : Ix) : List Value := [.int .i64 x.op, .int .i64 x.a, .int .i64 x.b, .int .i64 x.c]

def fine (c : UInt8) (n : Int) : Bool := decide (0 ≤ n) && decide (n ≤ 255) && (decide (n = 0) || c != 45)
/-- The letter of a number; behind a wide one's it is none. -/
def letter (sh : List UInt8) (i : Nat) : UInt8 := sh.getD i 119
def rightB (x : Ix) : Bool := (shapeL x.op != []) && fine (letter (shapeL x.op) 0) x.a && fine (letter (shapeL x.op) 1) x.b && fine (letter (shapeL x.op) 2) x.c
def byteOf (n : Int) : UInt8 := UInt8.ofNat n.toNat
def buildL (x : Ix) : List UInt8 := [byteOf x.op, byteOf x.a, byteOf x.b, byteOf x.c]
def readL (l : List UInt8) : Ix := ⟨((l.getD 0 0).toNat : Int), ((l.getD 1 0).toNat : Int), ((l.getD 2 0).toNat : Int), ((l.getD 3 0).toNat : Int)⟩

theorem fine_in {c : UInt8} {n : Int} (h : fine c n = true) : 0 ≤ n ∧ n ≤ 255 := by
  unfold fine at h
  simp only [Bool.and_eq_true, decide_eq_true_eq] at h
  exact h.1
theorem right_in {x : Ix} (h : rightB x = true) : (0 ≤ x.op ∧ x.op < 38) ∧ (0 ≤ x.a ∧ x.a ≤ 255) ∧ (0 ≤ x.b ∧ x.b ≤ 255) ∧ (0 ≤ x.c ∧ x.c ≤ 255) := by
  unfold rightB at h
  simp only [Bool.and_eq_true] at h
  refine ⟨Decidable.not_not.1 fun k => ?_, fine_in h.1.1.2, fine_in h.1.2, fine_in h.2⟩
  have := h.1.1.1
  rw [shape_none k] at this
  simp at this
theorem byte_back {n : Int} (h0 : 0 ≤ n) (h1 : n ≤ 255) : ((byteOf n).toNat : Int) = n := by
  unfold byteOf
  rw [UInt8.toNat_ofNat']
  omega
theorem read_build {x : Ix} (h : rightB x = true) : readL (buildL x) = x := by
  obtain ⟨h0, h1, h2, h3⟩ := right_in h
  obtain ⟨o, a, b, c⟩ := x
  unfold readL buildL
  simp only [List.getD_cons_zero, List.getD_cons_succ]
  rw [byte_back h0.1 (Int.le_trans (Int.le_of_lt h0.2) (by decide)), byte_back h1.1 h1.2, byte_back h2.1 h2.2, byte_back h3.1 h3.2]
end Go.Proofs.YtmloljfnnkfkjaaDoor.In

namespace Go.Proofs.YtmloljfnnkfkjaaDoor.Lx

/-! the bytes -/
def rL (r : Int) : Bool := decide (97 ≤ r) && decide (r ≤ 122)
def rD (r : Int) : Bool := decide (48 ≤ r) && decide (r ≤ 57)
def rW (r : Int) : Bool := rL r || rD r || decide (r = 95)
def isL (c : UInt8) : Bool := rL (c.toNat : Int)
def isW (c : UInt8) : Bool := rW (c.toNat : Int)
/-! blanks and remarks -/
def spanN (p : UInt8 → Bool) : List UInt8 → Nat
  | [] => 0
  | c :: r => if p c then spanN p r + 1 else 0

/-! a text in quotes -/
/-! marks, keys, numbers -/
def keyList : List (List UInt8) := [[109, 111, 100, 117, 108, 101], [117, 115, 101], [102, 110], [108, 101, 116], [105, 102], [101, 108, 115, 101], [119, 104, 105, 108, 101], [98, 114, 101, 97, 107], [99, 111, 110, 116, 105, 110, 117, 101], [114, 101, 116, 117, 114, 110], [112, 117, 116], [101, 109, 105, 116], [121, 105, 101, 108, 100], [110, 105, 108], [115, 116, 97, 116, 101], [115, 112, 97, 119, 110], [108, 101, 110], [110, 111, 116], [97, 110, 100], [111, 114]]
def isKey (l : List UInt8) : Bool := keyList.contains l

def isName (l : List UInt8) : Bool := decide (0 < l.length) && decide (l.length ≤ 16) && (l.head?.map isL).getD false && l.all isW && !isKey l

/-! one token -/
inductive One where
  | bad (e : Nat)
  | tok (k : Nat) (t : List UInt8) (n : Nat) (len : Nat)

/-! all of them -/
structure Tk where
  kind : Int
  text : List UInt8
  n : Int
  place : Int
deriving DecidableEq

/-! quoting -/
def escL (c : UInt8) : List UInt8 := if c.toNat = 10 then [92, 110] else if c.toNat = 34 ∨ c.toNat = 92 then [92, c] else [c]
def quoteL (l : List UInt8) : List UInt8 := 34 :: (l.flatMap escL ++ [34])
def written (t : Tk) : List UInt8 := if t.kind = 3 then quoteL t.text else t.text
/-! what these are -/
theorem spanN_le (p : UInt8 → Bool) : ∀ l, spanN p l ≤ l.length
  | [] => Nat.le_refl _
  | c :: r => by unfold spanN; split <;> simp; have := spanN_le p r; omega
theorem isL_W {c : UInt8} (h : isL c = true) : isW c = true := by unfold isW rW; unfold isL at h; rw [h]; rfl

end Go.Proofs.YtmloljfnnkfkjaaDoor.Lx

namespace Go.Proofs.YtmloljfnnkfkjaaDoor

theorem leBytes_at : ∀ (k u i : Nat) (h : i < (Lib.leBytes k u).length), ((Lib.leBytes k u)[i].toNat : Nat) = u / 256 ^ i % 256
  | 0, _, _, h => absurd h (Nat.not_lt_zero _)
  | k + 1, u, 0, _ => by simp [Lib.leBytes]
  | k + 1, u, i + 1, h => by
    have h' : i < (Lib.leBytes k (u / 256)).length := by simpa [Lib.leBytes] using h
    have := leBytes_at k (u / 256) i h'
    simp only [Lib.leBytes, List.getElem_cons_succ, this, Nat.pow_succ, Nat.div_div_eq_div_mul]
    rw [Nat.mul_comm]

theorem leBytes_snoc : ∀ (j u : Nat), Lib.leBytes (j + 1) u = Lib.leBytes j u ++ [(u / 256 ^ j % 256).toUInt8]
  | 0, u => by simp [Lib.leBytes]
  | j + 1, u => by
    rw [Lib.leBytes, leBytes_snoc j (u / 256)]
    simp only [Lib.leBytes, List.cons_append, Nat.div_div_eq_div_mul, Nat.pow_succ, Nat.mul_comm 256]

theorem leNat_lt : ∀ l : List UInt8, Lib.leNat l < 256 ^ l.length
  | [] => by simp [Lib.leNat]
  | b :: r => by
    have h := leNat_lt r
    have hb : b.toNat < 256 := b.toNat_lt
    simp only [Lib.leNat, List.length_cons, Nat.pow_succ]
    omega

theorem leNat_take_succ (l : List UInt8) (j : Nat) (h : j < l.length) : Lib.leNat (l.take (j + 1)) = Lib.leNat (l.take j) + 256 ^ j * l[j].toNat := by
  rw [List.take_succ_eq_append_getElem h, Lib.leNat_append]
  simp [Lib.leNat, List.length_take, Nat.min_eq_left (Nat.le_of_lt h)]

theorem pow256 (j : Nat) : 256 ^ j = 2 ^ (8 * j) := by rw [Nat.pow_mul]

/-- A number's bits as a number without a sign. -/
def u64 (n : Int) : Nat := (IntKind.u64.wrap n).toNat

theorem u64_cast (n : Int) : (u64 n : Int) = IntKind.u64.wrap n := by
  unfold u64; rw [IntKind.wrap_u64]; omega
theorem u64_lt (n : Int) : u64 n < 2 ^ 64 := by
  unfold u64; rw [IntKind.wrap_u64]; omega

theorem or_step (y b j : Nat) (hj : j < 8) (hy : y < 256 ^ j) (hb : b < 256) :
    bits .or .u64 (y : Int) (IntKind.u64.wrap (IntKind.u64.wrap (b : Int) * 2 ^ (8 * j))) = ((y + 256 ^ j * b : Nat) : Int) := by
  have hp : (2 : Nat) ^ (8 * j) * 256 ≤ 2 ^ 64 := by
    rw [show (256 : Nat) = 2 ^ 8 from rfl, ← Nat.pow_add]
    exact Nat.pow_le_pow_right (by omega) (by omega)
  have hq : b * 2 ^ (8 * j) < 2 ^ 64 := by
    have : b * 2 ^ (8 * j) < 256 * 2 ^ (8 * j) := Nat.mul_lt_mul_of_pos_right hb (Nat.pow_pos (by omega))
    rw [Nat.mul_comm 256] at this
    omega
  rw [pow256] at hy ⊢
  have e1 : IntKind.u64.wrap (b : Int) = b := wraps_u64 _ (by omega) (by omega)
  have e2 : (b : Int) * 2 ^ (8 * j) = ((b * 2 ^ (8 * j) : Nat) : Int) := by rw [Int.natCast_mul, Int.natCast_pow]; rfl
  rw [e1, e2, wraps_u64 _ (by omega) (by exact_mod_cast hq)]
  have hy64 : y < 2 ^ 64 := Nat.lt_of_lt_of_le hy (Nat.pow_le_pow_right (by omega) (by omega))
  have hm : ((b * 2 ^ (8 * j) : Nat) : Int) % 2 ^ (8 * j) = 0 := by rw [← e2]; exact Int.mul_emod_left _ _
  rw [bits_join_low .u64 64 (by decide) wraps_u64 (8 * j) y _ (by omega) (by exact_mod_cast hy) (by exact_mod_cast hy64) (by omega) hm (by exact_mod_cast hq)]
  rw [Nat.mul_comm b]
  omega

theorem leNat_drop (l : List UInt8) (j : Nat) (h : j < l.length) : Lib.leNat (l.drop j) = 256 * Lib.leNat (l.drop (j + 1)) + l[j].toNat := by
  rw [List.drop_eq_getElem_cons h, Lib.leNat]
  omega

/-- The number of eight bytes or fewer, as an int. -/
def getI (l : List UInt8) : Int := RowKit.wrap64 (Lib.leNat l)

end Go.Proofs.YtmloljfnnkfkjaaDoor

