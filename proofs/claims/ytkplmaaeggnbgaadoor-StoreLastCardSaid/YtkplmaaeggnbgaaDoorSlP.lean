/- Slots by definition: what a Write and a Read of a slot do to the state of a disk. No condition but those that each states. -/
import Derived.Test.YtkplmaaeggnbgaaDoorDkT
import Derived.Test.YtkplmaaeggnbgaaDoorDkM
namespace Go.Proofs.YtkplmaaeggnbgaaDoor.Sl
open Go.RowKit Dk

def per (n : Nat) : Nat := (n - 8) / 2
def each (S : DS) : Nat := per S.L.length
/-- How many blocks so many bytes need. -/
def nb (n : Nat) : Nat := (n + 63) / 64
/-- Block i of a text, with bytes 0 behind its end. -/
def blkOf (s : Bytes) (i : Nat) : Bytes := (s.drop (64 * i)).take 64 ++ List.replicate (64 - ((s.drop (64 * i)).take 64).length) 0

theorem blkOf_length (s : Bytes) (i : Nat) : (blkOf s i).length = 64 := by
  unfold blkOf
  rw [List.length_append, List.length_replicate]
  have : ((s.drop (64 * i)).take 64).length ≤ 64 := by rw [List.length_take]; exact Nat.min_le_left _ _
  omega

/-- The first k blocks of a text are written from block b on. -/
def wrs (S : DS) (b : Nat) (s : Bytes) : Nat → DS × Int
  | 0 => (S, 0)
  | k + 1 => if (wrs S b s k).2 = 0 then (wrs S b s k).1.wr ((b + k : Nat) : Int) (strOf (blkOf s k)) else wrs S b s k

def badSlot (slot : Int) : Bool := decide (slot < 0 ∨ 2 ≤ slot)
def first (S : DS) (slot : Int) : Nat := 8 + slot.toNat * each S

def DS.sw (S : DS) (slot : Int) (s : ByteArray) : DS × Int :=
  if badSlot slot = true then (S, 1) else if 64 * each S < s.size then (S, 6) else
  if (wrs S (first S slot) s.data.toList (nb s.size)).2 = 0 then (wrs S (first S slot) s.data.toList (nb s.size)).1.sy else wrs S (first S slot) s.data.toList (nb s.size)

/-- What lies in k blocks from block b on. -/
def cat (S : DS) (b : Nat) : Nat → Bytes
  | 0 => []
  | k + 1 => cat S b k ++ S.read (b + k)

def DS.sr (S : DS) (slot size : Int) : ByteArray × Int :=
  if badSlot slot = true then (ByteArray.empty, 1) else if size < 0 ∨ ((64 * each S : Nat) : Int) < size then (ByteArray.empty, 1) else
  if S.on = false ∧ 0 < size then (ByteArray.empty, 7) else (strOf ((cat S (first S slot) (nb size.toNat)).take size.toNat), 0)

theorem wr_len (S : DS) (i : Int) (s : ByteArray) : (S.wr i s).1.L.length = S.L.length := by
  have hs : ∀ S : DS, S.step.1.L.length = S.L.length := fun S => by
    unfold DS.step
    split
    · rfl
    · exact lose_len _ _
    · rfl
  unfold DS.wr
  split
  · rfl
  · split
    · rfl
    · exact hs _

theorem wrs_len (S : DS) (b : Nat) (s : Bytes) : ∀ k, (wrs S b s k).1.L.length = S.L.length
  | 0 => rfl
  | k + 1 => by
    unfold wrs
    split
    · rw [wr_len, wrs_len S b s k]
    · exact wrs_len S b s k

theorem wrs_few (S : DS) (b : Nat) (s : Bytes) : ∀ k, (wrs S b s k).1.c ≤ S.c + k ∧ (wrs S b s k).1.ops ≤ S.ops + k
  | 0 => ⟨Nat.le_refl _, Nat.le_refl _⟩
  | k + 1 => by
    have ih := wrs_few S b s k
    unfold wrs
    split
    · have := wr_few (wrs S b s k).1 ((b + k : Nat) : Int) (strOf (blkOf s k))
      omega
    · omega

/-- Nothing is written behind an error. -/
theorem wrs_stop (S : DS) (b : Nat) (s : Bytes) {k : Nat} (h : (wrs S b s k).2 ≠ 0) : ∀ n, k ≤ n → wrs S b s n = wrs S b s k
  | 0, hn => by obtain rfl : k = 0 := by omega
                rfl
  | n + 1, hn => by
    by_cases e : k = n + 1
    · rw [e]
    · have ih := wrs_stop S b s h n (by omega)
      show (if (wrs S b s n).2 = 0 then _ else wrs S b s n) = _
      rw [ih, if_neg h]

theorem wr_codes (S : DS) (i : Int) (s : ByteArray) : (S.wr i s).2 = 0 ∨ (S.wr i s).2 = 1 ∨ (S.wr i s).2 = 7 := by
  unfold DS.wr
  split
  · exact .inr (.inr rfl)
  · split
    · exact .inr (.inl rfl)
    · unfold errOf; split
      · exact .inl rfl
      · exact .inr (.inr rfl)

theorem read_length {S : DS} (h : S.Ok) {i : Nat} (hi : i < S.L.length) : (S.read i).length = 64 := by
  unfold DS.read DS.readUpto
  cases hl : lastUpto S.W i S.W.length with
  | none => exact h.blk i hi
  | some j => exact (h.wat j (lastUpto_some hl).1).2

theorem cat_length {S : DS} {b n : Nat} (hS : S.Ok) (h : b + n ≤ S.L.length) : ∀ k, k ≤ n → (cat S b k).length = 64 * k
  | 0, _ => rfl
  | k + 1, hk => by
    unfold cat
    rw [List.length_append, cat_length hS h k (by omega), read_length hS (by omega)]
    omega

end Go.Proofs.YtkplmaaeggnbgaaDoor.Sl
