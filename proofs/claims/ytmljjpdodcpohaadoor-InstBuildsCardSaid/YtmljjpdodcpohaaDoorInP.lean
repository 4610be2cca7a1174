/- The ops by definition: their names and formats; what an instruction may be; its bytes, there and back. No condition but those that each states. -/
import Derived.WalkKit
namespace Go.Proofs.YtmljjpdodcpohaaDoor.In

/-- The names and formats of the ops, in their order. -/
def ops : List (List UInt8 × List UInt8) :=
  [([116, 105, 99, 107], [110, 45, 45]),
   ([110, 105, 108], [114, 45, 45]),
   ([99, 111, 110, 115, 116], [114, 119]),
   ([109, 111, 118, 101], [114, 114, 45]),
   ([98, 111, 120], [114, 45, 45]),
   ([103, 101, 116], [114, 114, 45]),
   ([115, 101, 116], [114, 114, 45]),
   ([117, 112], [114, 117, 45]),
   ([117, 112, 115, 101, 116], [117, 114, 45]),
   ([97, 100, 100], [114, 114, 114]),
   ([115, 117, 98], [114, 114, 114]),
   ([109, 117, 108], [114, 114, 114]),
   ([100, 105, 118], [114, 114, 114]),
   ([114, 101, 109], [114, 114, 114]),
   ([99, 97, 116], [114, 114, 114]),
   ([101, 113], [114, 114, 114]),
   ([110, 101], [114, 114, 114]),
   ([108, 116], [114, 114, 114]),
   ([108, 101], [114, 114, 114]),
   ([110, 101, 103], [114, 114, 45]),
   ([110, 111, 116], [114, 114, 45]),
   ([108, 101, 110], [114, 114, 45]),
   ([116, 97, 98, 108, 101], [114, 45, 45]),
   ([105, 110, 100, 101, 120], [114, 114, 114]),
   ([115, 116, 111, 114, 101], [114, 114, 114]),
   ([106, 117, 109, 112], [45, 119]),
   ([102, 97, 108, 115, 101], [114, 119]),
   ([116, 114, 117, 101], [114, 119]),
   ([102, 110], [114, 119]),
   ([99, 97, 108, 108], [114, 114, 110]),
   ([111, 119, 110], [114, 114, 110]),
   ([117, 115, 101], [114, 114, 110]),
   ([115, 112, 97, 119, 110], [114, 114, 45]),
   ([115, 116, 97, 116, 101], [114, 45, 45]),
   ([112, 117, 116], [114, 45, 45]),
   ([101, 109, 105, 116], [114, 45, 45]),
   ([121, 105, 101, 108, 100], [110, 45, 45]),
   ([114, 101, 116, 117, 114, 110], [114, 45, 45])]
def nameL (op : Int) : List UInt8 := if 0 ≤ op ∧ op < 38 then (ops.getD op.toNat ([], [])).1 else []
def shapeL (op : Int) : List UInt8 := if 0 ≤ op ∧ op < 38 then (ops.getD op.toNat ([], [])).2 else []

theorem op_cases {op : Int} (h : 0 ≤ op ∧ op < 38) : ∃ k : Nat, k < 38 ∧ op = (k : Int) := ⟨op.toNat, by omega, by omega⟩
theorem name_none {op : Int} (h : ¬(0 ≤ op ∧ op < 38)) : nameL op = [] := if_neg h
theorem shape_none {op : Int} (h : ¬(0 ≤ op ∧ op < 38)) : shapeL op = [] := if_neg h
theorem name_at {k : Nat} (h : k < 38) : nameL (k : Int) = (ops.getD k ([], [])).1 := by
  unfold nameL
  rw [if_pos ⟨by omega, by omega⟩, Int.toNat_natCast]
theorem shape_at {k : Nat} (h : k < 38) : shapeL (k : Int) = (ops.getD k ([], [])).2 := by
  unfold shapeL
  rw [if_pos ⟨by omega, by omega⟩, Int.toNat_natCast]

/-- What is so of each row. -/
def rowOk (r : List UInt8 × List UInt8) : Bool := decide (0 < r.1.length) && (decide (r.2.length = 3) || (decide (r.2.length = 2) && r.2.getD 1 0 == 119)) && decide (r.1.length ≤ 10)
theorem rows_ok : ops.all rowOk = true := by decide +kernel
theorem rows_len : ops.length = 38 := by decide +kernel
theorem row_in {k : Nat} (h : k < 38) : rowOk (ops.getD k ([], [])) = true := by
  have hl : k < ops.length := by rw [rows_len]; exact h
  rw [List.getD_eq_getElem?_getD, List.getElem?_eq_getElem hl]
  exact List.all_eq_true.1 rows_ok _ (List.getElem_mem hl)
theorem name_pos {op : Int} (h : 0 ≤ op ∧ op < 38) : nameL op ≠ [] := by
  obtain ⟨k, hk, rfl⟩ := op_cases h
  have := row_in hk
  unfold rowOk at this
  simp only [Bool.and_eq_true, decide_eq_true_eq] at this
  rw [name_at hk]
  intro e
  rw [e] at this
  simp at this
theorem shape_len {op : Int} (h : 0 ≤ op ∧ op < 38) : (shapeL op).length = 3 ∨ ((shapeL op).length = 2 ∧ (shapeL op).getD 1 0 = 119) := by
  obtain ⟨k, hk, rfl⟩ := op_cases h
  have := row_in hk
  unfold rowOk at this
  simp only [Bool.and_eq_true, decide_eq_true_eq, Bool.or_eq_true, beq_iff_eq] at this
  rw [shape_at hk]
  exact this.1.2
theorem shape_pos {op : Int} (h : 0 ≤ op ∧ op < 38) : shapeL op ≠ [] := by
  intro e
  rcases shape_len h with h1 | ⟨h1, -⟩ <;> rw [e] at h1 <;> simp at h1
theorem name_size (op : Int) : (nameL op).length ≤ 10 := by
  by_cases h : 0 ≤ op ∧ op < 38
  · obtain ⟨k, hk, rfl⟩ := op_cases h
    have := row_in hk
    unfold rowOk at this
    simp only [Bool.and_eq_true, decide_eq_true_eq] at this
    rw [name_at hk]; exact this.2
  · rw [name_none h]; simp
theorem shape_size (op : Int) : (shapeL op).length ≤ 3 := by
  by_cases h : 0 ≤ op ∧ op < 38
  · rcases shape_len h with h1 | ⟨h1, -⟩ <;> omega
  · rw [shape_none h]; simp
theorem shape_iff (op : Int) : shapeL op = [] ↔ ¬(0 ≤ op ∧ op < 38) := ⟨fun h k => shape_pos k h, shape_none⟩
theorem name_iff (op : Int) : nameL op = [] ↔ ¬(0 ≤ op ∧ op < 38) := ⟨fun h k => name_pos k h, name_none⟩
/-- No two have one name. -/
theorem names_apart {a b : Int} (h : nameL a = nameL b) (ha : nameL a ≠ []) : a = b := by
  have h1 : 0 ≤ a ∧ a < 38 := Decidable.not_not.1 fun k => ha (name_none k)
  have h2 : 0 ≤ b ∧ b < 38 := Decidable.not_not.1 fun k => ha (by rw [h]; exact name_none k)
  obtain ⟨i, hi, rfl⟩ := op_cases h1
  obtain ⟨j, hj, rfl⟩ := op_cases h2
  rw [name_at hi, name_at hj] at h
  have key : (List.range 38).all (fun i => (List.range 38).all fun j => decide (i = j) || !((ops.getD i ([], [])).1 == (ops.getD j ([], [])).1)) = true := by decide +kernel
  have := List.all_eq_true.1 (List.all_eq_true.1 key i (List.mem_range.2 hi)) j (List.mem_range.2 hj)
  rw [h] at this
  simp at this
  omega

/-- An instruction. -/
structure Ix where
  op : Int
  a : Int
  b : Int
  c : Int
deriving DecidableEq
def Ix.cells (x : Ix) : List Value := [.int .i64 x.op, .int .i64 x.a, .int .i64 x.b, .int .i64 x.c]

def fine (c : UInt8) (n : Int) : Bool := decide (0 ≤ n) && decide (n ≤ 255) && (decide (n = 0) || c != 45)
/-- The letter of a number; behind a wide one's it is none. -/
def letter (sh : List UInt8) (i : Nat) : UInt8 := sh.getD i 119
def rightB (x : Ix) : Bool := (shapeL x.op != []) && fine (letter (shapeL x.op) 0) x.a && fine (letter (shapeL x.op) 1) x.b && fine (letter (shapeL x.op) 2) x.c
def wideL (x : Ix) : Int := if rightB x then x.b + 256 * x.c else 0
def byteOf (n : Int) : UInt8 := UInt8.ofNat n.toNat
def buildL (x : Ix) : List UInt8 := [byteOf x.op, byteOf x.a, byteOf x.b, byteOf x.c]
def readL (l : List UInt8) : Ix := ⟨((l.getD 0 0).toNat : Int), ((l.getD 1 0).toNat : Int), ((l.getD 2 0).toNat : Int), ((l.getD 3 0).toNat : Int)⟩

theorem fine_in {c : UInt8} {n : Int} (h : fine c n = true) : 0 ≤ n ∧ n ≤ 255 := by
  unfold fine at h
  simp only [Bool.and_eq_true, decide_eq_true_eq] at h
  exact h.1
theorem right_in {x : Ix} (h : rightB x = true) : (0 ≤ x.op ∧ x.op < 38) ∧ (0 ≤ x.a ∧ x.a ≤ 255) ∧ (0 ≤ x.b ∧ x.b ≤ 255) ∧ (0 ≤ x.c ∧ x.c ≤ 255) := by
  unfold rightB at h
  simp only [Bool.and_eq_true] at h
  refine ⟨Decidable.not_not.1 fun k => ?_, fine_in h.1.1.2, fine_in h.1.2, fine_in h.2⟩
  have := h.1.1.1
  rw [shape_none k] at this
  simp at this
theorem byte_back {n : Int} (h0 : 0 ≤ n) (h1 : n ≤ 255) : ((byteOf n).toNat : Int) = n := by
  unfold byteOf
  rw [UInt8.toNat_ofNat']
  omega
theorem read_build {x : Ix} (h : rightB x = true) : readL (buildL x) = x := by
  obtain ⟨h0, h1, h2, h3⟩ := right_in h
  obtain ⟨o, a, b, c⟩ := x
  unfold readL buildL
  simp only [List.getD_cons_zero, List.getD_cons_succ]
  rw [byte_back h0.1 (Int.le_trans (Int.le_of_lt h0.2) (by decide)), byte_back h1.1 h1.2, byte_back h2.1 h2.2, byte_back h3.1 h3.2]
theorem byte_read (c : UInt8) : byteOf ((c.toNat : Nat) : Int) = c := by
  unfold byteOf
  rw [Int.toNat_natCast]
  exact UInt8.ofNat_toNat
theorem build_read {l : List UInt8} (h : 4 ≤ l.length) : buildL (readL l) = l.take 4 := by
  match l, h with
  | a :: b :: c :: d :: r, _ =>
    unfold buildL readL
    simp only [List.getD_cons_zero, List.getD_cons_succ, byte_read]
    rfl
/-- An instruction of noughts. -/
theorem right_zero (op : Int) : rightB ⟨op, 0, 0, 0⟩ = decide (0 ≤ op ∧ op < 38) := by
  have hf : ∀ c, fine c 0 = true := fun c => by unfold fine; simp
  unfold rightB
  simp only [hf, Bool.and_true]
  by_cases h : 0 ≤ op ∧ op < 38
  · rw [decide_eq_true h]
    simpa using shape_pos h
  · rw [decide_eq_false h]
    simp [shape_none h]

end Go.Proofs.YtmljjpdodcpohaaDoor.In
