/- The journal's entries by definition (plain functions over lists of bytes): blocks, what blocks say, the entries of a journal in their order. No condition but those that each states. -/
import Derived.Test.YtkplmaaeggnbgaaDoorDgO
import Derived.Test.YtkplmaaeggnbgaaDoorOctU
import Derived.Test.YtkplmaaeggnbgaaDoorDkK
namespace Go.Proofs.YtkplmaaeggnbgaaDoor.Rg
open Go.RowKit Dk

/-- An entry of the journal. -/
structure Ent where
  kind : Int
  number : Int
  slot : Int
  size : Int
  sum : Bytes
deriving DecidableEq

/-- Its cells. -/
def Ent.cells (e : Ent) : List Value := [.int .i64 e.kind, .int .i64 e.number, .int .i64 e.slot, .int .i64 e.size, .string (strOf e.sum)]

def Ent.zero : Ent := ⟨0, 0, 0, 0, []⟩

def Ent.valid (e : Ent) : Bool := decide (1 ≤ e.kind ∧ e.kind ≤ 3 ∧ 1 ≤ e.number ∧ e.number ≤ 4294967295 ∧ 0 ≤ e.slot ∧ e.slot ≤ 2 ∧ 0 ≤ e.size ∧ e.size ≤ 4294967295 ∧ e.sum.length = 32)

def le (k : Nat) (n : Int) : Bytes := Lib.leBytes k (u64 n)
def Ent.body (e : Ent) : Bytes := [67, 74] ++ le 1 e.kind ++ le 1 e.slot ++ le 4 e.number ++ le 4 e.size ++ e.sum
def Ent.blk (e : Ent) : Bytes := e.body ++ ((sha e.body).take 8 ++ List.replicate 12 0)

theorem leBytes_length : ∀ (k u : Nat), (Lib.leBytes k u).length = k
  | 0, _ => rfl
  | k + 1, u => by simp [Lib.leBytes, leBytes_length k]
theorem le_length (k : Nat) (n : Int) : (le k n).length = k := leBytes_length k _

theorem body_length {e : Ent} (h : e.sum.length = 32) : e.body.length = 44 := by simp [Ent.body, le_length, h]
theorem sha_take (l : Bytes) : ((sha l).take 8).length = 8 := by simp [sha_length]
theorem blk_length {e : Ent} (h : e.sum.length = 32) : e.blk.length = 64 := by simp [Ent.blk, body_length h, sha_length]

theorem valid_sum {e : Ent} (h : e.valid = true) : e.sum.length = 32 := (of_decide_eq_true h).2.2.2.2.2.2.2.2
theorem valid_number {e : Ent} (h : e.valid = true) : 1 ≤ e.number ∧ e.number ≤ 4294967295 := ⟨(of_decide_eq_true h).2.2.1, (of_decide_eq_true h).2.2.2.1⟩

/-- The entry that a block's bytes say. -/
def fields (s : Bytes) : Ent := ⟨getI ((s.drop 2).take 1), getI ((s.drop 4).take 4), getI ((s.drop 3).take 1), getI ((s.drop 8).take 4), (s.drop 12).take 32⟩

/-- The entry whose block it is. -/
def parse (s : Bytes) : Option Ent := if s.length = 64 ∧ (fields s).valid = true ∧ (fields s).blk = s then some (fields s) else none

theorem num_back (n : Int) (k : Nat) (hk : k = 1 ∨ k = 4) (h0 : 0 ≤ n) (h1 : n < 256 ^ k) : getI (le k n) = n := by
  have hb : n < 2 ^ 32 := by rcases hk with rfl | rfl <;> omega
  have hu : (u64 n : Int) = n := by rw [u64_cast, wraps_u64 _ h0 (by omega)]
  have e : Lib.leNat (le k n) = u64 n := by
    unfold le
    refine Lib.leNat_leBytes _ _ ?_
    rcases hk with rfl | rfl <;> omega
  unfold getI
  rw [e, hu]
  unfold RowKit.wrap64
  omega

theorem drop_at {A B : Bytes} {n : Nat} (h : A.length = n) : (A ++ B).drop n = B := by subst h; exact List.drop_left
theorem take_at {A B : Bytes} {n : Nat} (h : A.length = n) : (A ++ B).take n = A := by subst h; exact List.take_left

theorem fields_blk {e : Ent} (h : e.valid = true) : fields e.blk = e := by
  obtain ⟨a1, a2, a3, a4, a5, a6, a7, a8, a9⟩ := of_decide_eq_true h
  obtain ⟨kind, number, slot, size, sum⟩ := e
  replace a1 : 1 ≤ kind := a1
  replace a2 : kind ≤ 3 := a2
  replace a3 : 1 ≤ number := a3
  replace a4 : number ≤ 4294967295 := a4
  replace a5 : 0 ≤ slot := a5
  replace a6 : slot ≤ 2 := a6
  replace a7 : 0 ≤ size := a7
  replace a8 : size ≤ 4294967295 := a8
  replace a9 : sum.length = 32 := a9
  have e0 : (Ent.mk kind number slot size sum).blk = [67, 74] ++ (le 1 kind ++ (le 1 slot ++ (le 4 number ++ (le 4 size ++ (sum ++ ((sha (Ent.mk kind number slot size sum).body).take 8 ++ List.replicate 12 0)))))) := by
    simp [Ent.blk, Ent.body]
  generalize (sha (Ent.mk kind number slot size sum).body).take 8 ++ List.replicate 12 0 = R at e0
  have d2 : (Ent.mk kind number slot size sum).blk.drop 2 = le 1 kind ++ (le 1 slot ++ (le 4 number ++ (le 4 size ++ (sum ++ R)))) := by rw [e0]; exact drop_at rfl
  have d3 : (Ent.mk kind number slot size sum).blk.drop 3 = le 1 slot ++ (le 4 number ++ (le 4 size ++ (sum ++ R))) := by
    rw [show 3 = 2 + 1 from rfl, ← List.drop_drop, d2]; exact drop_at (le_length _ _)
  have d4 : (Ent.mk kind number slot size sum).blk.drop 4 = le 4 number ++ (le 4 size ++ (sum ++ R)) := by
    rw [show 4 = 3 + 1 from rfl, ← List.drop_drop, d3]; exact drop_at (le_length _ _)
  have d8 : (Ent.mk kind number slot size sum).blk.drop 8 = le 4 size ++ (sum ++ R) := by
    rw [show 8 = 4 + 4 from rfl, ← List.drop_drop, d4]; exact drop_at (le_length _ _)
  have d12 : (Ent.mk kind number slot size sum).blk.drop 12 = sum ++ R := by
    rw [show 12 = 8 + 4 from rfl, ← List.drop_drop, d8]; exact drop_at (le_length _ _)
  unfold fields
  rw [d2, d3, d4, d8, d12, take_at (le_length _ _), take_at (le_length _ _), take_at (le_length _ _), take_at (le_length _ _), take_at a9,
    num_back kind 1 (.inl rfl) (by omega) (by omega), num_back slot 1 (.inl rfl) (by omega) (by omega), num_back number 4 (.inr rfl) (by omega) (by omega), num_back size 4 (.inr rfl) (by omega) (by omega)]

theorem parse_blk {e : Ent} (h : e.valid = true) : parse e.blk = some e := by
  unfold parse
  rw [fields_blk h, if_pos ⟨blk_length (valid_sum h), h, rfl⟩]

theorem parse_some {s : Bytes} {e : Ent} (h : parse s = some e) : s.length = 64 ∧ e = fields s ∧ e.valid = true ∧ e.blk = s := by
  unfold parse at h
  split at h
  · rename_i hc
    cases h
    exact ⟨hc.1, rfl, hc.2⟩
  · cases h

theorem parse_zero : parse zeroB = none := by
  unfold parse
  rw [if_neg]
  rintro ⟨_, h, _⟩
  have : (fields zeroB).valid = false := by decide +kernel
  rw [this] at h; cases h

/-- The entry of block i, if it belongs there. -/
def found (rd : Nat → Bytes) (i : Nat) : Option Ent := match parse (rd i) with
  | some e => if e.number % 8 = (i : Int) then some e else none
  | none => none

theorem found_some {rd : Nat → Bytes} {i : Nat} {e : Ent} (h : found rd i = some e) : parse (rd i) = some e ∧ e.number % 8 = (i : Int) := by
  unfold found at h
  split at h
  · rename_i e' he
    split at h
    · cases h; exact ⟨he, by assumption⟩
    · cases h
  · cases h

/-- The entries of the first k blocks, block by block. -/
def raw (rd : Nat → Bytes) : Nat → List Ent
  | 0 => []
  | k + 1 => match found rd k with
    | some e => raw rd k ++ [e]
    | none => raw rd k

theorem raw_length (rd : Nat → Bytes) : ∀ k, (raw rd k).length ≤ k
  | 0 => Nat.le_refl _
  | k + 1 => by
    have := raw_length rd k
    unfold raw
    split
    · simp; omega
    · omega

theorem mem_raw {rd : Nat → Bytes} {e : Ent} : ∀ {k : Nat}, e ∈ raw rd k ↔ ∃ i, i < k ∧ found rd i = some e
  | 0 => by simp [raw]
  | k + 1 => by
    unfold raw
    have ih := mem_raw (rd := rd) (e := e) (k := k)
    constructor
    · intro h
      split at h
      · rename_i e' he
        rcases List.mem_append.1 h with h | h
        · obtain ⟨i, hi, hf⟩ := ih.1 h; exact ⟨i, by omega, hf⟩
        · have := List.mem_singleton.1 h; subst this; exact ⟨k, Nat.lt_succ_self k, he⟩
      · obtain ⟨i, hi, hf⟩ := ih.1 h; exact ⟨i, by omega, hf⟩
    · rintro ⟨i, hi, hf⟩
      by_cases e1 : i = k
      · subst e1
        rw [hf]
        exact List.mem_append_right _ (List.mem_singleton.2 rfl)
      · have := ih.2 ⟨i, by omega, hf⟩
        split
        · exact List.mem_append_left _ this
        · exact this

/-- An entry is put where its number belongs. -/
def ins (l : List Ent) (e : Ent) : List Ent := l.takeWhile (fun x => decide (x.number < e.number)) ++ (e :: l.dropWhile (fun x => decide (x.number < e.number)))

/-- The entries of the first k blocks, by their numbers. -/
def scan (rd : Nat → Bytes) : Nat → List Ent
  | 0 => []
  | k + 1 => match found rd k with
    | some e => ins (scan rd k) e
    | none => scan rd k

theorem ins_perm (l : List Ent) (e : Ent) : (ins l e).Perm (l ++ [e]) := by
  unfold ins
  refine List.perm_middle.trans ?_
  rw [List.takeWhile_append_dropWhile]
  exact (List.perm_append_singleton e l).symm

theorem scan_perm (rd : Nat → Bytes) : ∀ k, (scan rd k).Perm (raw rd k)
  | 0 => List.Perm.refl _
  | k + 1 => by
    have ih := scan_perm rd k
    unfold scan raw
    split
    · exact (ins_perm _ _).trans (ih.append_right _)
    · exact ih

theorem mem_scan {rd : Nat → Bytes} {e : Ent} {k : Nat} : e ∈ scan rd k ↔ ∃ i, i < k ∧ found rd i = some e := by
  rw [(scan_perm rd k).mem_iff]; exact mem_raw
theorem scan_length (rd : Nat → Bytes) (k : Nat) : (scan rd k).length ≤ k := by
  rw [(scan_perm rd k).length_eq]; exact raw_length rd k

/-- By rising numbers. -/
def Sorted (l : List Ent) : Prop := l.Pairwise (fun a b => a.number < b.number)
/-- By numbers that never fall. -/
def Rises (l : List Ent) : Prop := l.Pairwise (fun a b => a.number ≤ b.number)

theorem takeWhile_all {α : Type} {p : α → Bool} : ∀ {l : List α} {x : α}, x ∈ l.takeWhile p → p x = true
  | a :: l, x, h => by
    rw [List.takeWhile_cons] at h
    split at h
    · rcases List.mem_cons.1 h with rfl | h
      · assumption
      · exact takeWhile_all h
    · cases h

theorem dropWhile_ge {e : Ent} : ∀ {l : List Ent}, Sorted l → ∀ x ∈ l.dropWhile (fun x => decide (x.number < e.number)), e.number ≤ x.number
  | [], _, x, h => by cases h
  | a :: l, hs, x, h => by
    rw [List.dropWhile_cons] at h
    split at h
    · exact dropWhile_ge (List.pairwise_cons.1 hs).2 x h
    · rename_i hn
      have ha : e.number ≤ a.number := by have := of_decide_eq_false (by simpa using hn : decide (a.number < e.number) = false); omega
      rcases List.mem_cons.1 h with rfl | h
      · exact ha
      · have := (List.pairwise_cons.1 hs).1 x h; omega

theorem ins_sorted {l : List Ent} {e : Ent} (hs : Sorted l) (hne : ∀ x ∈ l, x.number ≠ e.number) : Sorted (ins l e) := by
  unfold ins Sorted
  rw [List.pairwise_append]
  refine ⟨hs.sublist (List.takeWhile_sublist _), List.pairwise_cons.2 ⟨fun x hx => ?_, hs.sublist (List.dropWhile_sublist _)⟩, fun a ha b hb => ?_⟩
  · have h1 := dropWhile_ge hs x hx
    have h2 := hne x ((List.dropWhile_sublist _).subset hx)
    omega
  · have h1 : a.number < e.number := of_decide_eq_true (takeWhile_all (p := fun x : Ent => decide (x.number < e.number)) ha)
    rcases List.mem_cons.1 hb with rfl | hb
    · exact h1
    · have := dropWhile_ge hs b hb; omega

theorem scan_sorted (rd : Nat → Bytes) : ∀ k, k ≤ 8 → Sorted (scan rd k)
  | 0, _ => List.Pairwise.nil
  | k + 1, hk => by
    have ih := scan_sorted rd k (by omega)
    unfold scan
    split
    · rename_i e he
      refine ins_sorted ih (fun x hx h => ?_)
      obtain ⟨i, hi, hf⟩ := mem_scan.1 hx
      have h1 := (found_some hf).2
      have h2 := (found_some he).2
      rw [h] at h1
      omega
    · exact ih

theorem sorted_unique : ∀ {l m : List Ent}, l.Perm m → Rises l → Sorted m → l = m
  | [], m, h, _, _ => (List.nil_perm.1 h).symm ▸ rfl
  | a :: l, m, h, hl, hm => by
    match m, hm, h with
    | [], _, h => exact absurd h.length_eq (by simp)
    | b :: m, hm, h =>
      have hb : b ∈ a :: l := h.mem_iff.2 (List.mem_cons_self ..)
      have ha : a ∈ b :: m := h.mem_iff.1 (List.mem_cons_self ..)
      have h1 : a.number ≤ b.number := by
        rcases List.mem_cons.1 hb with rfl | hb
        · exact Int.le_refl _
        · exact (List.pairwise_cons.1 hl).1 b hb
      have e : a = b := by
        rcases List.mem_cons.1 ha with e | ha
        · exact e
        · have := (List.pairwise_cons.1 hm).1 a ha; omega
      subst e
      rw [sorted_unique (h.cons_inv) (List.pairwise_cons.1 hl).2 (List.pairwise_cons.1 hm).2]

/-! What may be out of order: pairs whose first one has the greater number. -/
def inv : List Ent → Nat
  | [] => 0
  | a :: l => l.countP (fun b => decide (b.number < a.number)) + inv l

theorem inv_swap (A B : List Ent) (x y : Ent) (h : y.number < x.number) : inv (A ++ y :: x :: B) + 1 = inv (A ++ x :: y :: B) := by
  induction A with
  | nil =>
    have h2 : ¬ x.number < y.number := by omega
    simp [inv, h, h2]
    omega
  | cons a A ih =>
    have hp : (A ++ y :: x :: B).countP (fun b => decide (b.number < a.number)) = (A ++ x :: y :: B).countP (fun b => decide (b.number < a.number)) :=
      ((List.Perm.swap x y B).append_left A).countP_eq _
    rw [List.cons_append, List.cons_append, inv, inv, hp]
    omega

end Go.Proofs.YtkplmaaeggnbgaaDoor.Rg
