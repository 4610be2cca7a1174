/- A journal to which so many entries were appended, over states; no walk. No condition but those that each states. -/
import Derived.Test.YtmnbkopfmhdijaaDoorRgM
namespace Go.Proofs.YtmnbkopfmhdijaaDoor.Rg
open Go.RowKit Dk

/-- The entry that is appended as the i-th one, and as it is kept. -/
def rowE (c : UInt8) (i : Nat) : Ent := ⟨1 + (i : Int) % 3, 0, (i : Int) % 3, i, sumB c⟩
def rowF (c : UInt8) (i : Nat) : Ent := ⟨1 + (i : Int) % 3, (i : Int) + 1, (i : Int) % 3, i, sumB c⟩
theorem rowE_num (c : UInt8) (i : Nat) : (rowE c i).num ((i : Int) + 1) = rowF c i := rfl
theorem rowF_valid (c : UInt8) (i : Nat) (hi : i < 1000) : (rowF c i).valid = true :=
  decide_eq_true ⟨show 1 ≤ 1 + (i : Int) % 3 by omega, show 1 + (i : Int) % 3 ≤ 3 by omega, show 1 ≤ (i : Int) + 1 by omega, show (i : Int) + 1 ≤ 4294967295 by omega, show 0 ≤ (i : Int) % 3 by omega, show (i : Int) % 3 ≤ 2 by omega, show 0 ≤ (i : Int) by omega, show (i : Int) ≤ 4294967295 by omega, sumB_length c⟩

def rowS (c : UInt8) : Nat → DS
  | 0 => new 16
  | i + 1 => (DS.app (rowS c i) (rowE c i)).1

/-- What holds of it. -/
structure RowOk (c : UInt8) (i : Nat) (S : DS) : Prop where
  ok : S.Ok
  on : S.on = true
  next : S.next = none
  ops : S.ops ≤ 2 * i
  cnt : S.c ≤ i
  last : lastN S = (i : Int)
  mem : ∀ x, x ∈ scan S.read 8 ↔ ∃ j, j < i ∧ i ≤ j + 8 ∧ x = rowF c j

theorem write_none' {S : DS} (h : S.next = none) (a : Nat) (s : Bytes) : S.write a s = ((S.put a s).tick, true) := step_none (S := S.put a s) h
theorem sync_none {S : DS} (h : S.next = none) : S.sync = (S.tick.settled allM, true) := by unfold DS.sync; rw [step_none h]; rfl

theorem row_step {c : UInt8} {i : Nat} {S : DS} (hi : i < 1000) (h : RowOk c i S) : ∃ U, DS.app S (rowE c i) = (U, rowF c i, 0) ∧ RowOk c (i + 1) U := by
  have hv := rowF_valid c i hi
  have hn : (rowF c i).number = (i : Int) + 1 := rfl
  obtain ⟨k, hk⟩ : ∃ k : Nat, k = ((rowF c i).number % 8).toNat := ⟨_, rfl⟩
  have hk8 : k < 8 := by omega
  have hkn : (rowF c i).number % 8 = (k : Int) := by omega
  have hT := write_none' h.next k (rowF c i).blk
  have hU := sync_none (S := (S.put k (rowF c i).blk).tick) h.next
  have hlo := h.ok.lo
  have hOT : (S.put k (rowF c i).blk).tick.Ok := (h.ok.put (by omega) (blk_length (valid_sum hv))).tick
  have hrd : ∀ q, ((S.put k (rowF c i).blk).tick.tick.settled allM).read q = if k = q then (rowF c i).blk else S.read q := fun q => by
    rw [sync_true_read hOT hU, write_true_read hT]
  have happ : DS.app S (rowE c i) = ((S.put k (rowF c i).blk).tick.tick.settled allM, rowF c i, 0) := by
    have := app_ok (S := S) (T := (S.put k (rowF c i).blk).tick) (U := (S.put k (rowF c i).blk).tick.tick.settled allM) (e := rowE c i) h.on (by rw [h.last]; omega) (by rw [h.last]; exact hv) (by rw [h.last, rowE_num, ← hk]; exact hT) hU
    rw [h.last, rowE_num] at this
    exact this
  obtain ⟨l1, l2, l3⟩ := last_new (S := S) (T := (S.put k (rowF c i).blk).tick.tick.settled allM) hv hkn (by rw [h.last, hn]; omega) (fun q _ => hrd q)
  refine ⟨_, happ, ⟨hOT.tick.settled _, h.on, h.next, ?_, ?_, ?_, fun x => ⟨fun hx => ?_, fun hx => ?_⟩⟩⟩
  · have := h.ops
    show S.ops + 1 + 1 ≤ 2 * (i + 1)
    omega
  · have := h.cnt
    show S.c + 1 ≤ i + 1
    omega
  · unfold lastN; rw [l1]; show (rowF c i).number = _; rw [hn]; omega
  · rcases l3 x hx with rfl | h3
    · exact ⟨i, by omega, by omega, rfl⟩
    · obtain ⟨j, h4, h5, rfl⟩ := (h.mem x).1 h3
      refine ⟨j, by omega, ?_, rfl⟩
      by_cases e : i ≤ j + 7
      · omega
      · exfalso
        obtain ⟨q, hq, hf⟩ := mem_scan.1 hx
        have h6 := (found_some hf).2
        have h7 : (rowF c j).number = (j : Int) + 1 := rfl
        have h8 : q = k := by omega
        subst h8
        have h9 : found ((S.put q (rowF c i).blk).tick.tick.settled allM).read q = some (rowF c i) := found_blk hv hkn (by rw [hrd q, if_pos rfl])
        rw [h9] at hf
        have h10 := congrArg (fun o : Option Ent => o.map Ent.number) hf
        simp [hn, h7] at h10
        omega
  · obtain ⟨j, h4, h5, rfl⟩ := hx
    by_cases e : j = i
    · subst e
      exact List.mem_of_getLast? l1
    · refine l2 _ ((h.mem _).2 ⟨j, by omega, by omega, rfl⟩) ?_
      have h7 : (rowF c j).number = (j : Int) + 1 := rfl
      rw [h7, hn]
      omega

theorem rowOk_zero (c : UInt8) : RowOk c 0 (new 16) :=
  ⟨new_ok (by decide) (by decide), rfl, rfl, Nat.le_refl _, Nat.le_refl _, new_lastN 16 (by decide), fun x => by rw [new_scan 16 (by decide)]; exact ⟨fun h => (by cases h), fun ⟨j, h, _⟩ => (by omega)⟩⟩

theorem rowOk (c : UInt8) : ∀ i, i ≤ 1000 → RowOk c i (rowS c i)
  | 0, _ => rowOk_zero c
  | i + 1, h => by
    obtain ⟨U, h1, h2⟩ := row_step (by omega) (rowOk c i (by omega))
    have : rowS c (i + 1) = U := by unfold rowS; rw [h1]
    rw [this]; exact h2

theorem row_app (c : UInt8) (i : Nat) (h : i < 1000) : DS.app (rowS c i) (rowE c i) = (rowS c (i + 1), rowF c i, 0) := by
  obtain ⟨U, h1, h2⟩ := row_step h (rowOk c i (by omega))
  have : rowS c (i + 1) = U := by unfold rowS; rw [h1]
  rw [this, h1]

theorem sorted_nodup {l : List Ent} (h : Sorted l) : l.Nodup := h.imp (fun h e => by subst e; omega)
theorem sorted_rises {l : List Ent} (h : Sorted l) : Rises l := h.imp (fun h => Int.le_of_lt h)

theorem sorted_ext {l m : List Ent} (hl : Sorted l) (hm : Sorted m) (h : ∀ x, x ∈ l ↔ x ∈ m) : l = m :=
  sorted_unique ((List.perm_ext_iff_of_nodup (sorted_nodup hl) (sorted_nodup hm)).2 h) (sorted_rises hl) hm

/-- The entries, by their numbers. -/
def rowL (c : UInt8) (i : Nat) : List Ent := (List.range (min i 8)).map (fun q => rowF c (i - min i 8 + q))

theorem rowL_sorted (c : UInt8) (i : Nat) : Sorted (rowL c i) := by
  unfold rowL Sorted
  rw [List.pairwise_map]
  refine List.pairwise_lt_range.imp (fun {a b} h => ?_)
  show ((i - min i 8 + a : Nat) : Int) + 1 < ((i - min i 8 + b : Nat) : Int) + 1
  omega

theorem row_scan (c : UInt8) (i : Nat) (h : i ≤ 1000) : scan (rowS c i).read 8 = rowL c i := by
  refine sorted_ext (scan_sorted _ 8 (Nat.le_refl _)) (rowL_sorted c i) (fun x => ?_)
  rw [(rowOk c i h).mem]
  unfold rowL
  rw [List.mem_map]
  constructor
  · rintro ⟨j, h1, h2, rfl⟩
    exact ⟨j - (i - min i 8), List.mem_range.2 (by omega), by congr 1; omega⟩
  · rintro ⟨q, hq, rfl⟩
    have := List.mem_range.1 hq
    exact ⟨_, by omega, by omega, rfl⟩

theorem rowL_length (c : UInt8) (i : Nat) : (rowL c i).length = min i 8 := by simp [rowL]

theorem rowL_at (c : UInt8) (i q : Nat) (hq : q < min i 8) : ∃ X Y, rowL c i = X ++ rowF c (i - min i 8 + q) :: Y ∧ X.length = q := by
  have hl : q < (rowL c i).length := by rw [rowL_length]; exact hq
  refine ⟨(rowL c i).take q, (rowL c i).drop (q + 1), ?_, by rw [List.length_take]; omega⟩
  have e : (rowL c i)[q] = rowF c (i - min i 8 + q) := by simp [rowL]
  rw [← e, ← List.drop_eq_getElem_cons, List.take_append_drop]

end Go.Proofs.YtmnbkopfmhdijaaDoor.Rg
