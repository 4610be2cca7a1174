/- The walk of New: its contract. No condition but those that each states. -/
import Derived.Test.YthddiijnomhpfaaDoorDkA
namespace Go.Proofs.YthddiijnomhpfaaDoor.Dk
open Go.RowKit

theorem blk_info : (Tryd.prog.info? 112).map (fun i => (i.zero, i.size, i.bytes)) = some (some (.agg (bv zeroB).toArray), 64, 64) := by kernel_rfl

theorem bv_zero (n : Nat) : bv (List.replicate n 0) = List.replicate n (.int .u8 0) := by simp [bv]

theorem dcells_zero (n : Nat) : dcells (List.replicate n zeroB) = List.replicate (n * 64) (.int .u8 0) := by
  unfold dcells
  induction n with
  | zero => rfl
  | succ n ih =>
    rw [List.replicate_succ, List.flatMap_cons, ih, zeroB, bv_zero, List.replicate_append_replicate]
    congr 1; omega

theorem made_rep (s m : Nat) (v : Value) (hs : 0 < s) : (madeCells (List.replicate s v).toArray m).toList = List.replicate m v := by
  apply List.ext_getElem?
  intro j
  by_cases hj : j < m
  · have h64 : j % s < s := Nat.mod_lt _ hs
    simp [madeCells, hj, h64]
  · simp [madeCells, hj]

def zcells (n : Nat) : Array Value := (List.replicate (n * 64) (.int .u8 0)).toArray

theorem make_blocks (n : Nat) (h : n ≤ 512) (W : World) : (Instr.makeSlice 82 (.int .i64 (n : Int)) (.int .i64 (n : Int))).run Tryd.prog W = .ok (.slice (some ⟨W.heap.size, 0, none⟩) n n) (W.alloc (.cells (zcells n) 112)) := by
  obtain ⟨i, hi, hz, hs, hb⟩ := info_parts blk_info
  have hr := run_make (P := Tryd.prog) W 82 112 i _ Tryd.underlying82 hi hz .i64 .i64 n n (by omega) (Int.le_refl _) (by rw [hb]; omega) (by omega)
  simp only [Int.toNat_natCast, hs] at hr
  rw [hr]
  have e : madeCells (Value.agg (bv zeroB).toArray).cells (n * 64) = zcells n := by
    apply Array.ext'
    show (madeCells (bv zeroB).toArray (n * 64)).toList = _
    rw [zeroB, bv_zero, made_rep 64 _ _ (by decide)]; rfl
  rw [e]

set_option maxHeartbeats 1000000 in
set_option maxRecDepth 100000 in
theorem new_bad (n : Int) (h : n < 16 ∨ 512 < n) (w : World) :
    Calls Tryd.prog 11 #[.int .i64 n] w fun e w' => e = .returned (.tuple #[.pointer none, .int .i64 1]) ∧ w = w' := by
  by_cases h1 : n < 16
  · have t1 : decide (n < 16) = true := decide_eq_true h1
    clear h
    go_enter Tryd.func11, Tryd.ntmps11
    go_wp2
    go_ret2
    exact ⟨rfl, rfl⟩
  · have t1 : decide (n < 16) = false := decide_eq_false h1
    have t2 : decide (512 < n) = true := decide_eq_true (by omega)
    clear h
    go_enter Tryd.func11, Tryd.ntmps11
    go_wp2
    go_ret2
    exact ⟨rfl, rfl⟩

def newCells (h n : Nat) : List Value := [.pointer (some ⟨h + 1 + 1, 0, none⟩), .bool true, .slice (some ⟨h, 0, none⟩) n n, .slice none 0 0, .map (some (h + 1)), .int .i64 0, .bool false, .int .i64 0, .int .u64 0]

theorem disk_new (w : World) (n : Nat) (h1 : 16 ≤ n) (h2 : n ≤ 512) (W : World) (hW : ((w.alloc (.cells (zcells n) 112)).alloc (.map #[] 0)).alloc (.cells (newCells w.heap.size n).toArray 88) = W) :
    DiskAt W (fun k => w.heap.size ≤ k) (w.heap.size + 1 + 1) (new n) := by
  have e1 : (w.alloc (.cells (zcells n) 112)).heap.size = w.heap.size + 1 := by simp
  have e2 : ((w.alloc (.cells (zcells n) 112)).alloc (.map #[] 0)).heap.size = w.heap.size + 1 + 1 := by simp
  have e3 : W.heap.size = w.heap.size + 1 + 1 + 1 := by rw [← hW]; simp
  have b3 : W.heap[w.heap.size + 1 + 1]? = some (.cells (newCells w.heap.size n).toArray 88 (0, 0)) := by
    rw [← hW, ← e2]; exact heap_alloc_new _ _
  have b2 : W.heap[w.heap.size + 1]? = some (.map #[] 0) := by
    rw [← hW, Below.heap_alloc _ _ _ (by rw [e2]; omega), ← e1]; exact heap_alloc_new _ _
  have b1 : W.heap[w.heap.size]? = some (.cells (zcells n) 112 (0, 0)) := by
    rw [← hW, Below.heap_alloc _ _ _ (by rw [e2]; omega), Below.heap_alloc _ _ _ (by rw [e1]; omega)]; exact heap_alloc_new _ _
  have hc : ∀ o, W.cell? ⟨w.heap.size + 1 + 1, o, none⟩ = (newCells w.heap.size n)[o]? := fun o => by rw [cell_of_row W _ o _ _ _ b3]; simp
  have hf : ∀ o, W.frozen? ⟨w.heap.size + 1 + 1, o, none⟩ = false := fun o => frozen_of_row W _ o _ _ b3
  have hd : ∀ o, W.cell? ⟨w.heap.size, o, none⟩ = (dcells (List.replicate n zeroB))[o]? := fun o => by rw [cell_of_row W _ o _ _ _ b1, dcells_zero, zcells, List.getElem?_toArray]
  have hdl : (dcells (List.replicate n zeroB)).length = n * 64 := by rw [dcells_zero, List.length_replicate]
  have hL : (new n).L.length = n := by simp [new]
  refine ⟨w.heap.size, n, w.heap.size + 1, .slice none 0 0, .map [], ⟨fun j hj => ?_, hc 0, hc 1, ?_, hc 3, hc 4, hc 5, fun j v hv => ?_, fun j v hv => ?_, fun j hj => ?_, ?_, World.ownsRow_nil _ _ _ _, ⟨#[], 0, b2, ⟨by simp, MapKept.stamped_empty 0, by simp⟩, Nat.le_refl _, rfl⟩, mapOk_nil, new_ok h1 h2, by omega, by omega, fun b hb => by cases hb⟩, by omega, Nat.le_refl _, by omega, fun b hb => by cases hb⟩
  · rw [Nat.zero_add, hc, hf]
    rcases (show j = 0 ∨ j = 1 ∨ j = 2 ∨ j = 3 ∨ j = 4 ∨ j = 5 ∨ j = 6 ∨ j = 7 ∨ j = 8 by omega) with rfl | rfl | rfl | rfl | rfl | rfl | rfl | rfl | rfl <;> exact ⟨rfl, rfl⟩
  · rw [hL]; exact hc 2
  · rw [hc, ← hv]
    have : j < 3 := (List.getElem?_eq_some_iff.1 hv).1
    rcases (show j = 0 ∨ j = 1 ∨ j = 2 by omega) with rfl | rfl | rfl <;> rfl
  · rw [Nat.zero_add, hd]; exact hv
  · rw [hL] at hj
    rw [Nat.zero_add, hd]
    refine ⟨?_, frozen_of_row W _ j _ _ b1⟩
    rw [List.getElem?_eq_getElem (by omega)]; rfl
  · rw [hL]; exact ⟨Nat.le_refl _, by unfold maxLen; omega⟩

set_option maxHeartbeats 1000000 in
set_option maxRecDepth 100000 in
theorem new_ok_any (n : Nat) (h1 : 16 ≤ n) (h2 : n ≤ 512) (w : World) :
    Calls Tryd.prog 11 #[.int .i64 (n : Int)] w fun e w' => e = .returned (.tuple #[.pointer (some ⟨w.heap.size + 2, 0, none⟩), .int .i64 0]) ∧ DiskAt w' (fun k => w.heap.size ≤ k) (w.heap.size + 2) (new n) ∧ Below w.heap.size w w' := by
  have hmk := make_blocks n h2
  have hmm := @run_makeMap Tryd.prog
  have t1 : decide ((n : Int) < 16) = false := decide_eq_false (by omega)
  have t2 : decide ((512 : Int) < (n : Int)) = false := decide_eq_false (by omega)
  have t3 : decide (n < 16) = false := decide_eq_false (by omega)
  have t4 : decide (512 < n) = false := decide_eq_false (by omega)
  generalize hZ : zcells n = Z at hmk
  go_enter Tryd.func11, Tryd.ntmps11
  go_wp2
  go_ret2
  subst hZ
  have hD := disk_new w n h1 h2 _ rfl
  exact ⟨rfl, hD, (((Below.refl _ _).alloc (Nat.le_refl _) _).alloc (by simp) _).alloc (by simp; omega) _⟩

end Go.Proofs.YthddiijnomhpfaaDoor.Dk
