/- The walks of the document's Sync without power, and of its New: their contracts. No condition but those that each states. -/
import Derived.Test.YthddiijnomhpfaaDkRg
import Derived.Deep.RegionLaw
namespace Go.Proofs.Ythddiijnomhpfaa.Dk
open Go.RowKit

set_option maxHeartbeats 1000000 in
theorem ref_sync_off (r : Nat) (S : DS) (F : Nat → Prop) (w : World) (h : RefAt w F r S) (hon : S.on = false) :
    Calls Try.prog 44 #[.pointer (some ⟨r, 0, none⟩)] w fun e w' => e = .returned (.int .i64 7) ∧ w = w' := by
  obtain ⟨vl, vw, a, m, hR, -⟩ := h
  have c2 := hR.cell (i := 2) rfl
  rw [hon] at c2
  clear hR
  go_enter Try.func44, Try.ntmps44
  go_wp2
  go_ret
  exact ⟨rfl, rfl⟩

set_option maxHeartbeats 1000000 in
theorem ref_new_bad (n : Int) (h : n < 16 ∨ 512 < n) (w : World) :
    Calls Try.prog 10 #[.int .i64 n] w fun e w' => e = .returned (.tuple #[.pointer (some ⟨w.heap.size, 0, none⟩), .int .i64 1]) ∧ Below w.heap.size w w' := by
  by_cases h0 : n < 16
  · have t0 : decide (n < 16) = true := decide_eq_true h0
    go_enter Try.func10, Try.ntmps10
    go_wp2
    go_ret2
    exact ⟨rfl, (Below.refl _ _).alloc (Nat.le_refl _) _⟩
  · have t0 : decide (n < 16) = false := decide_eq_false h0
    have t1 : decide ((512 : Int) < n) = true := decide_eq_true (by omega)
    go_enter Try.func10, Try.ntmps10
    go_wp2
    go_ret2
    exact ⟨rfl, (Below.refl _ _).alloc (Nat.le_refl _) _⟩

/-- A document's disk that is being made: k blocks so far. -/
structure NewR (w wr : World) (vl : Value) (k : Nat) : Prop where
  cells : wr.rangeAt w.heap.size 0 (rcells vl (.slice none 0 0) (new k) 0 0)
  room : wr.there w.heap.size 0 7
  row : wr.ownsRow 0 9 1 vl k (strs (List.replicate k zeroB))
  bl : ∀ b, vl.ownBlock = some b → w.heap.size < b ∧ b < wr.heap.size
  below : Below w.heap.size w wr
  lt : w.heap.size < wr.heap.size

theorem rcells_new (vl : Value) (j k : Nat) : rcells vl (.slice none 0 0) (new j) 0 0 = rcells vl (.slice none 0 0) (new k) 0 0 := rfl

theorem newR_zero (w : World) (u : TypeId) : NewR w (w.alloc (.cells (rcells (.slice none 0 0) (.slice none 0 0) (new 0) 0 0).toArray u)) (.slice none 0 0) 0 :=
  ⟨range_new w _ u, there_new w _ u, World.ownsRow_nil _ _ _ _, fun b hb => (by cases hb), (Below.refl _ _).alloc (Nat.le_refl _) _, by simp⟩

theorem strs_zero (k : Nat) : strs (List.replicate k zeroB) ++ [.string (strOf zeroB)] = strs (List.replicate (k + 1) zeroB) := by
  rw [← strs_push, List.replicate_succ']

theorem newR_step {w wr W1 W7 : World} {vl : Value} {k g' cap : Nat} {o : Obj} (h : NewR w wr vl k) (hb : Below wr.heap.size wr W1) (hrow : W7.ownsRow 0 9 1 (.slice (some ⟨g', 0, none⟩) (k + 1) cap) (k + 1) (strs (List.replicate k zeroB) ++ [.string (strOf zeroB)]))
    (hgr : (W1.alloc o).grownBy W7 vl.ownBlock) (hg : vl.ownBlock = some g' ∨ g' = W1.heap.size + 1) (hlt : g' < W7.heap.size) :
    W7.cell? ⟨w.heap.size, 0, none⟩ = some vl ∧ W7.frozen? ⟨w.heap.size, 0, none⟩ = false ∧ NewR w (W7.setCell ⟨w.heap.size, 0, none⟩ (.slice (some ⟨g', 0, none⟩) (k + 1) cap)) (.slice (some ⟨g', 0, none⟩) (k + 1) cap) (k + 1) := by
  have hl := h.lt
  have hs1 := hb.size
  have o7 : Only (fun b => vl.ownBlock = some b) wr W7 := ((Only.of_below hb).alloc o).trans (Only.of_grown hgr (fun k e => e)) (fun _ _ e => e)
  have br : W7.heap[w.heap.size]? = wr.heap[w.heap.size]? := o7.block _ hl (fun e => by have := (h.bl _ e).1; omega)
  have hs7 := o7.size
  have hg2 : w.heap.size < g' := hg.elim (fun e => (h.bl _ e).1) (fun e => by omega)
  have hc : ∀ j u, (rcells vl (.slice none 0 0) (new k) 0 0)[j]? = some u → W7.cell? ⟨w.heap.size, j, none⟩ = some u := fun j u hu => by
    have := (World.cell?_of_block (a := ⟨w.heap.size, 0 + j, none⟩) br).trans (h.cells j u hu)
    rwa [Nat.zero_add] at this
  have f0 := (h.room 0 (by decide)).2
  refine ⟨hc 0 _ rfl, (World.frozen?_of_block (a := ⟨w.heap.size, 0, none⟩) br).trans f0, ?_⟩
  refine ⟨fun j u hu => ?_, there_setCell (there_block h.room br) _ _, ?_, fun b hb' => ?_, ?_, by simp; omega⟩
  · rw [Nat.zero_add]
    by_cases hj : j = 0
    · subst hj
      cases hu
      exact World.cell?_setCell_same _ _ _ (hc 0 _ rfl)
    · rw [World.cell?_setCell_other _ _ _ _ (by intro e'; simp at e'; first | done | omega)]
      refine hc j u ?_
      rw [← hu]
      unfold rcells
      match j, hj with
      | j + 1, _ => rfl
  · rw [← strs_zero]
    exact ownsRow_block hrow (fun b hb' => Below.heap_setCell _ _ _ _ (fun e => by cases hb'; simp at e; omega))
  · cases hb'; exact ⟨hg2, by simpa using hlt⟩
  · have hb7 : Below w.heap.size w W7 := o7.below h.below (fun b hb' => Nat.le_of_lt (h.bl b hb').1) (Nat.le_refl _)
    exact hb7.setCell (Nat.le_refl _) _

theorem newR_done {w wr : World} {vl : Value} {n : Nat} (h1 : 16 ≤ n) (h2 : n ≤ 512) (h : NewR w wr vl n) : RefAt wr (fun k => w.heap.size ≤ k) w.heap.size (new n) := by
  have hL : (new n).L.length = n := by simp [new]
  refine ⟨vl, .slice none 0 0, 0, 0, ⟨h.cells, h.room, by rw [hL]; exact h.row, World.ownsRow_nil _ _ _ _, fun _ _ e => (by cases e), by decide, new_ok h1 h2, h.lt, fun b hb => ⟨(h.bl b hb).2, (by have := (h.bl b hb).1; omega), fun e => (by cases e)⟩, fun b hb => (by cases hb)⟩, Nat.le_refl _, fun b hb => (by have := (h.bl b hb).1; omega), fun b hb => (by cases hb)⟩

set_option maxHeartbeats 2000000 in
set_option maxRecDepth 100000 in
theorem ref_new_ok (n : Nat) (h1 : 16 ≤ n) (h2 : n ≤ 512) (w : World) :
    Calls Try.prog 10 #[.int .i64 (n : Int)] w fun e w' => e = .returned (.tuple #[.pointer (some ⟨w.heap.size, 0, none⟩), .int .i64 0]) ∧ RefAt w' (fun k => w.heap.size ≤ k) w.heap.size (new n) ∧ Below w.heap.size w w' := by
  have HW0 := Lib.hid (newR_zero w 39)
  replace HW0 : Hid (NewR w (w.alloc (.cells #[.slice none 0 0, .slice none 0 0, .bool false, .int .i64 0, .bool false, .int .i64 0, .int .u64 0] 39)) (.slice none 0 0) 0) := HW0
  have t0 : decide ((n : Int) < 16) = false := decide_eq_false (by omega)
  have t1 : decide ((512 : Int) < (n : Int)) = false := decide_eq_false (by omega)
  have t2 : decide (n < 16) = false := decide_eq_false (by omega)
  have t3 : decide (512 < n) = false := decide_eq_false (by omega)
  go_enter Try.func10, Try.ntmps10
  go_wp2
  clear t0 t1 t2 t3
  obtain ⟨i0, hi0, hy0, hy1, hy2⟩ := info_parts str_info2
  go_loopw [5] (fun vi wr => ∃ (k : Nat) (vl : Value), k ≤ n ∧ vi = .int .i64 k ∧ Hid (NewR w wr vl k)) (fun vi _ => n - (intOf vi).toNat)
  case atStart => exact ⟨0, _, Nat.zero_le _, rfl, HW0⟩
  case round =>
    clear HW0
    obtain ⟨k, vl, hk, rfl, hI⟩ := hrel
    by_cases hkn : k < n
    · have z1 : (k : Int) < (n : Int) := by omega
      have z2 : (n : Int) ≤ 512 := by omega
      have c0 : wr.cell? ⟨w.heap.size, 0, none⟩ = some vl := by have := hI.out.cells 0 _ rfl; rwa [Nat.zero_add] at this
      have C0 : Hid (∀ W1, Below wr.heap.size wr.drew W1 → W1.cell? ⟨w.heap.size, 0, none⟩ = some vl) := Lib.hid (fun W1 hb => (hb.cell (p := ⟨w.heap.size, 0, none⟩) hI.out.lt).trans c0)
      have CA : Hid (∀ W1, Below wr.heap.size wr.drew W1 → ∀ o, (W1.alloc o).cell? ⟨w.heap.size, 0, none⟩ = some vl) := Lib.hid (fun W1 hb o => (World.cell?_of_block (a := ⟨w.heap.size, 0, none⟩) (Below.heap_alloc W1 _ _ (Nat.lt_of_lt_of_le hI.out.lt hb.size))).trans (C0.out W1 hb))
      have HROW : Hid (∀ W1 o, Below wr.heap.size wr.drew W1 → (W1.alloc o).ownsRow 0 9 1 vl k (strs (List.replicate k zeroB))) := Lib.hid (fun W1 o hb => World.ownsRow.alloc (ownsRow_block hI.out.row (fun b hb' => hb.block b (hI.out.bl b hb').2)) _)
      have HN := Lib.hid (fun W1 : World => news_at W1 #[.string (strOf zeroB)] 9)
      have HST : Hid (∀ (W1 W7 : World) (g' cap : Nat) (o : Obj), Below wr.heap.size wr.drew W1 → W7.ownsRow 0 9 1 (.slice (some ⟨g', 0, none⟩) (k + 1) cap) (k + 1) (strs (List.replicate k zeroB) ++ [.string (strOf zeroB)]) → (W1.alloc o).grownBy W7 vl.ownBlock → (vl.ownBlock = some g' ∨ g' = W1.heap.size + 1) → g' < W7.heap.size → _) := Lib.hid (fun W1 W7 g' cap o hb hrow hgr hg hlt => newR_step hI.out (W1 := W1) ⟨hb.os, hb.tape, hb.output, hb.size, hb.block⟩ hrow hgr hg hlt)
      have T1 : Hid (k + 1 ≤ maxLen) := Lib.hid (by unfold maxLen; omega)
      have T2 : Hid ((k + 1) * 16 ≤ 140737488355328) := Lib.hid (by omega)
      go_wp2_with fail
      go_region_law (first
        | (refine step_append_lies _ (by rfl) (.tmp 24) (.tmp 26) 36 (by rfl) 0 9 i0 (.string ByteArray.empty) 1 16 Try.underlying36 hi0 hy0 hy1 hy2 (by rfl) (by decide) vl k (strs (List.replicate k zeroB)) (by rfl) (by exact HROW.out _ _ hb1) ⟨_, 0, none⟩ 1 1 [.string (strOf zeroB)] (by rfl) (by rfl) (by exact HN.out _) (by simp [Value.oneCell']) (by decide) T1.out T2.out (Nat.zero_le _) _ (by rfl) ?_; intro g' cap W7 hrow hgr hgl hlt7; obtain ⟨c7, f7, h7⟩ := HST.out _ _ _ _ _ hb1 hrow hgr (by simpa using hgl) hlt7)
        | (go_simp; go_at_call 24; refine (ref_zero _).mono ?_; rintro e W1 ⟨rfl, hb1⟩; have c1 := C0.out W1 hb1; have c1a := CA.out W1 hb1))
      all_goals
        have HN7 := Lib.hid h7
        clear hrow hgr hgl hlt7 h7 c7 f7 c1 c1a
        go_wp2
        go_roundw
        case rel => exact ⟨k + 1, _, by omega, by go_num, HN7⟩
        case measure => simp [intOf]; omega
    · obtain rfl : k = n := by omega
      have HZ := Lib.hid (And.intro (newR_done h1 h2 hI.out) hI.out.below)
      clear hI
      go_wp2
      go_ret2
      exact ⟨rfl, HZ.out⟩

end Go.Proofs.Ythddiijnomhpfaa.Dk
