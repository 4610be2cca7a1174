/- The walks of Full and of chrysalislaw04.known: the latter returns true. No condition but those that each states. -/
import Derived.Test.YtmnbkopfmhdijaaDkK
import Derived.Test.YtmnbkopfmhdijaaDkAx
namespace Go.Proofs.Ytmnbkopfmhdijaa.Dk
open Go.RowKit

variable {w0 : World} {F : Nat → Prop} {g : Nat} {S : DS}

theorem ops_at (w : World) (h : DiskAt w F g S) : Calls Try.prog 11 #[.pointer (some ⟨g, 0, none⟩)] w fun e w' => e = .returned (.int .i64 (S.ops : Int)) ∧ w = w' := ops_yes g S.ops w h.self h.ops

theorem waits_at (w : World) (h : DiskAt w F g S) : Calls Try.prog 12 #[.pointer (some ⟨g, 0, none⟩)] w fun e w' => e = .returned (.int .i64 (S.W.length : Int)) ∧ w = w' := by
  obtain ⟨a, c, hp⟩ := h.pend
  exact waits_yes g _ c a w h.self hp

theorem blocks_at (w : World) (h : DiskAt w F g S) : Calls Try.prog 13 #[.pointer (some ⟨g, 0, none⟩)] w fun e w' => e = .returned (.int .i64 (S.L.length : Int)) ∧ w = w' := by
  obtain ⟨a, c, hp⟩ := h.dur
  exact blocks_yes g _ c a w h.self hp

/-- A block of one byte. -/
def fullB (c : UInt8) : Bytes := List.replicate 64 c

theorem fullB_length (c : UInt8) : (fullB c).length = 64 := by simp [fullB]

structure FullW (w wr : World) (c : UInt8) (j : Nat) : Prop where
  row : ∀ i, i < 64 → wr.cell? ⟨w.heap.size, i, none⟩ = some (.int .u8 (if i < j then (c.toNat : Int) else 0))
  free : ∀ i, i < 64 → wr.frozen? ⟨w.heap.size, i, none⟩ = false
  below : Below w.heap.size w wr

theorem FullW.put {w wr : World} {c : UInt8} {j : Nat} (h : FullW w wr c j) (hj : j < 64) : FullW w (wr.setCell ⟨w.heap.size, j, none⟩ (.int .u8 (c.toNat : Int))) c (j + 1) := by
  refine ⟨fun i hi => ?_, fun i hi => by simpa using h.free i hi, h.below.setCell (by simp) _⟩
  by_cases e : i = j
  · subst e; rw [World.cell?_setCell_same _ _ _ (h.row i hi), if_pos (Nat.lt_succ_self i)]
  · rw [World.cell?_setCell_other _ _ _ _ (by intro e'; simp at e'; first | done | exact e e'.symm), h.row i hi]
    by_cases h2 : i < j
    · rw [if_pos h2, if_pos (by omega)]
    · rw [if_neg h2, if_neg (by omega)]

set_option maxHeartbeats 1000000 in
set_option maxRecDepth 100000 in
theorem full_any (c : UInt8) (w : World) :
    Calls Try.prog 15 #[.int .u8 (c.toNat : Int)] w fun e w' => e = .returned (.string (strOf (fullB c))) ∧ Below w.heap.size w w' := by
  have hmk := make64
  have HW0 : Hid (FullW w (w.alloc (.cells (List.replicate 64 (.int .u8 0)).toArray 5)) c 0) := Lib.hid ⟨fun i hi => by
      have := range_new w (List.replicate 64 (Value.int .u8 0)) 5 i (.int .u8 0) (by rw [List.getElem?_replicate, if_pos hi])
      rw [Nat.zero_add] at this
      rw [this, if_neg (Nat.not_lt_zero i)], fun i hi => by
      have := (there_new w (List.replicate 64 (Value.int .u8 0)).toArray 5 i (by simpa using hi)).2
      rwa [Nat.zero_add] at this, (Below.refl _ _).alloc (Nat.le_refl _) _⟩
  generalize (List.replicate 64 (Value.int .u8 0)).toArray = Z at hmk HW0
  go_enter Try.func15, Try.ntmps15
  go_wp2
  go_loopw [4] (fun vi wr => ∃ j : Nat, j ≤ 64 ∧ vi = .int .i64 j ∧ Hid (FullW w wr c j)) (fun vi _ => 64 - (intOf vi).toNat)
  case atStart => exact ⟨0, Nat.zero_le _, rfl, HW0⟩
  case round =>
    clear HW0 hmk
    obtain ⟨j, hj, rfl, hW⟩ := hrel
    by_cases hlt : j < 64
    · have ca := hW.out.row j hlt
      have fa := hW.out.free j hlt
      have HP := Lib.hid (hW.out.put hlt)
      rw [if_neg (Nat.lt_irrefl j)] at ca
      go_wp2
      clear ca fa
      go_roundw
      case rel => exact ⟨j + 1, by omega, by go_num, HP⟩
      case measure => simp [intOf]; omega
    · obtain rfl : j = 64 := by omega
      have hcv := convert_range (P := Try.prog) (w := wr) (src := 42) (dst := 9) w.heap.size 0 64 64 (fullB c) Try.underlying42 Try.underlying5 Try.underlying9 (fullB_length c) (fun i v hv => by
        have hi : i < 64 := by have := (List.getElem?_eq_some_iff.1 hv).1; simpa [bv, fullB] using this
        rw [Nat.zero_add, hW.out.row i hi, if_pos hi, ← hv, fullB, bv_rep, List.getElem?_replicate, if_pos hi])
      go_wp2
      go_ret
      exact ⟨rfl, hW.out.below⟩

def k1 : DS := ((new 16).write 3 (fullB 97)).1

def k2 : DS := (k1.write 3 (fullB 98)).1

def k3 : DS := k2.fail 1

def k4 : DS := k3.start

def k5 : DS := k4.plan 1 0

def k6 : DS := (k5.write 4 (fullB 97)).1

def k7 : DS := k6.sync.1

set_option maxHeartbeats 2000000 in
set_option maxRecDepth 100000 in
theorem known4 (w : World) : Calls Try.prog 14 #[] w fun e w' => e = .returned (.bool true) ∧ Below w.heap.size w w' := by
  obtain ⟨A, hA⟩ : ∃ A, A = strOf (fullB 97) := ⟨_, rfl⟩
  obtain ⟨B, hB⟩ : ∃ B, B = strOf (fullB 98) := ⟨_, rfl⟩
  have C1 : ∀ W, Dk w W (fun k => w.heap.size ≤ k) (w.heap.size + 2) (new 16) → Calls Try.prog 16 #[.pointer (some ⟨w.heap.size + 2, 0, none⟩), .int .i64 3, .string A] W fun e w' => e = .returned (.int .i64 0) ∧ Dk w w' (fun k => w.heap.size ≤ k) (w.heap.size + 2) k1 :=
    fun W h => by subst hA; exact (dk_write 3 (fullB 97) W h rfl (by decide) (fullB_length _) (by decide) (by decide)).mono fun _ _ ⟨a, b, _⟩ => ⟨a, b⟩
  have c1 := Lib.hid C1
  clear C1
  have C2 : ∀ W, Dk w W (fun k => w.heap.size ≤ k) (w.heap.size + 2) k1 → Calls Try.prog 16 #[.pointer (some ⟨w.heap.size + 2, 0, none⟩), .int .i64 3, .string B] W fun e w' => e = .returned (.int .i64 0) ∧ Dk w w' (fun k => w.heap.size ≤ k) (w.heap.size + 2) k2 :=
    fun W h => by subst hB; exact (dk_write 3 (fullB 98) W h rfl (by decide) (fullB_length _) (by decide) (by decide)).mono fun _ _ ⟨a, b, _⟩ => ⟨a, b⟩
  have c2 := Lib.hid C2
  clear C2
  have C3 : ∀ W, Dk w W (fun k => w.heap.size ≤ k) (w.heap.size + 2) k2 → Calls Try.prog 19 #[.pointer (some ⟨w.heap.size + 2, 0, none⟩), .int .u64 1] W fun e w' => e = .returned (.tuple #[]) ∧ Dk w w' (fun k => w.heap.size ≤ k) (w.heap.size + 2) k3 :=
    fun W h => (dk_fail 1 W h (by decide) (by decide)).mono fun _ _ ⟨a, b, _⟩ => ⟨a, b⟩
  have c3 := Lib.hid C3
  clear C3
  have C4 : ∀ W, Dk w W (fun k => w.heap.size ≤ k) (w.heap.size + 2) k3 → Calls Try.prog 20 #[.pointer (some ⟨w.heap.size + 2, 0, none⟩)] W fun e w' => e = .returned (.tuple #[]) ∧ Dk w w' (fun k => w.heap.size ≤ k) (w.heap.size + 2) k4 :=
    fun W h => (dk_start W h).mono fun _ _ ⟨a, b, _⟩ => ⟨a, b⟩
  have c4 := Lib.hid C4
  clear C4
  have C5 : ∀ W, Dk w W (fun k => w.heap.size ≤ k) (w.heap.size + 2) k4 → Calls Try.prog 18 #[.pointer (some ⟨w.heap.size + 2, 0, none⟩), .int .i64 3] W fun e w' => e = .returned (.tuple #[.string A, .int .i64 0]) ∧ Dk w w' (fun k => w.heap.size ≤ k) (w.heap.size + 2) k4 :=
    fun W h => by subst hA; exact (dk_read 3 W h rfl (by decide) (by decide)).mono fun _ _ ⟨a, b, _⟩ => ⟨a, b⟩
  have c5 := Lib.hid C5
  clear C5
  have C6 : ∀ W, Dk w W (fun k => w.heap.size ≤ k) (w.heap.size + 2) k4 → Calls Try.prog 21 #[.pointer (some ⟨w.heap.size + 2, 0, none⟩), .int .i64 1, .int .u64 0] W fun e w' => e = .returned (.int .i64 0) ∧ Dk w w' (fun k => w.heap.size ≤ k) (w.heap.size + 2) k5 :=
    fun W h => (dk_cut 1 0 W h (by decide) (by decide)).mono fun _ _ ⟨a, b, _⟩ => ⟨a, b⟩
  have c6 := Lib.hid C6
  clear C6
  have C7 : ∀ W, Dk w W (fun k => w.heap.size ≤ k) (w.heap.size + 2) k5 → Calls Try.prog 16 #[.pointer (some ⟨w.heap.size + 2, 0, none⟩), .int .i64 4, .string A] W fun e w' => e = .returned (.int .i64 0) ∧ Dk w w' (fun k => w.heap.size ≤ k) (w.heap.size + 2) k6 :=
    fun W h => by subst hA; exact (dk_write 4 (fullB 97) W h rfl (by decide) (fullB_length _) (by decide) (by decide)).mono fun _ _ ⟨a, b, _⟩ => ⟨a, b⟩
  have c7 := Lib.hid C7
  clear C7
  have C8 : ∀ W, Dk w W (fun k => w.heap.size ≤ k) (w.heap.size + 2) k6 → Calls Try.prog 17 #[.pointer (some ⟨w.heap.size + 2, 0, none⟩)] W fun e w' => e = .returned (.int .i64 7) ∧ Dk w w' (fun k => w.heap.size ≤ k) (w.heap.size + 2) k7 :=
    fun W h => (dk_sync W h rfl (by decide) (by decide)).mono fun _ _ ⟨a, b, _⟩ => ⟨a, b⟩
  have c8 := Lib.hid C8
  clear C8
  have CA : ∀ W, Calls Try.prog 15 #[.int .u8 97] W fun e w' => e = .returned (.string A) ∧ Below W.heap.size W w' := by subst hA; exact full_any 97
  have CB : ∀ W, Calls Try.prog 15 #[.int .u8 98] W fun e w' => e = .returned (.string B) ∧ Below W.heap.size W w' := by subst hB; exact full_any 98
  have ca := Lib.hid CA
  have cb := Lib.hid CB
  clear CA CB hA hB
  go_enter Try.func14, Try.ntmps14
  go_wp2_with fail
  refine (new_dk 16 (by decide) (by decide) w).mono ?_
  rintro e w1 ⟨rfl, hb⟩
  have H1 := Lib.hid hb
  clear hb
  go_wp2_with fail
  refine (new_bad 15 (by decide) w1).mono ?_
  rintro e w2 ⟨rfl, rfl⟩
  go_wp2_with fail
  refine (ca.out w1).mono ?_
  rintro e w3 ⟨rfl, hb⟩
  have H3 := Lib.hid (H1.out.later hb)
  clear hb
  go_wp2_with fail
  refine (c1.out w3 H3.out).mono ?_
  rintro e w4 ⟨rfl, hb⟩
  have H4 := Lib.hid hb
  clear hb
  go_wp2_with fail
  refine (cb.out w4).mono ?_
  rintro e w5 ⟨rfl, hb⟩
  have H5 := Lib.hid (H4.out.later hb)
  clear hb
  go_wp2_with fail
  refine (c2.out w5 H5.out).mono ?_
  rintro e w6 ⟨rfl, hb⟩
  have H6 := Lib.hid hb
  clear hb
  go_wp2_with fail
  refine (c3.out w6 H6.out).mono ?_
  rintro e w7 ⟨rfl, hb⟩
  have H7 := Lib.hid hb
  clear hb
  go_wp2_with fail
  refine (on_at w7 H7.out.here).mono ?_
  rintro e w8 ⟨rfl, rfl⟩
  go_wp2_with fail
  refine (c4.out w7 H7.out).mono ?_
  rintro e w9 ⟨rfl, hb⟩
  have H9 := Lib.hid hb
  clear hb
  go_wp2_with fail
  refine (c5.out w9 H9.out).mono ?_
  rintro e w10 ⟨rfl, hb⟩
  have H10 := Lib.hid hb
  clear hb
  go_wp2_with fail
  refine (c6.out w10 H10.out).mono ?_
  rintro e w11 ⟨rfl, hb⟩
  have H11 := Lib.hid hb
  clear hb
  go_wp2_with fail
  refine (c7.out w11 H11.out).mono ?_
  rintro e w12 ⟨rfl, hb⟩
  have H12 := Lib.hid hb
  clear hb
  go_wp2_with fail
  refine (c8.out w12 H12.out).mono ?_
  rintro e w13 ⟨rfl, hb⟩
  have H13 := Lib.hid hb
  clear hb
  have hon3 : k3.on = false := rfl
  have hon7 : k7.on = false := rfl
  have hbl7 : ((k7.L.length : Nat) : Int) = 16 := rfl
  rw [hon3]
  go_wp2_with fail
  refine (on_at w13 H13.out.here).mono ?_
  rintro e w14 ⟨rfl, rfl⟩
  rw [hon7]
  go_wp2_with fail
  refine (blocks_at w13 H13.out.here).mono ?_
  rintro e w15 ⟨rfl, rfl⟩
  rw [hbl7]
  go_wp2
  go_ret
  exact ⟨rfl, H13.out.below⟩

end Go.Proofs.Ytmnbkopfmhdijaa.Dk
