/- The walks of blocksPerSlot, Room, check, firstBlock, blocksFor and blockOf: their contracts. No condition but those that each states. -/
import Derived.Test.YthddiijnomhpfaaSlP
import Derived.Test.YthddiijnomhpfaaDkAy
namespace Go.Proofs.Ythddiijnomhpfaa.Sl
open Go.RowKit Dk

/-- Blocks of it answers n. -/
def Has (p : Option Addr) (n : Nat) (w : World) : Prop := Calls Try.prog 46 #[.pointer p] w fun e w' => e = .returned (.int .i64 (n : Int)) ∧ w = w'

theorem has_no {p : Option Addr} {w : World} (h : NoDisk w p) : Has p 0 w := blocks_no p w h
theorem has_disk {F : Nat → Prop} {g : Nat} {S : DS} {w : World} (h : DiskAt w F g S) : Has (some ⟨g, 0, none⟩) S.L.length w := by
  obtain ⟨a, c, hp⟩ := h.dur
  exact blocks_yes g _ c a w h.self hp

theorem tdiv_per (n : Nat) (hn : n ≤ 512) : wrap64 ((max 0 (wrap64 ((n : Int) - 8))).tdiv 2) = ((per n : Nat) : Int) := by
  have e : wrap64 ((n : Int) - 8) = (n : Int) - 8 := by unfold wrap64; omega
  rw [e, Int.tdiv_eq_ediv_of_nonneg (Int.le_max_left _ _)]
  unfold per wrap64
  omega

set_option maxHeartbeats 400000 in
theorem per_any (p : Option Addr) (n : Nat) (hn : n ≤ 512) (w : World) (h : Has p n w) :
    Calls Try.prog 30 #[.pointer p] w fun e w' => e = .returned (.int .i64 ((per n : Nat) : Int)) ∧ w = w' := by
  have H := Lib.hid (tdiv_per n hn)
  have HC := Lib.hid h
  clear h hn
  go_enter Try.func30, Try.ntmps30
  go_wp2_with fail
  refine HC.out.mono ?_
  rintro e w' ⟨rfl, rfl⟩
  go_wp2
  go_ret
  exact ⟨congrArg (fun x : Int => Ending.returned (.int .i64 x)) H.out, rfl⟩

theorem per_le {n : Nat} (h : n ≤ 512) : per n ≤ 252 := by unfold per; omega

set_option maxHeartbeats 400000 in
theorem room_any (p : Option Addr) (n : Nat) (hn : n ≤ 512) (w : World) (h : Has p n w) :
    Calls Try.prog 14 #[.pointer p] w fun e w' => e = .returned (.int .i64 ((64 * per n : Nat) : Int)) ∧ w = w' := by
  have HC := Lib.hid (per_any p n hn w h)
  have hp := per_le hn
  have H : Hid (wrap64 (((per n : Nat) : Int) * 64) = ((64 * per n : Nat) : Int)) := Lib.hid (by unfold wrap64; omega)
  clear h hn hp
  generalize per n = k at *
  go_enter Try.func14, Try.ntmps14
  go_wp2_with fail
  refine HC.out.mono ?_
  rintro e w' ⟨rfl, rfl⟩
  go_wp2
  go_ret
  exact ⟨congrArg (fun x : Int => Ending.returned (.int .i64 x)) H.out, rfl⟩

set_option maxHeartbeats 400000 in
theorem first_any (p : Option Addr) (n : Nat) (hn : n ≤ 512) (slot : Int) (h0 : badSlot slot = false) (w : World) (h : Has p n w) :
    Calls Try.prog 35 #[.pointer p, .int .i64 slot] w fun e w' => e = .returned (.int .i64 ((8 + slot.toNat * per n : Nat) : Int)) ∧ w = w' := by
  have HC := Lib.hid (per_any p n hn w h)
  have hp := per_le hn
  have H : Hid (wrap64 (8 + wrap64 (slot * ((per n : Nat) : Int))) = ((8 + slot.toNat * per n : Nat) : Int)) := Lib.hid (by
    have h1 := of_decide_eq_false h0
    rcases (show slot = 0 ∨ slot = 1 by omega) with rfl | rfl
    · unfold wrap64; simp
    · unfold wrap64; simp; omega)
  clear h hn hp h0
  generalize per n = k at *
  go_enter Try.func35, Try.ntmps35
  go_wp2_with fail
  refine HC.out.mono ?_
  rintro e w' ⟨rfl, rfl⟩
  go_wp2
  go_ret
  exact ⟨congrArg (fun x : Int => Ending.returned (.int .i64 x)) H.out, rfl⟩

set_option maxHeartbeats 400000 in
theorem bfor_any (n : Nat) (hn : n ≤ 2 ^ 40) (w : World) :
    Calls Try.prog 36 #[.int .i64 (n : Int)] w fun e w' => e = .returned (.int .i64 ((nb n : Nat) : Int)) ∧ w = w' := by
  have H : Hid (wrap64 ((wrap64 (wrap64 ((n : Int) + 64) - 1)).tdiv 64) = ((nb n : Nat) : Int)) := Lib.hid (by
    have e1 : wrap64 ((n : Int) + 64) = (n : Int) + 64 := by unfold wrap64; omega
    have e2 : wrap64 ((n : Int) + 64 - 1) = (n : Int) + 63 := by unfold wrap64; omega
    rw [e1, e2, Int.tdiv_eq_ediv_of_nonneg (by omega)]
    unfold nb wrap64
    omega)
  clear hn
  go_enter Try.func36, Try.ntmps36
  go_wp2
  go_ret
  exact ⟨congrArg (fun x : Int => Ending.returned (.int .i64 x)) H.out, rfl⟩

set_option maxHeartbeats 400000 in
theorem check_no (p : Option Addr) (n : Nat) (h0 : per n = 0) (hn : n ≤ 512) (slot : Int) (w : World) (h : Has p n w) :
    Calls Try.prog 34 #[.pointer p, .int .i64 slot] w fun e w' => e = .returned (.int .i64 16) ∧ w = w' := by
  have HC := per_any p n hn w h
  rw [h0] at HC
  replace HC := Lib.hid HC
  clear h hn h0
  go_enter Try.func34, Try.ntmps34
  go_wp2_with fail
  refine HC.out.mono ?_
  rintro e w' ⟨rfl, rfl⟩
  go_wp2
  go_ret
  exact ⟨rfl, rfl⟩

set_option maxHeartbeats 1000000 in
theorem check_yes (p : Option Addr) (n : Nat) (h0 : 16 ≤ n) (hn : n ≤ 512) (slot : Int) (w : World) (h : Has p n w) :
    Calls Try.prog 34 #[.pointer p, .int .i64 slot] w fun e w' => e = .returned (.int .i64 (if badSlot slot = true then 1 else 0)) ∧ w = w' := by
  have HC := per_any p n hn w h
  have h1 : ¬(((per n : Nat) : Int) = 0) := by unfold per; omega
  have HC := Lib.hid HC
  clear h hn h0
  generalize ((per n : Nat) : Int) = k at *
  have e1 : decide (k = 0) = false := decide_eq_false h1
  by_cases h2 : slot < 0
  · have e2 : decide (slot < 0) = true := decide_eq_true h2
    rw [if_pos (show badSlot slot = true from decide_eq_true (.inl h2))]
    go_enter Try.func34, Try.ntmps34
    go_wp2_with fail
    refine HC.out.mono ?_
    rintro e w' ⟨rfl, rfl⟩
    go_wp2
    go_ret
    exact ⟨rfl, rfl⟩
  · have e2 : decide (slot < 0) = false := decide_eq_false h2
    by_cases h3 : 2 ≤ slot
    · have e3 : decide (2 ≤ slot) = true := decide_eq_true h3
      rw [if_pos (show badSlot slot = true from decide_eq_true (.inr h3))]
      go_enter Try.func34, Try.ntmps34
      go_wp2_with fail
      refine HC.out.mono ?_
      rintro e w' ⟨rfl, rfl⟩
      go_wp2
      go_ret
      exact ⟨rfl, rfl⟩
    · have e3 : decide (2 ≤ slot) = false := decide_eq_false h3
      rw [if_neg (show ¬badSlot slot = true from fun e => (of_decide_eq_true e).elim h2 h3)]
      go_enter Try.func34, Try.ntmps34
      go_wp2_with fail
      refine HC.out.mono ?_
      rintro e w' ⟨rfl, rfl⟩
      go_wp2
      go_ret
      exact ⟨rfl, rfl⟩

end Go.Proofs.Ythddiijnomhpfaa.Sl
