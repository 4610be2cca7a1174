/- The walk of chrysalislaw06.known: it returns true. No condition but those that each states. -/
import Derived.Test.YthddiijnomhpfaaSlE
namespace Go.Proofs.Ythddiijnomhpfaa.Sl
open Go.RowKit Dk

variable {w0 : World} {F : Nat → Prop} {g : Nat} {S : DS}

theorem dk_sw (slot : Int) (s : ByteArray) (w : World) (h : Dk w0 w F g S) (hc : S.c + 1000 ≤ 2 ^ 40) (ho : S.ops + 1000 ≤ 2 ^ 40) :
    Calls Try.prog 19 #[.pointer (some ⟨g, 0, none⟩), .int .i64 slot, .string s] w fun e w' => e = .returned (.int .i64 (DS.sw S slot s).2) ∧ Dk w0 w' F g (DS.sw S slot s).1 ∧ Only F w w' :=
  (d_sw slot s w h.here hc ho).mono fun _ _ ⟨a, b, c⟩ => ⟨a, h.next b c, c⟩

theorem dk_sr (slot size : Int) (w : World) (h : Dk w0 w F g S) (hc : S.c ≤ 2 ^ 40) :
    Calls Try.prog 22 #[.pointer (some ⟨g, 0, none⟩), .int .i64 slot, .int .i64 size] w fun e w' => e = .returned (.tuple #[.string (DS.sr S slot size).1, .int .i64 (DS.sr S slot size).2]) ∧ Dk w0 w' F g S ∧ Below w.heap.size w w' :=
  (d_sr slot size w h.here hc).mono fun _ _ ⟨a, b⟩ => ⟨a, h.later b, b⟩

theorem ops_at (w : World) (h : DiskAt w F g S) : Calls Try.prog 13 #[.pointer (some ⟨g, 0, none⟩)] w fun e w' => e = .returned (.int .i64 (S.ops : Int)) ∧ w = w' := by
  obtain ⟨gd, cd, gm, vp, D, h, _⟩ := h
  exact ops_yes g S.ops w h.self h.ops

/-- The text "ab". -/
def tAB : ByteArray := ⟨#[97, 98]⟩
def k1 : DS := (DS.sw (new 16) 1 tAB).1

theorem k1_sw : DS.sw (new 16) 1 tAB = (k1, 0) := by kernel_rfl
theorem k1_sr : DS.sr k1 1 2 = (tAB, 0) := by kernel_rfl
theorem k1_rd : DS.rd k1 12 = (strOf (blkOf [97, 98] 0), 0) := by kernel_rfl
theorem k1_bad : DS.sw k1 2 ⟨#[97]⟩ = (k1, 1) := by kernel_rfl
theorem k1_room : 64 * each k1 = 256 := by kernel_rfl
theorem k1_few : k1.c + 1000 ≤ 2 ^ 40 ∧ k1.ops + 1000 ≤ 2 ^ 40 := by decide

theorem k1_blk : (strOf (blkOf [97, 98] 0)).size = 64 ∧ (strOf (blkOf [97, 98] 0)).extract 0 3 = ⟨#[97, 98, 0]⟩ := ⟨by kernel_rfl, by kernel_rfl⟩

set_option maxHeartbeats 2000000 in
set_option maxRecDepth 100000 in
theorem known6 (w : World) : Calls Try.prog 18 #[] w fun e w' => e = .returned (.bool true) ∧ Below w.heap.size w w' := by
  have C1 : Hid (∀ W, Dk w W (fun k => w.heap.size ≤ k) (w.heap.size + 2) (new 16) → Calls Try.prog 19 #[.pointer (some ⟨w.heap.size + 2, 0, none⟩), .int .i64 1, .string ⟨#[97, 98]⟩] W fun e w' => e = .returned (.int .i64 0) ∧ Dk w w' (fun k => w.heap.size ≤ k) (w.heap.size + 2) k1) :=
    Lib.hid (fun W h => by
      have := dk_sw 1 tAB W h (by decide) (by decide)
      rw [k1_sw] at this
      exact this.mono fun _ _ ⟨a, b, _⟩ => ⟨a, b⟩)
  have C2 : Hid (∀ W, Dk w W (fun k => w.heap.size ≤ k) (w.heap.size + 2) k1 → Calls Try.prog 22 #[.pointer (some ⟨w.heap.size + 2, 0, none⟩), .int .i64 1, .int .i64 2] W fun e w' => e = .returned (.tuple #[.string ⟨#[97, 98]⟩, .int .i64 0]) ∧ Dk w w' (fun k => w.heap.size ≤ k) (w.heap.size + 2) k1) :=
    Lib.hid (fun W h => by
      have := dk_sr 1 2 W h (by decide)
      rw [k1_sr] at this
      exact this.mono fun _ _ ⟨a, b, _⟩ => ⟨a, b⟩)
  obtain ⟨B, hB⟩ : ∃ B, B = strOf (blkOf [97, 98] 0) := ⟨_, rfl⟩
  have C3 : Hid (∀ W, Dk w W (fun k => w.heap.size ≤ k) (w.heap.size + 2) k1 → Calls Try.prog 16 #[.pointer (some ⟨w.heap.size + 2, 0, none⟩), .int .i64 12] W fun e w' => e = .returned (.tuple #[.string B, .int .i64 0]) ∧ Dk w w' (fun k => w.heap.size ≤ k) (w.heap.size + 2) k1) :=
    Lib.hid (fun W h => by
      have := d_read 12 W h.here (by decide)
      rw [k1_rd, ← hB] at this
      exact this.mono fun _ _ ⟨a, b⟩ => ⟨a, h.later b⟩)
  have C4 : Hid (∀ W, Dk w W (fun k => w.heap.size ≤ k) (w.heap.size + 2) k1 → Calls Try.prog 14 #[.pointer (some ⟨w.heap.size + 2, 0, none⟩)] W fun e w' => e = .returned (.int .i64 256) ∧ W = w') :=
    Lib.hid (fun W h => by
      have := room_disk W h.here
      rw [k1_room] at this
      exact this)
  have C5 : Hid (∀ W, Dk w W (fun k => w.heap.size ≤ k) (w.heap.size + 2) k1 → Calls Try.prog 19 #[.pointer (some ⟨w.heap.size + 2, 0, none⟩), .int .i64 2, .string ⟨#[97]⟩] W fun e w' => e = .returned (.int .i64 1) ∧ W = w') :=
    Lib.hid (fun W h => swrite_bad 2 ⟨#[97]⟩ W h.here rfl)
  have C6 : Hid (∀ W, Calls Try.prog 14 #[.pointer none] W fun e w' => e = .returned (.int .i64 0) ∧ W = w') :=
    Lib.hid (fun W => room_any none 0 (by decide) W (has_no (.inl rfl)))
  have hb1 : B.size = 64 := by rw [hB]; exact k1_blk.1
  have hb2 : B.extract 0 3 = ⟨#[97, 98, 0]⟩ := by rw [hB]; exact k1_blk.2
  clear hB
  go_enter Try.func18, Try.ntmps18
  go_wp2_with fail
  refine (new_dk 16 (by decide) (by decide) w).mono ?_
  rintro e w1 ⟨rfl, hb⟩
  have H1 := Lib.hid hb
  clear hb
  go_wp2_with fail
  refine (C1.out w1 H1.out).mono ?_
  rintro e w2 ⟨rfl, hb⟩
  have H2 := Lib.hid hb
  clear hb H1
  go_wp2_with fail
  refine (C2.out w2 H2.out).mono ?_
  rintro e w3 ⟨rfl, hb⟩
  have H3 := Lib.hid hb
  clear hb H2
  go_wp2_with fail
  refine (C3.out w3 H3.out).mono ?_
  rintro e w4 ⟨rfl, hb⟩
  have H4 := Lib.hid hb
  clear hb H3
  go_wp2_with fail
  refine (C4.out w4 H4.out).mono ?_
  rintro e w5 ⟨rfl, rfl⟩
  go_wp2_with fail
  refine (C5.out w4 H4.out).mono ?_
  rintro e w5 ⟨rfl, rfl⟩
  go_wp2_with fail
  refine (C6.out w4).mono ?_
  rintro e w5 ⟨rfl, rfl⟩
  go_wp2
  go_ret
  exact ⟨rfl, H4.out.below⟩

end Go.Proofs.Ythddiijnomhpfaa.Sl
