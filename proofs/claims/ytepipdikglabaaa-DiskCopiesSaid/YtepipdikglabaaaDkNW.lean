/- The walks of Count, of Copy at what is no disk, and of DiskNil: the latter returns true. No condition but those that each states. -/
import Derived.Test.YtepipdikglabaaaDkK
namespace Go.Proofs.Ytepipdikglabaaa.Dk
open Go.RowKit

def cnt (n : Int) (m : Nat) : Int := (if n < 0 then -(n + 1) else n) % (m : Int)

theorem cnt_lt (n : Int) (m : Nat) (hm : 0 < m) : 0 ≤ cnt n m ∧ cnt n m < m := by
  unfold cnt
  exact ⟨Int.emod_nonneg _ (by omega), Int.emod_lt_of_pos _ (by omega)⟩

theorem wf_i64 {n : Int} (h : (Lit.int .i64 n).wf = true) : -9223372036854775808 ≤ n ∧ n ≤ 9223372036854775807 := by
  simp [Lit.wf, IntKind.min, IntKind.max, IntKind.signed, IntKind.bits] at h; omega

set_option maxHeartbeats 1000000 in
theorem count_any (n : Int) (m : Nat) (w : World) (hn : (Lit.int .i64 n).wf = true) (hm : 0 < m) (hm2 : m ≤ 1000) :
    Calls Try.prog 24 #[.int .i64 n, .int .i64 (m : Int)] w fun e w' => e = .returned (.int .i64 (cnt n m)) ∧ w = w' := by
  obtain ⟨h1, h2⟩ := wf_i64 hn
  have g0 : (0 : Int) < (m : Int) := by omega
  have g1 : (m : Int) ≤ 1000 := by omega
  by_cases h0 : n < 0
  · have e : Hid (cnt n m = (-(n + 1)) % (m : Int)) := Lib.hid (by unfold cnt; rw [if_pos h0])
    have t0 : decide (n < 0) = true := decide_eq_true h0
    go_enter Try.func24, Try.ntmps24
    go_wp2
    go_ret
    exact ⟨by rw [e.out, ← Int.tmod_eq_emod_of_nonneg (by omega), Int.neg_tmod]; rfl, rfl⟩
  · have e : Hid (cnt n m = n % (m : Int)) := Lib.hid (by unfold cnt; rw [if_neg h0])
    have t0 : decide (n < 0) = false := decide_eq_false h0
    have h3 : 0 ≤ n := by omega
    go_enter Try.func24, Try.ntmps24
    go_wp2
    go_ret
    exact ⟨by rw [e.out]; rfl, rfl⟩

set_option maxHeartbeats 1000000 in
theorem copy_no (p : Option Addr) (w : World) (h : NoDisk w p) :
    Calls Try.prog 25 #[.pointer p] w fun e w' => e = .returned (.pointer none) ∧ w = w' := by
  go_enter Try.func25, Try.ntmps25
  go_wp2_with (go_at_call 33; refine (isValid_no _ _ h).mono ?_; rintro e w' ⟨rfl, rfl⟩)
  go_ret
  exact ⟨rfl, rfl⟩

set_option maxHeartbeats 4000000 in
set_option maxRecDepth 100000 in
theorem diskNil_law (i : Int) (hi : (Lit.int .i64 i).wf = true) (s : ByteArray) (_hs : s.size ≤ maxLen) (m : Int) (hm : (Lit.int .u64 m).wf = true) (w : World) :
    Calls Try.prog 6 #[.int .i64 i, .string s, .int .u64 m] w fun e w' => e = .returned (.bool true) ∧ Below w.heap.size w w' := by
  have CC := fun W => count_any i 9 W hi (by decide) (by decide)
  generalize cnt i 9 = q at CC
  have cc := Lib.hid CC
  clear hi hm CC
  go_enter Try.func6, Try.ntmps6
  go_wp2_with fail
  generalize hW : w.alloc _ = W
  have hB : Below w.heap.size w W := by rw [← hW]; exact (Below.refl _ _).alloc (Nat.le_refl _) _
  have hN : NoDisk W (some ⟨w.heap.size, 0, none⟩) := .inr ⟨_, rfl, by rw [← hW, World.cell?_alloc_mark]; rfl⟩
  have hZ : NoDisk W none := .inl rfl
  have HB := Lib.hid hB
  have HN := Lib.hid hN
  have HZ := Lib.hid hZ
  clear hW hB hN hZ
  refine (fail_no none m W HZ.out).mono ?_
  rintro e w1 ⟨rfl, rfl⟩
  go_wp2_with fail
  refine (start_no none W HZ.out).mono ?_
  rintro e w1 ⟨rfl, rfl⟩
  go_wp2_with fail
  refine (start_no _ W HN.out).mono ?_
  rintro e w1 ⟨rfl, rfl⟩
  go_wp2_with fail
  refine (read_no none i W HZ.out).mono ?_
  rintro e w1 ⟨rfl, rfl⟩
  go_wp2_with fail
  refine (read_no _ i W HN.out).mono ?_
  rintro e w1 ⟨rfl, rfl⟩
  go_wp2_with fail
  refine (write_no none i s W HZ.out).mono ?_
  rintro e w1 ⟨rfl, rfl⟩
  go_wp2_with fail
  refine (write_no _ i s W HN.out).mono ?_
  rintro e w1 ⟨rfl, rfl⟩
  go_wp2_with fail
  refine (sync_no none W HZ.out).mono ?_
  rintro e w1 ⟨rfl, rfl⟩
  go_wp2_with fail
  refine (sync_no _ W HN.out).mono ?_
  rintro e w1 ⟨rfl, rfl⟩
  go_wp2_with fail
  refine (cc.out W).mono ?_
  rintro e w1 ⟨rfl, rfl⟩
  go_wp2_with fail
  refine (cut_no none q m W HZ.out).mono ?_
  rintro e w1 ⟨rfl, rfl⟩
  go_wp2_with fail
  refine (on_no none W HZ.out).mono ?_
  rintro e w1 ⟨rfl, rfl⟩
  go_wp2_with fail
  refine (on_no _ W HN.out).mono ?_
  rintro e w1 ⟨rfl, rfl⟩
  go_wp2_with fail
  refine (ops_no none W HZ.out).mono ?_
  rintro e w1 ⟨rfl, rfl⟩
  go_wp2_with fail
  refine (waits_no none W HZ.out).mono ?_
  rintro e w1 ⟨rfl, rfl⟩
  go_wp2_with fail
  refine (blocks_no none W HZ.out).mono ?_
  rintro e w1 ⟨rfl, rfl⟩
  go_wp2_with fail
  refine (copy_no none W HZ.out).mono ?_
  rintro e w1 ⟨rfl, rfl⟩
  go_wp2_with fail
  refine (copy_no _ W HN.out).mono ?_
  rintro e w1 ⟨rfl, rfl⟩
  go_wp2_with fail
  refine (known4 W).mono ?_
  rintro e w1 ⟨rfl, hb⟩
  have H1 := Lib.hid (chain2 HB.out hb)
  clear hb
  go_wp2
  go_ret
  exact ⟨rfl, H1.out⟩

end Go.Proofs.Ytepipdikglabaaa.Dk
