/- The walk of chrysalisref01.wide and chrysalisref01.Put: their contracts. No condition but those that each states. -/
import Derived.Test.YtkplmaaeggnbgaaDoorOctU
import Derived.Test.YtkplmaaeggnbgaaDoorDgU
import Derived.Deep.AppendLies
namespace Go.Proofs.YtkplmaaeggnbgaaDoor
open Go.RowKit

set_option maxHeartbeats 400000 in
theorem wide_any (n : Int) (w : World) : Calls Tryd.prog 98 #[.int .i64 n] w fun e w' => e = .returned (.bool (wideB n)) ∧ w = w' := by
  by_cases h1 : n = 1
  · subst h1
    go_enter Tryd.func98, Tryd.ntmps98
    go_wp2
    go_ret
    exact ⟨rfl, rfl⟩
  by_cases h2 : n = 2
  · subst h2
    go_enter Tryd.func98, Tryd.ntmps98
    go_wp2
    go_ret
    exact ⟨rfl, rfl⟩
  by_cases h4 : n = 4
  · subst h4
    go_enter Tryd.func98, Tryd.ntmps98
    go_wp2
    go_ret
    exact ⟨rfl, rfl⟩
  by_cases h8 : n = 8
  · subst h8
    go_enter Tryd.func98, Tryd.ntmps98
    go_wp2
    go_ret
    exact ⟨rfl, rfl⟩
  have e1 : (n == 1) = false := beq_eq_false_iff_ne.2 h1
  have e2 : (n == 2) = false := beq_eq_false_iff_ne.2 h2
  have e4 : (n == 4) = false := beq_eq_false_iff_ne.2 h4
  have e8 : (n == 8) = false := beq_eq_false_iff_ne.2 h8
  have hw : wideB n = false := by simp [wideB, e1, e2, e4, e8]
  rw [hw]
  clear h1 h2 h4 h8 hw
  go_enter Tryd.func98, Tryd.ntmps98
  go_wp2
  go_ret
  exact ⟨rfl, rfl⟩

set_option maxHeartbeats 400000 in
theorem rput_wide (n k : Int) (w : World) (hk : wideB k = false) :
    Calls Tryd.prog 84 #[.int .i64 n, .int .i64 k] w fun e w' => e = .returned (.tuple #[.string ⟨#[]⟩, .int .i64 1]) ∧ w = w' := by
  go_enter Tryd.func84, Tryd.ntmps84
  go_wp2_with (first | (go_at_call 98; refine (wide_any _ _).mono ?_; rintro e w' ⟨rfl, rfl⟩))
  go_ret2
  exact ⟨rfl, rfl⟩

set_option maxHeartbeats 800000 in
theorem rput_fits (n k : Int) (w : World) (hk : wideB k = true) (hf : fitsB n k = false) :
    Calls Tryd.prog 84 #[.int .i64 n, .int .i64 k] w fun e w' => e = .returned (.tuple #[.string ⟨#[]⟩, .int .i64 1]) ∧ Below w.heap.size w w' := by
  rcases wide_cases hk with rfl | rfl | rfl | rfl
  all_goals simp [fitsB] at hf
  all_goals
    by_cases h0 : n < 0
    all_goals
      go_enter Tryd.func84, Tryd.ntmps84
      go_wp2_with (first | (go_at_call 98; refine (wide_any _ _).mono ?_; rintro e w' ⟨rfl, rfl⟩))
      go_ret2
      exact ⟨rfl, (Below.refl _ _).alloc (Nat.le_refl _) _⟩

theorem rput_row (u j y : Nat) (hy : u / 256 ^ j = y) : bv (Lib.leBytes (j + 1) u) = bv (Lib.leBytes j u) ++ [.int .u8 ((y : Int) % 256)] := by
  rw [leBytes_snoc, bv_append, hy]
  simp only [bv, List.map_cons, List.map_nil]
  rw [Lib.toUInt8_mod, Int.natCast_emod]
  rfl

set_option maxHeartbeats 2000000 in
set_option maxRecDepth 100000 in
theorem rput_ok (n k : Int) (w : World) (hk : wideB k = true) (hf : fitsB n k = true) :
    Calls Tryd.prog 84 #[.int .i64 n, .int .i64 k] w fun e w' => e = .returned (.tuple #[.string ⟨(Lib.leBytes k.toNat (u64 n)).toArray⟩, .int .i64 0]) ∧ Below w.heap.size w w' := by
  obtain ⟨i0, hi, hz0, hz1, hz2⟩ := info_parts Tryd.info5
  have hu := u64_lt n
  have hun := u64_cast n
  obtain ⟨u, hu'⟩ : ∃ u, u = u64 n := ⟨_, rfl⟩
  rw [← hu'] at hu hun ⊢
  have HU := Lib.hid hun
  clear hun hu'
  obtain ⟨K, hK⟩ : ∃ K : Nat, (K : Int) = k := ⟨k.toNat, by have := wide_cases hk; omega⟩
  rw [show k.toNat = K by omega]
  rcases wide_cases hk with rfl | rfl | rfl | rfl
  all_goals simp [fitsB] at hf
  all_goals
    have HK := Lib.hid hK
    clear hK
    have HN : Hid ((u : Int) = n ∨ (u : Int) = IntKind.u64.wrap n) := .inr HU.out
    try (have h0 : decide (n < 0) = false := by simp; omega)
    try (have h1 : decide (255 < n) = false := by simp; omega)
    try (have h2 : decide (65535 < n) = false := by simp; omega)
    try (have h3 : decide (4294967295 < n) = false := by simp; omega)
    try (have HN : Hid ((u : Int) = n) := by (have h := HU.out; rw [wraps_u64 n (by omega) (by omega)] at h; exact h))
    go_enter Tryd.func84, Tryd.ntmps84
    go_wp2_with (first | (go_at_call 98; refine (wide_any _ _).mono ?_; rintro e w' ⟨rfl, rfl⟩))
    go_loopw [7, 8, 9] (fun v vu vi wr => ∃ j : Nat, j ≤ K ∧ vi = .int .i64 j ∧ vu = .int .u64 ((u / 256 ^ j : Nat) : Int) ∧ Hid (wr.ownsRow w.heap.size 5 1 v j (bv (Lib.leBytes j u))) ∧ Hid (Below w.heap.size w wr)) (fun _ _ vi _ => K - (intOf vi).toNat)
    case atStart =>
      refine ⟨0, Nat.zero_le _, rfl, ?_, Lib.hid (World.ownsRow_nil _ _ _ _), Lib.hid ((Below.refl _ _).alloc (Nat.le_refl _) _)⟩
      first | (rw [← HU.out]; simp; done) | (rw [← HN.out]; simp; done)
    case round =>
      obtain ⟨j, hj, rfl, rfl, hown, hbel⟩ := hrel
      have HK' := HK.out
      have hbs := hbel.out.size
      have hy1 : u / 256 ^ j < 18446744073709551616 := Nat.lt_of_le_of_lt (Nat.div_le_self _ _) hu
      have HY := Lib.hid (show u / 256 ^ (j + 1) = u / 256 ^ j / 256 by rw [Nat.pow_succ, ← Nat.div_div_eq_div_mul])
      have HR := Lib.hid (rput_row u j _ rfl)
      generalize u / 256 ^ j = y at hy1 HY HR ⊢
      by_cases hlt : j < K
      · have hj8 : (j : Int) < 8 := by omega
        have HN2 := Lib.hid (news_at wr #[.int .u8 ((y : Int) % 256)] 5)
        go_wp2_with (at_builtin; refine wpList_append_own _ rfl _ _ 85 rfl w.heap.size 5 i0 (.int .u8 0) 1 1 Tryd.underlying85 hi hz0 hz1 hz2 rfl (by decide) _ _ _ rfl (hown.out.alloc _) ⟨wr.heap.size, 0, none⟩ 1 1 [.int .u8 ((y : Int) % 256)] rfl rfl HN2.out (by simp [Value.oneCell']) (by unfold maxLen; omega) (by omega) (by simp; omega) ?_; intro v' w2 hown2 hgr2 _)
        have HW := Lib.hid hown2
        have HG := Lib.hid hgr2
        clear hown2 hgr2
        go_wp2
        go_roundw
        case rel => exact ⟨j + 1, by omega, by go_num, by rw [HY.out]; first | rfl | go_num, Lib.hid (by rw [HR.out]; exact HW.out), Lib.hid (below_append hbel.out hbs hown.out HG.out)⟩
        case measure => simp [intOf]; omega
      · obtain rfl : j = K := by omega
        have g := run_convert_owned (P := Tryd.prog) (src := 85) (dst := 9) Tryd.underlying85 Tryd.underlying5 Tryd.underlying9 (l := Lib.leBytes j u) (by rw [Lib.leBytes_length]; exact hown.out)
        go_wp2
        go_ret2
        exact ⟨rfl, hbel.out⟩

end Go.Proofs.YtkplmaaeggnbgaaDoor
