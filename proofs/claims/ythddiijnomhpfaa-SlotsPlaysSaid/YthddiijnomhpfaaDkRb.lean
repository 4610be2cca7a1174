/- The walks of the document's Read and Cut: their contracts. No condition but those that each states. -/
import Derived.Test.YthddiijnomhpfaaDkRa
namespace Go.Proofs.Ythddiijnomhpfaa.Dk
open Go.RowKit

theorem readUpto_succ (S : DS) (i k : Nat) : S.readUpto i (k + 1) = if (wAt S.W k).1 = i then (wAt S.W k).2 else S.readUpto i k := by
  unfold DS.readUpto
  show (match (if (wAt S.W k).1 = i then some k else lastUpto S.W i k) with | some j => (wAt S.W j).2 | none => bAt S.L i) = _
  by_cases e : (wAt S.W k).1 = i
  · rw [if_pos e, if_pos e]
  · rw [if_neg e, if_neg e]; rfl

set_option maxHeartbeats 1000000 in
theorem ref_read_off (r : Nat) (S : DS) (i : Int) (F : Nat → Prop) (w : World) (h : RefAt w F r S) (hon : S.on = false) :
    Calls Try.prog 17 #[.pointer (some ⟨r, 0, none⟩), .int .i64 i] w fun e w' => e = .returned (.tuple #[.string ByteArray.empty, .int .i64 7]) ∧ w = w' := by
  obtain ⟨vl, vw, a, m, hR, -⟩ := h
  have c2 := hR.cell (i := 2) rfl
  rw [hon] at c2
  clear hR
  go_enter Try.func17, Try.ntmps17
  go_wp2
  go_ret2
  exact ⟨rfl, rfl⟩

set_option maxHeartbeats 1000000 in
theorem ref_read_bad (r : Nat) (S : DS) (i : Int) (F : Nat → Prop) (w : World) (h : RefAt w F r S) (hon : S.on = true) (hi : i < 0 ∨ (S.L.length : Int) ≤ i) :
    Calls Try.prog 17 #[.pointer (some ⟨r, 0, none⟩), .int .i64 i] w fun e w' => e = .returned (.tuple #[.string ByteArray.empty, .int .i64 1]) ∧ w = w' := by
  obtain ⟨vl, vw, a, m, hR, -⟩ := h
  have c2 := hR.cell (i := 2) rfl
  rw [hon] at c2
  obtain ⟨gl, cl, rfl⟩ := hR.formL
  have c0 := hR.cell (i := 0) rfl
  clear hR
  by_cases h0 : i < 0
  · have t0 : decide (i < 0) = true := decide_eq_true h0
    go_enter Try.func17, Try.ntmps17
    go_wp2
    go_ret2
    exact ⟨rfl, rfl⟩
  · have t0 : decide (i < 0) = false := decide_eq_false h0
    have t1 : decide ((S.L.length : Int) ≤ i) = true := decide_eq_true (by omega)
    go_enter Try.func17, Try.ntmps17
    go_wp2
    go_ret2
    exact ⟨rfl, rfl⟩

set_option maxHeartbeats 2000000 in
set_option maxRecDepth 100000 in
theorem ref_read_ok (r : Nat) (S : DS) (i : Nat) (F : Nat → Prop) (w : World) (h : RefAt w F r S) (hon : S.on = true) (hi : i < S.L.length) (hc : S.c ≤ 2 ^ 40) :
    Calls Try.prog 17 #[.pointer (some ⟨r, 0, none⟩), .int .i64 (i : Int)] w fun e w' => e = .returned (.tuple #[.string (strOf (S.read i)), .int .i64 0]) ∧ w = w' := by
  obtain ⟨vl, vw, a, m, hR, -⟩ := h
  have c2 := hR.cell (i := 2) rfl
  rw [hon] at c2
  obtain ⟨gl, cl, rfl⟩ := hR.formL
  obtain ⟨pw, cw, rfl, hpw⟩ := hR.formW
  have c0 := hR.cell (i := 0) rfl
  have c1 := hR.cell (i := 1) rfl
  have HR := Lib.hid hR
  have hfew := hR.ok.few
  have hhi := hR.ok.hi
  have cl0 : w.cell? ⟨gl, i, none⟩ = some (.string (strOf (bAt S.L i))) := by
    have := ownsRow_range hR.rowL i (.string (strOf (bAt S.L i))) (by unfold strs; rw [List.getElem?_map, bAt_lt hi]; rfl)
    rwa [Nat.zero_add] at this
  have z0 : (0 : Int) ≤ (i : Int) := by omega
  have z1 : (i : Int) < (S.L.length : Int) := by omega
  have t0 : decide ((i : Int) < 0) = false := decide_eq_false (by omega)
  have t1 : decide ((S.L.length : Int) ≤ (i : Int)) = false := decide_eq_false (by omega)
  have t2 : decide (S.L.length ≤ i) = false := decide_eq_false (by omega)
  obtain ⟨n, hn⟩ : ∃ n, n = S.W.length := ⟨_, rfl⟩
  rw [← hn] at c1 hpw hfew HR
  have HC1 := Lib.hid c1
  have hread : strOf (bAt S.L i) = strOf (S.readUpto i 0) := rfl
  rw [hread] at cl0
  clear hR hread
  go_enter Try.func17, Try.ntmps17
  go_wp2
  clear c0 c1 c2 cl0 t0 t1 t2 z1
  go_loopw [6, 7] (fun vs vk wr => ∃ k : Nat, k ≤ n ∧ vk = .int .i64 k ∧ vs = .string (strOf (S.readUpto i k)) ∧ wr = w) (fun _ vk _ => n - (intOf vk).toNat)
  case atStart => exact ⟨0, Nat.zero_le _, rfl, rfl, rfl⟩
  case round =>
    obtain ⟨k, hk, rfl, rfl, rfl⟩ := hrel
    have c1 := HC1.out
    by_cases hkn : k < n
    · obtain ⟨gw, rfl⟩ := hpw (by omega)
      have y0 : (0 : Int) ≤ (k : Int) := by omega
      have y1 : (k : Int) < (n : Int) := by omega
      have y2 : (n : Int) ≤ 1099511627776 := by omega
      obtain ⟨p1, p2⟩ := puts_at (W := S.W) (j := k) (by omega)
      have hrw := HR.out.rowW
      rw [← hn] at hrw
      have d1 := ownsRow_range hrw _ _ p1
      have d2 := ownsRow_range hrw _ _ p2
      clear hrw
      have d3 := d1
      have d4 := d2
      rw [Nat.zero_add] at d3 d4
      have hsucc := readUpto_succ S i k
      by_cases hi2 : (wAt S.W k).1 = i
      · rw [if_pos hi2] at hsucc
        rw [hi2] at d1 d3
        have HS := Lib.hid hsucc
        clear p1 p2 hsucc
        go_wp2
        clear d1 d2 d3 d4 c1
        go_roundw
        case rel => exact ⟨k + 1, by omega, by go_num, by rw [HS.out], by first | trivial | rfl⟩
        case measure => simp [intOf]; omega
      · rw [if_neg hi2] at hsucc
        have HS := Lib.hid hsucc
        have u0 : (((wAt S.W k).1 : Int) == (i : Int)) = false := by simp; omega
        have u1 : decide (((wAt S.W k).1 : Int) = (i : Int)) = false := decide_eq_false (by omega)
        have u2 : ((wAt S.W k).1 == i) = false := by simpa using hi2
        have u3 : decide ((wAt S.W k).1 = i) = false := decide_eq_false hi2
        clear p1 p2 hsucc
        go_wp2
        clear d1 d2 d3 d4 c1 u0 u1 u2 u3
        go_roundw
        case rel => exact ⟨k + 1, by omega, by go_num, by rw [HS.out], by first | trivial | rfl⟩
        case measure => simp [intOf]; omega
    · obtain rfl : k = n := by omega
      have e : S.readUpto i k = S.read i := by rw [hn]; rfl
      rw [e]
      go_wp2
      go_ret2
      exact ⟨rfl, rfl⟩

set_option maxHeartbeats 1000000 in
theorem ref_cut_bad (p : Option Addr) (k : Int) (q : Int) (hk : k < 0) (w : World) :
    Calls Try.prog 27 #[.pointer p, .int .i64 k, .int .u64 q] w fun e w' => e = .returned (.int .i64 1) ∧ w = w' := by
  have t0 : decide (k < 0) = true := decide_eq_true hk
  go_enter Try.func27, Try.ntmps27
  go_wp2
  go_ret
  exact ⟨rfl, rfl⟩

set_option maxHeartbeats 1000000 in
theorem ref_cut_ok (r : Nat) (S : DS) (k q : Nat) (hk : k < 2 ^ 63) (hq : q < 2 ^ 64) (F : Nat → Prop) (w : World) (h : RefAt w F r S) :
    Calls Try.prog 27 #[.pointer (some ⟨r, 0, none⟩), .int .i64 (k : Int), .int .u64 (q : Int)] w fun e w' => e = .returned (.int .i64 0) ∧ RefAt w' F r (S.plan k q) ∧ Only F w w' := by
  obtain ⟨vl, vw, a, m, hR, hF1, hF2, hF3⟩ := h
  have h1 := hR.put 4 (by decide) (.bool true) (a' := a) (m' := m) (T := { S with next := some (a, m) }) (by unfold rcells; rfl) rfl rfl ⟨hR.ok.lo, hR.ok.hi, hR.ok.blk, hR.ok.wat, hR.ok.few, fun k' q' e => by cases e; exact hR.size⟩ (fun k' q' e => by cases e; exact ⟨rfl, rfl⟩) hR.size
  have h2 := h1.put 5 (by decide) (.int .i64 (k : Int)) (a' := k) (m' := m) (T := { S with next := some (k, m) }) (by unfold rcells; rfl) rfl rfl ⟨hR.ok.lo, hR.ok.hi, hR.ok.blk, hR.ok.wat, hR.ok.few, fun k' q' e => by cases e; exact ⟨hk, hR.size.2⟩⟩ (fun k' q' e => by cases e; exact ⟨rfl, rfl⟩) ⟨hk, hR.size.2⟩
  have h3 := h2.put 6 (by decide) (.int .u64 (q : Int)) (a' := k) (m' := q) (T := S.plan k q) (by unfold rcells; rfl) rfl rfl (hR.ok.plan hk hq) (fun k' q' e => by cases e; exact ⟨rfl, rfl⟩) ⟨hk, hq⟩
  have HZ : Hid (RefAt _ F r (S.plan k q) ∧ Only F w _) := Lib.hid ⟨⟨vl, vw, k, q, h3, hF1, hF2, hF3⟩, (((Only.refl F w).setCell ⟨r, 4, none⟩ hF1 (.bool true)).setCell ⟨r, 5, none⟩ hF1 (.int .i64 (k : Int))).setCell ⟨r, 6, none⟩ hF1 (.int .u64 (q : Int))⟩
  have c4 := hR.cell (i := 4) rfl
  have c5 := hR.cell (i := 5) rfl
  have c6 := hR.cell (i := 6) rfl
  have f4 := hR.free 4 (by decide)
  have f5 := hR.free 5 (by decide)
  have f6 := hR.free 6 (by decide)
  have t0 : decide ((k : Int) < 0) = false := decide_eq_false (by omega)
  have z0 : (0 : Int) ≤ (k : Int) := by omega
  clear h1 h2 h3 hR hF2 hF3
  go_enter Try.func27, Try.ntmps27
  go_wp2
  go_ret
  exact ⟨rfl, HZ.out⟩

end Go.Proofs.Ythddiijnomhpfaa.Dk
