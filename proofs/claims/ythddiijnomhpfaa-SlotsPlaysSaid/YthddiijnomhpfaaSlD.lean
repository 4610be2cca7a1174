/- The walk of slots.Write: its contracts. No condition but those that each states. -/
import Derived.Test.YthddiijnomhpfaaSlB
import Derived.Test.YthddiijnomhpfaaSlC
namespace Go.Proofs.Ythddiijnomhpfaa.Sl
open Go.RowKit Dk

set_option maxHeartbeats 400000 in
theorem swrite_no (p : Option Addr) (slot : Int) (s : ByteArray) (w : World) (h : NoDisk w p) :
    Calls Try.prog 19 #[.pointer p, .int .i64 slot, .string s] w fun e w' => e = .returned (.int .i64 16) ∧ w = w' := by
  have HC := Lib.hid (check_no p 0 (by decide) (by decide) slot w (has_no h))
  clear h
  go_enter Try.func19, Try.ntmps19
  go_wp2_with fail
  refine HC.out.mono ?_
  rintro e w' ⟨rfl, rfl⟩
  go_wp2
  go_ret
  exact ⟨rfl, rfl⟩

variable {F : Nat → Prop} {g : Nat} {S : DS}

theorem check_disk (slot : Int) (w : World) (h : DiskAt w F g S) :
    Calls Try.prog 34 #[.pointer (some ⟨g, 0, none⟩), .int .i64 slot] w fun e w' => e = .returned (.int .i64 (if badSlot slot = true then 1 else 0)) ∧ w = w' :=
  check_yes _ _ h.ok.lo h.ok.hi slot w (has_disk h)
theorem room_disk (w : World) (h : DiskAt w F g S) :
    Calls Try.prog 14 #[.pointer (some ⟨g, 0, none⟩)] w fun e w' => e = .returned (.int .i64 ((64 * each S : Nat) : Int)) ∧ w = w' :=
  room_any _ _ h.ok.hi w (has_disk h)
theorem first_disk (slot : Int) (h0 : badSlot slot = false) (w : World) (h : DiskAt w F g S) :
    Calls Try.prog 35 #[.pointer (some ⟨g, 0, none⟩), .int .i64 slot] w fun e w' => e = .returned (.int .i64 ((first S slot : Nat) : Int)) ∧ w = w' :=
  first_any _ _ h.ok.hi slot h0 w (has_disk h)
theorem each_le (h : S.Ok) : each S ≤ 252 := per_le h.hi
theorem first_le (h : S.Ok) {slot : Int} (h0 : badSlot slot = false) : first S slot + each S ≤ S.L.length := by
  have h1 := of_decide_eq_false h0
  have := h.lo
  unfold first each per
  rcases (show slot = 0 ∨ slot = 1 by omega) with rfl | rfl
  · simp; omega
  · simp; omega

set_option maxHeartbeats 400000 in
theorem swrite_bad (slot : Int) (s : ByteArray) (w : World) (h : DiskAt w F g S) (hb : badSlot slot = true) :
    Calls Try.prog 19 #[.pointer (some ⟨g, 0, none⟩), .int .i64 slot, .string s] w fun e w' => e = .returned (.int .i64 1) ∧ w = w' := by
  have HC := check_disk slot w h
  rw [if_pos hb] at HC
  replace HC := Lib.hid HC
  clear h hb
  go_enter Try.func19, Try.ntmps19
  go_wp2_with fail
  refine HC.out.mono ?_
  rintro e w' ⟨rfl, rfl⟩
  go_wp2
  go_ret
  exact ⟨rfl, rfl⟩

set_option maxHeartbeats 400000 in
theorem swrite_full (slot : Int) (s : ByteArray) (w : World) (h : DiskAt w F g S) (hb : badSlot slot = false) (hf : 64 * each S < s.size) :
    Calls Try.prog 19 #[.pointer (some ⟨g, 0, none⟩), .int .i64 slot, .string s] w fun e w' => e = .returned (.int .i64 6) ∧ w = w' := by
  have HC := check_disk slot w h
  rw [if_neg (by rw [hb]; decide)] at HC
  replace HC := Lib.hid HC
  have HR := Lib.hid (room_disk w h)
  have hf' : ((64 * each S : Nat) : Int) < (s.size : Int) := by omega
  generalize ((64 * each S : Nat) : Int) = R at *
  have t1 : decide (R < (s.size : Int)) = true := decide_eq_true hf'
  clear h hb hf
  go_enter Try.func19, Try.ntmps19
  go_wp2_with fail
  refine HC.out.mono ?_
  rintro e w' ⟨rfl, rfl⟩
  go_wp2_with fail
  refine HR.out.mono ?_
  rintro e w' ⟨rfl, rfl⟩
  go_wp2
  go_ret
  exact ⟨rfl, rfl⟩

/-- While the blocks are written. -/
structure WrI (w wr : World) (F : Nat → Prop) (g : Nat) (T : DS) : Prop where
  d : DiskAt wr (More F w) g T
  only : Only F w wr

theorem WrI.later {w wr w' : World} {T : DS} (h : WrI w wr F g T) (k : Below wr.heap.size wr w') : WrI w w' F g T := ⟨h.d.below k, h.only.trans (Only.of_below (F := F) k) (fun _ _ h => h)⟩
theorem WrI.next {w wr w' : World} {T U : DS} (h : WrI w wr F g T) (hd : DiskAt w' (More (More F w) wr) g U) (k : Only (More F w) wr w') : WrI w w' F g U :=
  ⟨hd.mono (fun _ e => e.elim id (fun e => .inr (Nat.le_trans h.only.size e))), h.only.trans k (fun _ hi e => e.elim id (fun e => absurd hi (Nat.not_lt.2 e)))⟩
theorem WrI.of {w w' : World} {U : DS} (hd : DiskAt w' (More F w) g U) (k : Only F w w') : WrI w w' F g U := ⟨hd, k⟩

set_option maxHeartbeats 2000000 in
set_option maxRecDepth 100000 in
theorem swrite_go (slot : Int) (s : ByteArray) (w : World) (h : DiskAt w F g S) (hb : badSlot slot = false) (hf : s.size ≤ 64 * each S) (hc : S.c + 1000 ≤ 2 ^ 40) (ho : S.ops + 1000 ≤ 2 ^ 40) :
    Calls Try.prog 19 #[.pointer (some ⟨g, 0, none⟩), .int .i64 slot, .string s] w fun e w' => e = .returned (.int .i64 (if (wrs S (first S slot) s.data.toList (nb s.size)).2 = 0 then (wrs S (first S slot) s.data.toList (nb s.size)).1.sy else wrs S (first S slot) s.data.toList (nb s.size)).2) ∧ WrI w w' F g (if (wrs S (first S slot) s.data.toList (nb s.size)).2 = 0 then (wrs S (first S slot) s.data.toList (nb s.size)).1.sy else wrs S (first S slot) s.data.toList (nb s.size)).1 := by
  have HC := check_disk slot w h
  rw [if_neg (by rw [hb]; decide)] at HC
  replace HC := Lib.hid HC
  have HR := Lib.hid (room_disk w h)
  have HF := Lib.hid (first_disk slot hb w h)
  have he := each_le h.ok
  have hfl := first_le h.ok hb
  have hhi := h.ok.hi
  have HN := Lib.hid (bfor_any s.size (by omega) w)
  have hn : nb s.size ≤ each S := by unfold nb; omega
  have hf' : (s.size : Int) ≤ ((64 * each S : Nat) : Int) := by omega
  have hlast : ∀ j, j < nb s.size → 64 * j ≤ s.size := fun j hj => by unfold nb at hj; omega
  generalize hB : first S slot = b at *
  have CB : Hid (∀ (j : Nat) W, j < nb s.size → Calls Try.prog 38 #[.string s, .int .i64 (j : Int)] W fun e w' => e = .returned (.string (strOf (blkOf s.data.toList j))) ∧ Below W.heap.size W w') :=
    Lib.hid (fun j W hj => blockOf_any s j (by omega) (hlast j hj) W)
  have CW : Hid (∀ (j : Nat) W, j < nb s.size → (wrs S b s.data.toList j).2 = 0 → WrI w W F g (wrs S b s.data.toList j).1 → Calls Try.prog 37 #[.pointer (some ⟨g, 0, none⟩), .int .i64 ((b : Int) + (j : Int)), .string (strOf (blkOf s.data.toList j))] W fun e w' => e = .returned (.int .i64 (wrs S b s.data.toList (j + 1)).2) ∧ WrI w w' F g (wrs S b s.data.toList (j + 1)).1) :=
    Lib.hid (fun j W hj h0 hW => by
      have hfew := wrs_few S b s.data.toList j
      have := d_write ((b + j : Nat) : Int) (strOf (blkOf s.data.toList j)) W hW.d (by omega) (by omega)
      have e : wrs S b s.data.toList (j + 1) = (wrs S b s.data.toList j).1.wr ((b + j : Nat) : Int) (strOf (blkOf s.data.toList j)) := by
        show (if _ then _ else _) = _
        rw [if_pos h0]
      rw [e]
      exact this.mono fun _ _ ⟨a, c, d⟩ => ⟨a, hW.next c d⟩)
  have CS : Hid (∀ W, WrI w W F g (wrs S b s.data.toList (nb s.size)).1 → Calls Try.prog 39 #[.pointer (some ⟨g, 0, none⟩)] W fun e w' => e = .returned (.int .i64 (wrs S b s.data.toList (nb s.size)).1.sy.2) ∧ WrI w w' F g (wrs S b s.data.toList (nb s.size)).1.sy.1) :=
    Lib.hid (fun W hW => by
      have hfew := wrs_few S b s.data.toList (nb s.size)
      exact (d_sync W hW.d (by omega) (by omega)).mono fun _ _ ⟨a, c, d⟩ => ⟨a, hW.next c d⟩)
  have HS : Hid (∀ k n, k ≤ n → (wrs S b s.data.toList k).2 ≠ 0 → wrs S b s.data.toList n = wrs S b s.data.toList k) := Lib.hid (fun k n hk h0 => wrs_stop S b s.data.toList h0 n hk)
  have HK : Hid (∀ k, (wrs S b s.data.toList k).2 = 0 → (wrs S b s.data.toList (k + 1)).2 = 0 ∨ (wrs S b s.data.toList (k + 1)).2 = 1 ∨ (wrs S b s.data.toList (k + 1)).2 = 7) := Lib.hid (fun k h0 => by
    show (if _ then _ else _ : DS × Int).2 = 0 ∨ (if _ then _ else _ : DS × Int).2 = 1 ∨ (if _ then _ else _ : DS × Int).2 = 7
    rw [if_pos h0]
    exact wr_codes _ _ _)
  have H0 : Hid (WrI w w F g (wrs S b s.data.toList 0).1) := Lib.hid ⟨h.more, Only.refl _ _⟩
  have H00 : (wrs S b s.data.toList 0).2 = 0 := rfl
  generalize wrs S b s.data.toList = q at *
  have HZ : Hid ((q (nb s.size)).2 = 0 → (if (q (nb s.size)).2 = 0 then (q (nb s.size)).1.sy else q (nb s.size)) = (q (nb s.size)).1.sy) := Lib.hid (fun h => if_pos h)
  have HY : Hid ((q (nb s.size)).2 ≠ 0 → (if (q (nb s.size)).2 = 0 then (q (nb s.size)).1.sy else q (nb s.size)) = q (nb s.size)) := Lib.hid (fun h => if_neg h)
  generalize (if (q (nb s.size)).2 = 0 then (q (nb s.size)).1.sy else q (nb s.size)) = Z at *
  generalize nb s.size = n at *
  generalize ((64 * each S : Nat) : Int) = R at *
  have t1 : decide (R < (s.size : Int)) = false := decide_eq_false (by omega)
  clear h hb hf hc ho hlast hB
  go_enter Try.func19, Try.ntmps19
  go_wp2_with fail
  refine HC.out.mono ?_
  rintro e w' ⟨rfl, rfl⟩
  go_wp2_with fail
  refine HR.out.mono ?_
  rintro e w' ⟨rfl, rfl⟩
  go_wp2_with fail
  refine HF.out.mono ?_
  rintro e w' ⟨rfl, rfl⟩
  go_wp2_with fail
  refine HN.out.mono ?_
  rintro e w' ⟨rfl, rfl⟩
  go_wp2
  go_loopw [28] (fun vi wr => ∃ j : Nat, j ≤ n ∧ vi = .int .i64 j ∧ (q j).2 = 0 ∧ Hid (WrI w wr F g (q j).1)) (fun vi _ => n - (intOf vi).toNat)
  case atStart => exact ⟨0, Nat.zero_le _, rfl, H00, H0⟩
  case round =>
    clear H0 H00 HC HR HF HN
    obtain ⟨j, hj, rfl, h0, hI⟩ := hrel
    have z0 : (0 : Int) ≤ (j : Int) := by omega
    have z1 : (j : Int) ≤ 252 := by omega
    by_cases hlt : j < n
    · have z2 : (j : Int) < (n : Int) := by omega
      have z3 : (0 : Int) ≤ (b : Int) := by omega
      have z4 : (b : Int) ≤ 512 := by omega
      go_wp2_with fail
      refine (CB.out j wr hlt).mono ?_
      rintro e w1 ⟨rfl, hb1⟩
      have HI1 := Lib.hid (hI.out.later hb1)
      clear hb1 hI
      go_wp2_with fail
      refine (CW.out j w1 hlt h0 HI1.out).mono ?_
      rintro e w2 ⟨rfl, hI2⟩
      have HI2 := Lib.hid hI2
      clear hI2 HI1
      have hk := HK.out j h0
      have HE := Lib.hid (HS.out (j + 1) n (by omega))
      have HQ : Hid (∃ x, (q (j + 1)).2 = x) := Lib.hid ⟨_, rfl⟩
      obtain ⟨x, hx⟩ := HQ.out
      rw [hx] at hk ⊢
      rcases hk with rfl | rfl | rfl
      · go_wp2
        go_roundw
        case rel => exact ⟨j + 1, by omega, by go_num, hx, HI2⟩
        case measure => simp [intOf]; omega
      · go_wp2
        go_ret
        have hq := HE.out (by rw [hx]; decide)
        rw [HY.out (by rw [hq, hx]; decide), hq]
        exact ⟨by rw [hx]; rfl, HI2.out⟩
      · go_wp2
        go_ret
        have hq := HE.out (by rw [hx]; decide)
        rw [HY.out (by rw [hq, hx]; decide), hq]
        exact ⟨by rw [hx]; rfl, HI2.out⟩
    · obtain rfl : j = n := by omega
      go_wp2_with fail
      refine (CS.out wr hI.out).mono ?_
      rintro e w2 ⟨rfl, hI2⟩
      have HI2 := Lib.hid hI2
      clear hI2
      go_wp2
      go_ret
      rw [HZ.out h0]
      exact ⟨rfl, HI2.out⟩

/-- A Write of a slot, as one function over states. -/
theorem d_sw (slot : Int) (s : ByteArray) (w : World) (h : DiskAt w F g S) (hc : S.c + 1000 ≤ 2 ^ 40) (ho : S.ops + 1000 ≤ 2 ^ 40) :
    Calls Try.prog 19 #[.pointer (some ⟨g, 0, none⟩), .int .i64 slot, .string s] w fun e w' => e = .returned (.int .i64 (DS.sw S slot s).2) ∧ DiskAt w' (More F w) g (DS.sw S slot s).1 ∧ Only F w w' := by
  unfold DS.sw
  by_cases h1 : badSlot slot = true
  · rw [if_pos h1]
    exact (swrite_bad slot s w h h1).mono fun _ _ ⟨a, b⟩ => by subst b; exact ⟨a, h.more, Only.refl _ _⟩
  · rw [if_neg h1]
    have h1' : badSlot slot = false := by cases e : badSlot slot; rfl; exact absurd e h1
    by_cases h2 : 64 * each S < s.size
    · rw [if_pos h2]
      exact (swrite_full slot s w h h1' h2).mono fun _ _ ⟨a, b⟩ => by subst b; exact ⟨a, h.more, Only.refl _ _⟩
    · rw [if_neg h2]
      exact (swrite_go slot s w h h1' (by omega) hc ho).mono fun _ _ ⟨a, b⟩ => ⟨a, b.d, b.only⟩

end Go.Proofs.Ythddiijnomhpfaa.Sl
