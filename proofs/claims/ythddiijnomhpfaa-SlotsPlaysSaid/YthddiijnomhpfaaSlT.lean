/- The walk of the document's Read of a slot: its contracts. No condition but those that each states. -/
import Derived.Test.YthddiijnomhpfaaSlR
namespace Go.Proofs.Ythddiijnomhpfaa.Sl
open Go.RowKit Dk

variable {F : Nat → Prop} {g : Nat} {S : DS}

set_option maxHeartbeats 1000000 in
theorem rread_bad (slot size : Int) (w : World) (h : RefAt w F g S) (hb : badSlot slot = true ∨ size < 0 ∨ ((64 * each S : Nat) : Int) < size) :
    Calls Try.prog 26 #[.pointer (some ⟨g, 0, none⟩), .int .i64 slot, .int .i64 size] w fun e w' => e = .returned (.tuple #[.string ByteArray.empty, .int .i64 1]) ∧ w = w' := by
  have HR := Lib.hid (ref_room w h)
  generalize ((64 * each S : Nat) : Int) = R at *
  clear h
  rcases slot_tests slot with ⟨_, t0⟩ | ⟨_, t0, t1⟩ | ⟨hn, t0, t1⟩
  · go_enter Try.func26, Try.ntmps26
    go_wp2
    go_ret2
    exact ⟨rfl, rfl⟩
  · go_enter Try.func26, Try.ntmps26
    go_wp2
    go_ret2
    exact ⟨rfl, rfl⟩
  · replace hb := hb.resolve_left (by rw [hn]; decide)
    by_cases h0 : size < 0
    · have t2 : decide (size < 0) = true := decide_eq_true h0
      go_enter Try.func26, Try.ntmps26
      go_wp2
      go_ret2
      exact ⟨rfl, rfl⟩
    · have t2 : decide (size < 0) = false := decide_eq_false h0
      have t3 : decide (R < size) = true := decide_eq_true (hb.resolve_left h0)
      go_enter Try.func26, Try.ntmps26
      go_wp2_with fail
      refine HR.out.mono ?_
      rintro e w' ⟨rfl, rfl⟩
      go_wp2
      go_ret2
      exact ⟨rfl, rfl⟩

set_option maxHeartbeats 2000000 in
set_option maxRecDepth 100000 in
theorem rread_off (slot : Int) (z : Nat) (w : World) (h : RefAt w F g S) (hb : badSlot slot = false) (hz : z ≤ 64 * each S) (h0 : 0 < z) (hon : S.on = false) (hc : S.c ≤ 2 ^ 40) :
    Calls Try.prog 26 #[.pointer (some ⟨g, 0, none⟩), .int .i64 slot, .int .i64 (z : Int)] w fun e w' => e = .returned (.tuple #[.string ByteArray.empty, .int .i64 7]) ∧ w = w' := by
  have HR := Lib.hid (ref_room w h)
  have HEA := Lib.hid (ref_each w h)
  have he := each_le' (ref_ok h)
  have hfl := first_le' (ref_ok h) hb
  have hhi := (ref_ok h).hi
  have HFI : Hid (wrap64 (8 + wrap64 (slot * ((each S : Nat) : Int))) = ((first S slot : Nat) : Int)) := Lib.hid (by
    unfold first
    rcases bad_no hb with rfl | rfl
    · unfold wrap64; simp
    · unfold wrap64; simp; omega)
  generalize first S slot = b at *
  have CR : Hid (Calls Try.prog 17 #[.pointer (some ⟨g, 0, none⟩), .int .i64 (b : Int)] w fun e w' => e = .returned (.tuple #[.string ByteArray.empty, .int .i64 7]) ∧ w = w') := Lib.hid (by
    have := r_read (b : Int) w h hc
    unfold DS.rd at this
    rw [if_pos hon] at this
    exact this)
  have z0 : (0 : Int) < (z : Int) := by omega
  have t2 : decide ((z : Int) < 0) = false := decide_eq_false (by omega)
  have z2 : (z : Int) ≤ ((64 * each S : Nat) : Int) := by omega
  generalize ((64 * each S : Nat) : Int) = R at *
  have t3 : decide (R < (z : Int)) = false := decide_eq_false (by omega)
  generalize ((each S : Nat) : Int) = E at *
  have hq1 := HFI.out
  obtain ⟨t0, t1⟩ : decide (slot < 0) = false ∧ decide ((1 : Int) < slot) = false := by
    rcases slot_tests slot with ⟨h, _⟩ | ⟨h, _⟩ | ⟨_, h⟩
    · rw [hb] at h; cases h
    · rw [hb] at h; cases h
    · exact h
  clear h hb hc hon hfl
  go_enter Try.func26, Try.ntmps26
  go_wp2_with fail
  refine HR.out.mono ?_
  rintro e w' ⟨rfl, rfl⟩
  go_wp2_with fail
  refine HEA.out.mono ?_
  rintro e w' ⟨rfl, rfl⟩
  go_wp2
  go_loopw [8, 9] (fun vs va wr => vs = .string ByteArray.empty ∧ va = .int .i64 (b : Int) ∧ wr = w) (fun _ _ _ => 0)
  case atStart => exact ⟨rfl, by rw [← hq1], rfl⟩
  case round =>
    obtain ⟨rfl, rfl, rfl⟩ := hrel
    go_wp2_with fail
    refine CR.out.mono ?_
    rintro e w1 ⟨rfl, rfl⟩
    go_wp2
    go_ret2
    exact ⟨rfl, rfl⟩

set_option maxHeartbeats 2000000 in
set_option maxRecDepth 100000 in
theorem rread_go (slot : Int) (z : Nat) (w : World) (h : RefAt w F g S) (hb : badSlot slot = false) (hz : z ≤ 64 * each S) (hon : z = 0 ∨ S.on = true) (hc : S.c ≤ 2 ^ 40) :
    Calls Try.prog 26 #[.pointer (some ⟨g, 0, none⟩), .int .i64 slot, .int .i64 (z : Int)] w fun e w' => e = .returned (.tuple #[.string (strOf ((cat S (first S slot) (nb z)).take z)), .int .i64 0]) ∧ w = w' := by
  have HR := Lib.hid (ref_room w h)
  have HEA := Lib.hid (ref_each w h)
  have he := each_le' (ref_ok h)
  have hfl := first_le' (ref_ok h) hb
  have hhi := (ref_ok h).hi
  have hn := nb_le hz
  have HFI : Hid (wrap64 (8 + wrap64 (slot * ((each S : Nat) : Int))) = ((first S slot : Nat) : Int)) := Lib.hid (by
    unfold first
    rcases bad_no hb with rfl | rfl
    · unfold wrap64; simp
    · unfold wrap64; simp; omega)
  generalize first S slot = b at *
  have HCL : Hid (∀ k, k ≤ nb z → (cat S b k).length = 64 * k) := Lib.hid (cat_length (ref_ok h) (by omega))
  have CR : Hid (∀ j : Nat, j < nb z → Calls Try.prog 17 #[.pointer (some ⟨g, 0, none⟩), .int .i64 ((b : Int) + (j : Int))] w fun e w' => e = .returned (.tuple #[.string (strOf (S.read (b + j))), .int .i64 0]) ∧ w = w') := Lib.hid (fun j hj =>
    ref_read_ok g S (b + j) F w h (hon.resolve_left (fun e => by subst e; exact absurd hj (Nat.not_lt_zero j))) (by omega) hc)
  have HRL : Hid (∀ j, j < nb z → (strOf (S.read (b + j))).size = 64) := Lib.hid (fun j hj => by rw [strOf_size]; exact read_length (ref_ok h) (by omega))
  have HTK : Hid ((strOf (cat S b (nb z))).extract 0 z = strOf ((cat S b (nb z)).take z)) := Lib.hid (by rw [str_cut]; rfl)
  generalize strOf ((cat S b (nb z)).take z) = OUT at *
  have HSTEP : Hid (∀ j, strOf (cat S b j) ++ strOf (S.read (b + j)) = strOf (cat S b (j + 1))) := Lib.hid (fun j => strOf_app _ _)
  have HN1 : Hid (∀ j, j < nb z → 64 * j < z) := Lib.hid (fun j hj => by unfold nb at hj; omega)
  have hn2 : z ≤ 64 * nb z := by unfold nb; omega
  have z0 : (0 : Int) ≤ (z : Int) := by omega
  have z9 : (z : Int) ≤ 16128 := by omega
  have t2 : decide ((z : Int) < 0) = false := decide_eq_false (by omega)
  have z2 : (z : Int) ≤ ((64 * each S : Nat) : Int) := by omega
  generalize ((64 * each S : Nat) : Int) = R at *
  have t3 : decide (R < (z : Int)) = false := decide_eq_false (by omega)
  have hnE : nb z ≤ 252 := by omega
  generalize ((each S : Nat) : Int) = E at *
  have hq1 := HFI.out
  obtain ⟨t0, t1⟩ : decide (slot < 0) = false ∧ decide ((1 : Int) < slot) = false := by
    rcases slot_tests slot with ⟨h, _⟩ | ⟨h, _⟩ | ⟨_, h⟩
    · rw [hb] at h; cases h
    · rw [hb] at h; cases h
    · exact h
  have hbb : b ≤ 512 := by omega
  clear h hb hc hon hfl hn
  generalize nb z = n at *
  go_enter Try.func26, Try.ntmps26
  go_wp2_with fail
  refine HR.out.mono ?_
  rintro e w' ⟨rfl, rfl⟩
  go_wp2_with fail
  refine HEA.out.mono ?_
  rintro e w' ⟨rfl, rfl⟩
  go_wp2
  go_loopw [8, 9] (fun vs va wr => ∃ j : Nat, j ≤ n ∧ vs = .string (strOf (cat S b j)) ∧ va = .int .i64 ((b : Int) + (j : Int)) ∧ wr = w) (fun _ va _ => b + n - (intOf va).toNat)
  case atStart => exact ⟨0, Nat.zero_le _, rfl, by simpa using hq1, rfl⟩
  case round =>
    clear hq1 HFI HR HEA
    obtain ⟨j, hj, rfl, rfl, rfl⟩ := hrel
    have y0 : (0 : Int) ≤ (j : Int) := by omega
    have y1 : (j : Int) ≤ 252 := by omega
    have y2 : (0 : Int) ≤ (b : Int) := by omega
    have y3 : (b : Int) ≤ 512 := by omega
    have hsz : ((strOf (cat S b j)).size : Int) = 64 * (j : Int) := by rw [strOf_size, HCL.out j hj]; omega
    by_cases hlt : j < n
    · have hst := HSTEP.out j
      have hrl := HRL.out j hlt
      have CRj := Lib.hid (CR.out j hlt)
      have hlt1 := HN1.out j hlt
      have d1 : ((strOf (cat S b j)).size : Int) < (z : Int) := by omega
      have d2 : ((strOf (cat S b j)).size : Int) ≤ 16128 := by omega
      clear hsz
      generalize hX2 : strOf (cat S b (j + 1)) = X2 at *
      have HX2 := Lib.hid (congrArg Value.string hX2.symm)
      clear hX2
      generalize strOf (cat S b j) = X at *
      generalize strOf (S.read (b + j)) = Y at *
      go_wp2_with fail
      refine CRj.out.mono ?_
      rintro e w2 ⟨rfl, rfl⟩
      go_wp2
      go_roundw
      case rel => exact ⟨j + 1, by omega, HX2.out, by go_num, trivial⟩
      case measure => simp [intOf]; omega
    · obtain rfl : j = n := by omega
      have htk := HTK.out
      have d1 : decide (((strOf (cat S b j)).size : Int) < (z : Int)) = false := decide_eq_false (by omega)
      have d2 : (z : Int) ≤ ((strOf (cat S b j)).size : Int) := by omega
      have d3 : decide ((strOf (cat S b j)).size < z) = false := decide_eq_false (by omega)
      clear hsz
      generalize strOf (cat S b j) = X at *
      go_wp2
      go_ret2
      exact ⟨rfl, rfl⟩

/-- The document's Read of a slot, as the same function over states. -/
theorem r_sr (slot size : Int) (w : World) (h : RefAt w F g S) (hc : S.c ≤ 2 ^ 40) :
    Calls Try.prog 26 #[.pointer (some ⟨g, 0, none⟩), .int .i64 slot, .int .i64 size] w fun e w' => e = .returned (.tuple #[.string (DS.sr S slot size).1, .int .i64 (DS.sr S slot size).2]) ∧ w = w' := by
  unfold DS.sr
  by_cases h1 : badSlot slot = true
  · rw [if_pos h1]
    exact rread_bad slot size w h (.inl h1)
  · rw [if_neg h1]
    have h1' : badSlot slot = false := by cases e : badSlot slot; rfl; exact absurd e h1
    by_cases h2 : size < 0 ∨ ((64 * each S : Nat) : Int) < size
    · rw [if_pos h2]
      exact rread_bad slot size w h (.inr h2)
    · rw [if_neg h2]
      obtain ⟨z, rfl⟩ := Int.eq_ofNat_of_zero_le (show 0 ≤ size by omega)
      by_cases h3 : S.on = false ∧ 0 < (z : Int)
      · rw [if_pos h3]
        have hp := h3.2
        exact rread_off slot z w h h1' (by omega) (by omega) h3.1 hc
      · rw [if_neg h3]
        exact rread_go slot z w h h1' (by omega) ((Bool.eq_false_or_eq_true S.on).elim .inr (fun e => .inl (Decidable.byContradiction fun hz => h3 (And.intro e (by omega))))) hc

end Go.Proofs.Ythddiijnomhpfaa.Sl
