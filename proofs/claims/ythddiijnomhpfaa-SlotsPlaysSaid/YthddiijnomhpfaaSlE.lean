/- The walk of slots.Read: its contracts. No condition but those that each states. -/
import Derived.Test.YthddiijnomhpfaaSlD
import Derived.Test.YthddiijnomhpfaaSlA
namespace Go.Proofs.Ythddiijnomhpfaa.Sl
open Go.RowKit Dk

set_option maxHeartbeats 400000 in
theorem sread_no (p : Option Addr) (slot size : Int) (w : World) (h : NoDisk w p) :
    Calls Try.prog 22 #[.pointer p, .int .i64 slot, .int .i64 size] w fun e w' => e = .returned (.tuple #[.string ByteArray.empty, .int .i64 16]) ∧ w = w' := by
  have HC := Lib.hid (check_no p 0 (by decide) (by decide) slot w (has_no h))
  clear h
  go_enter Try.func22, Try.ntmps22
  go_wp2_with fail
  refine HC.out.mono ?_
  rintro e w' ⟨rfl, rfl⟩
  go_wp2
  go_ret2
  exact ⟨rfl, rfl⟩

variable {F : Nat → Prop} {g : Nat} {S : DS}

set_option maxHeartbeats 400000 in
theorem sread_bad (slot size : Int) (w : World) (h : DiskAt w F g S) (hb : badSlot slot = true) :
    Calls Try.prog 22 #[.pointer (some ⟨g, 0, none⟩), .int .i64 slot, .int .i64 size] w fun e w' => e = .returned (.tuple #[.string ByteArray.empty, .int .i64 1]) ∧ w = w' := by
  have HC := check_disk slot w h
  rw [if_pos hb] at HC
  replace HC := Lib.hid HC
  clear h hb
  go_enter Try.func22, Try.ntmps22
  go_wp2_with fail
  refine HC.out.mono ?_
  rintro e w' ⟨rfl, rfl⟩
  go_wp2
  go_ret2
  exact ⟨rfl, rfl⟩

set_option maxHeartbeats 400000 in
theorem sread_size (slot size : Int) (w : World) (h : DiskAt w F g S) (hb : badSlot slot = false) (hz : size < 0 ∨ ((64 * each S : Nat) : Int) < size) :
    Calls Try.prog 22 #[.pointer (some ⟨g, 0, none⟩), .int .i64 slot, .int .i64 size] w fun e w' => e = .returned (.tuple #[.string ByteArray.empty, .int .i64 1]) ∧ w = w' := by
  have HC := check_disk slot w h
  rw [if_neg (by rw [hb]; decide)] at HC
  replace HC := Lib.hid HC
  have HR := Lib.hid (room_disk w h)
  generalize ((64 * each S : Nat) : Int) = R at *
  clear h hb
  by_cases h0 : size < 0
  · have t0 : decide (size < 0) = true := decide_eq_true h0
    go_enter Try.func22, Try.ntmps22
    go_wp2_with fail
    refine HC.out.mono ?_
    rintro e w' ⟨rfl, rfl⟩
    go_wp2
    go_ret2
    exact ⟨rfl, rfl⟩
  · have h1 := hz.resolve_left h0
    have t0 : decide (size < 0) = false := decide_eq_false h0
    have t1 : decide (R < size) = true := decide_eq_true h1
    go_enter Try.func22, Try.ntmps22
    go_wp2_with fail
    refine HC.out.mono ?_
    rintro e w' ⟨rfl, rfl⟩
    go_wp2_with fail
    refine HR.out.mono ?_
    rintro e w' ⟨rfl, rfl⟩
    go_wp2
    go_ret2
    exact ⟨rfl, rfl⟩

/-- While the blocks are read: what the builder in block B holds. -/
structure RdI (w wr : World) (l : Bytes) : Prop where
  b : IsB' w.heap.size w.heap.size l wr
  below : Below w.heap.size w wr

theorem rdI_new (w : World) : RdI w (w.alloc (.cells #[.pointer none, .slice none 0 0] 83)) [] :=
  ⟨.inl ⟨rfl, Nat.le_refl _, heap_alloc_new w _⟩, (Below.refl _ _).alloc (Nat.le_refl _) _⟩
theorem RdI.later {w wr w' : World} {l : Bytes} (h : RdI w wr l) (k : Below wr.heap.size wr w') : RdI w w' l := ⟨isB_later h.b k, chain2 h.below k⟩

theorem rd_write {w wr : World} {l : Bytes} (h : RdI w wr l) (s : Bytes) (hs : s ≠ []) (hl : l.length + s.length ≤ 2 ^ 40) :
    Calls Try.prog 41 #[.pointer (some ⟨w.heap.size, 0, none⟩), .string (strOf s)] wr fun e w' => e = .returned (.tuple #[.int .i64 (strOf s).size, .nilIface]) ∧ RdI w w' (l ++ s) :=
  (write_string _ _ l (strOf s) wr (isB_of h.b) (by rw [strOf_size]; exact hl) h.below.size).mono fun _ _ ⟨a, b, c⟩ => by
    rw [strOf_toList] at b
    exact ⟨a, .inr ⟨by simp [hs], b⟩, h.below.trans c⟩

theorem rd_string {w wr : World} {l : Bytes} (h : RdI w wr l) :
    Calls Try.prog 42 #[.pointer (some ⟨w.heap.size, 0, none⟩)] wr fun e w' => e = .returned (.string (strOf l)) ∧ Below w.heap.size w w' :=
  (string_any _ _ l wr h.b).mono fun _ _ ⟨a, b⟩ => ⟨a, h.below.trans b⟩

theorem str_to (l : Bytes) (k : Nat) : (strOf l).extract 0 k = strOf (l.take k) := by
  apply ByteArray.ext
  simp [strOf, ByteArray.data_extract]

theorem zero_b (w : World) : (zeroValue 83).run Try.prog w = .ok (.agg #[.pointer none, .slice none 0 0]) w := by kernel_rfl

set_option maxHeartbeats 2000000 in
set_option maxRecDepth 100000 in
theorem sread_off (slot : Int) (z : Nat) (w : World) (h : DiskAt w F g S) (hb : badSlot slot = false) (hz : z ≤ 64 * each S) (h0 : 0 < z) (hon : S.on = false) (hc : S.c ≤ 2 ^ 40) :
    Calls Try.prog 22 #[.pointer (some ⟨g, 0, none⟩), .int .i64 slot, .int .i64 (z : Int)] w fun e w' => e = .returned (.tuple #[.string ByteArray.empty, .int .i64 7]) ∧ Below w.heap.size w w' := by
  have HC := check_disk slot w h
  rw [if_neg (by rw [hb]; decide)] at HC
  replace HC := Lib.hid HC
  have HR := Lib.hid (room_disk w h)
  have HX := Lib.hid (rdI_new w)
  have hw1 : DiskAt (w.alloc (.cells #[.pointer none, .slice none 0 0] 83)) F g S := h.below HX.out.below
  have HF := Lib.hid (first_disk slot hb _ hw1)
  have he := each_le h.ok
  have HN := Lib.hid (bfor_any z (by omega) (w.alloc (.cells #[.pointer none, .slice none 0 0] 83)))
  have hn : 0 < nb z := by unfold nb; omega
  have hfl := first_le h.ok hb
  have hhi := h.ok.hi
  generalize first S slot = b at *
  have CR : Hid (Calls Try.prog 16 #[.pointer (some ⟨g, 0, none⟩), .int .i64 (b : Int)] (w.alloc (.cells #[.pointer none, .slice none 0 0] 83)) fun e w' => e = .returned (.tuple #[.string ByteArray.empty, .int .i64 7]) ∧ Below w.heap.size w w') := Lib.hid (by
    have := d_read (b : Int) _ hw1 hc
    unfold DS.rd at this
    rw [if_pos hon] at this
    exact this.mono fun _ _ ⟨a, c⟩ => ⟨a, chain2 HX.out.below c⟩)
  have z0 : (0 : Int) ≤ (z : Int) := by omega
  have t0 : decide ((z : Int) < 0) = false := decide_eq_false (by omega)
  have z2 : (z : Int) ≤ ((64 * each S : Nat) : Int) := by omega
  generalize ((64 * each S : Nat) : Int) = R at *
  have t1 : decide (R < (z : Int)) = false := decide_eq_false (by omega)
  have z3 : (0 : Int) < (nb z : Int) := by omega
  have z4 : (0 : Int) ≤ (b : Int) := by omega
  have z5 : (b : Int) ≤ 512 := by omega
  generalize nb z = n at *
  have hzb := zero_b
  clear h hb hc hon hw1 HX hfl
  go_enter Try.func22, Try.ntmps22
  go_wp2_with fail
  refine HC.out.mono ?_
  rintro e w' ⟨rfl, rfl⟩
  go_wp2_with fail
  refine HR.out.mono ?_
  rintro e w' ⟨rfl, rfl⟩
  go_wp2_with fail
  refine HF.out.mono ?_
  rintro e w' ⟨rfl, rfl⟩
  go_wp2_with fail
  refine HN.out.mono ?_
  rintro e w' ⟨rfl, rfl⟩
  go_wp2
  go_loopw [33] (fun vi wr => vi = .int .i64 0 ∧ wr = w.alloc (.cells #[.pointer none, .slice none 0 0] 83)) (fun vi _ => 0)
  case atStart => exact ⟨rfl, rfl⟩
  case round =>
    obtain ⟨rfl, rfl⟩ := hrel
    go_wp2_with fail
    refine CR.out.mono ?_
    rintro e w1 ⟨rfl, hb1⟩
    have HB1 := Lib.hid hb1
    clear hb1
    go_wp2
    go_ret2
    exact ⟨rfl, HB1.out⟩

set_option maxHeartbeats 2000000 in
set_option maxRecDepth 100000 in
theorem sread_go (slot : Int) (z : Nat) (w : World) (h : DiskAt w F g S) (hb : badSlot slot = false) (hz : z ≤ 64 * each S) (hon : z = 0 ∨ S.on = true) (hc : S.c ≤ 2 ^ 40) :
    Calls Try.prog 22 #[.pointer (some ⟨g, 0, none⟩), .int .i64 slot, .int .i64 (z : Int)] w fun e w' => e = .returned (.tuple #[.string (strOf ((cat S (first S slot) (nb z)).take z)), .int .i64 0]) ∧ Below w.heap.size w w' := by
  have HC := check_disk slot w h
  rw [if_neg (by rw [hb]; decide)] at HC
  replace HC := Lib.hid HC
  have HR := Lib.hid (room_disk w h)
  have HX := Lib.hid (rdI_new w)
  have hw1 : DiskAt (w.alloc (.cells #[.pointer none, .slice none 0 0] 83)) F g S := h.below HX.out.below
  have HF := Lib.hid (first_disk slot hb _ hw1)
  have he := each_le h.ok
  have HN := Lib.hid (bfor_any z (by omega) (w.alloc (.cells #[.pointer none, .slice none 0 0] 83)))
  have hn : nb z ≤ each S := by unfold nb; omega
  have hn2 : z ≤ 64 * nb z := by unfold nb; omega
  have hfl := first_le h.ok hb
  have hhi := h.ok.hi
  have hon' : nb z = 0 ∨ S.on = true := hon.imp (fun e => by subst e; rfl) id
  generalize first S slot = b at *
  have HCL : Hid (∀ k, k ≤ nb z → (cat S b k).length = 64 * k) := Lib.hid (cat_length h.ok (by omega))
  have HRL : Hid (∀ j, j < nb z → S.read (b + j) ≠ [] ∧ (S.read (b + j)).length = 64) := Lib.hid (fun j hj => by
    have := read_length h.ok (show b + j < S.L.length by omega)
    exact ⟨fun e => (by rw [e] at this; cases this), this⟩)
  have CR : Hid (∀ (j : Nat) W, j < nb z → Below w.heap.size w W → Calls Try.prog 16 #[.pointer (some ⟨g, 0, none⟩), .int .i64 ((b : Int) + (j : Int))] W fun e w' => e = .returned (.tuple #[.string (strOf (S.read (b + j))), .int .i64 0]) ∧ Below W.heap.size W w') :=
    Lib.hid (fun j W hj hW => read_any F g S (b + j) W (h.below hW) (hon'.resolve_left (by omega)) (by omega) hc)
  have CWR : Hid (∀ (j : Nat) W, j < nb z → RdI w W (cat S b j) → Calls Try.prog 41 #[.pointer (some ⟨w.heap.size, 0, none⟩), .string (strOf (S.read (b + j)))] W fun e w' => e = .returned (.tuple #[.int .i64 (strOf (S.read (b + j))).size, .nilIface]) ∧ RdI w w' (cat S b (j + 1))) :=
    Lib.hid (fun j W hj hW => rd_write hW _ (HRL.out j hj).1 (by rw [HCL.out j (by omega), (HRL.out j hj).2]; omega))
  have z0 : (0 : Int) ≤ (z : Int) := by omega
  have t0 : decide ((z : Int) < 0) = false := decide_eq_false (by omega)
  have z2 : (z : Int) ≤ ((64 * each S : Nat) : Int) := by omega
  generalize ((64 * each S : Nat) : Int) = R at *
  have t1 : decide (R < (z : Int)) = false := decide_eq_false (by omega)
  have z4 : (0 : Int) ≤ (b : Int) := by omega
  have z5 : (b : Int) ≤ 512 := by omega
  have HSZ : Hid (((strOf (cat S b (nb z))).size : Int) = ((64 * nb z : Nat) : Int)) := Lib.hid (by rw [strOf_size, HCL.out _ (Nat.le_refl _)])
  have HTK : Hid ((strOf (cat S b (nb z))).extract 0 z = strOf ((cat S b (nb z)).take z)) := Lib.hid (str_to _ _)
  generalize strOf ((cat S b (nb z)).take z) = OUT at *
  have H0 : Hid (RdI w (w.alloc (.cells #[.pointer none, .slice none 0 0] 83)) (cat S b 0)) := Lib.hid (rdI_new w)
  generalize nb z = n at *
  have hzb := zero_b
  clear h hb hc hon hon' hw1 HX hfl HRL HCL
  go_enter Try.func22, Try.ntmps22
  go_wp2_with fail
  refine HC.out.mono ?_
  rintro e w' ⟨rfl, rfl⟩
  go_wp2_with fail
  refine HR.out.mono ?_
  rintro e w' ⟨rfl, rfl⟩
  go_wp2_with fail
  refine HF.out.mono ?_
  rintro e w' ⟨rfl, rfl⟩
  go_wp2_with fail
  refine HN.out.mono ?_
  rintro e w' ⟨rfl, rfl⟩
  go_wp2
  go_loopw [33] (fun vi wr => ∃ j : Nat, j ≤ n ∧ vi = .int .i64 j ∧ Hid (RdI w wr (cat S b j))) (fun vi _ => n - (intOf vi).toNat)
  case atStart => exact ⟨0, Nat.zero_le _, rfl, H0⟩
  case round =>
    clear H0 HC HR HF HN
    obtain ⟨j, hj, rfl, hI⟩ := hrel
    have y0 : (0 : Int) ≤ (j : Int) := by omega
    have y1 : (j : Int) ≤ 252 := by omega
    by_cases hlt : j < n
    · have y2 : (j : Int) < (n : Int) := by omega
      go_wp2_with fail
      refine (CR.out j wr hlt hI.out.below).mono ?_
      rintro e w1 ⟨rfl, hb1⟩
      have HI1 := Lib.hid (hI.out.later hb1)
      clear hb1 hI
      go_wp2_with fail
      refine (CWR.out j w1 hlt HI1.out).mono ?_
      rintro e w2 ⟨rfl, hI2⟩
      have HI2 := Lib.hid hI2
      clear hI2 HI1
      go_wp2
      go_roundw
      case rel => exact ⟨j + 1, by omega, by go_num, HI2⟩
      case measure => simp [intOf]; omega
    · obtain rfl : j = n := by omega
      have HS := Lib.hid (rd_string hI.out)
      have hsz := HSZ.out
      have htk := HTK.out
      generalize strOf (cat S b j) = X at *
      have x1 : (z : Int) ≤ (X.size : Int) := by omega
      clear hI CR CWR HSZ HTK hsz
      go_wp2_with fail
      refine HS.out.mono ?_
      rintro e w2 ⟨rfl, hI2⟩
      have HI2 := Lib.hid hI2
      clear hI2
      go_wp2
      go_ret2
      exact ⟨rfl, HI2.out⟩

/-- A Read of a slot, as one function over states. -/
theorem d_sr (slot size : Int) (w : World) (h : DiskAt w F g S) (hc : S.c ≤ 2 ^ 40) :
    Calls Try.prog 22 #[.pointer (some ⟨g, 0, none⟩), .int .i64 slot, .int .i64 size] w fun e w' => e = .returned (.tuple #[.string (DS.sr S slot size).1, .int .i64 (DS.sr S slot size).2]) ∧ Below w.heap.size w w' := by
  unfold DS.sr
  by_cases h1 : badSlot slot = true
  · rw [if_pos h1]
    exact (sread_bad slot size w h h1).mono fun _ _ ⟨a, b⟩ => by subst b; exact ⟨a, Below.refl _ _⟩
  · rw [if_neg h1]
    have h1' : badSlot slot = false := by cases e : badSlot slot; rfl; exact absurd e h1
    by_cases h2 : size < 0 ∨ ((64 * each S : Nat) : Int) < size
    · rw [if_pos h2]
      exact (sread_size slot size w h h1' h2).mono fun _ _ ⟨a, b⟩ => by subst b; exact ⟨a, Below.refl _ _⟩
    · rw [if_neg h2]
      obtain ⟨z, rfl⟩ := Int.eq_ofNat_of_zero_le (show 0 ≤ size by omega)
      by_cases h3 : S.on = false ∧ 0 < (z : Int)
      · rw [if_pos h3]
        have hp := h3.2
        exact sread_off slot z w h h1' (by omega) (by omega) h3.1 hc
      · rw [if_neg h3]
        exact sread_go slot z w h h1' (by omega) ((Bool.eq_false_or_eq_true S.on).elim .inr (fun e => .inl (Decidable.byContradiction fun hz => h3 (And.intro e (by omega))))) hc

end Go.Proofs.Ythddiijnomhpfaa.Sl
