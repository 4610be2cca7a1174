/- The walks of blocksPerSlot, Room, check, firstBlock, blocksFor and blockOf: their contracts. The walk of blockOf: its contract. The walk of slots.Write: its contracts. strings.Builder: the walks of copyCheck, WriteString and String: their contracts. The walk of slots.Read: its contracts. No condition but those that each states. -/
import Derived.Test.YtkplmaaeggnbgaaDoorSlP
import Derived.Test.YtkplmaaeggnbgaaDoorDkAz
import Derived.Test.YtkplmaaeggnbgaaDoorDkM
import Derived.Lib.Builder
import Derived.Lib.AppendStr
import Derived.Lib.UnsafeStr
namespace Go.Proofs.YtkplmaaeggnbgaaDoor.Sl
open Go.RowKit Dk

/-- Blocks of it answers n. -/
def Has (p : Option Addr) (n : Nat) (w : World) : Prop := Calls Tryd.prog 119 #[.pointer p] w fun e w' => e = .returned (.int .i64 (n : Int)) ∧ w = w'

theorem has_no {p : Option Addr} {w : World} (h : NoDisk w p) : Has p 0 w := blocks_no p w h
theorem has_disk {F : Nat → Prop} {g : Nat} {S : DS} {w : World} (h : DiskAt w F g S) : Has (some ⟨g, 0, none⟩) S.L.length w := by
  obtain ⟨a, c, hp⟩ := h.dur
  exact blocks_yes g _ c a w h.self hp

theorem tdiv_per (n : Nat) (hn : n ≤ 512) : wrap64 ((max 0 (wrap64 ((n : Int) - 8))).tdiv 2) = ((per n : Nat) : Int) := by
  have e : wrap64 ((n : Int) - 8) = (n : Int) - 8 := by unfold wrap64; omega
  rw [e, Int.tdiv_eq_ediv_of_nonneg (Int.le_max_left _ _)]
  unfold per wrap64
  omega

set_option maxHeartbeats 400000 in
theorem per_any (p : Option Addr) (n : Nat) (hn : n ≤ 512) (w : World) (h : Has p n w) :
    Calls Tryd.prog 108 #[.pointer p] w fun e w' => e = .returned (.int .i64 ((per n : Nat) : Int)) ∧ w = w' := by
  have H := Lib.hid (tdiv_per n hn)
  have HC := Lib.hid h
  clear h hn
  go_enter Tryd.func108, Tryd.ntmps108
  go_wp2_with fail
  refine HC.out.mono ?_
  rintro e w' ⟨rfl, rfl⟩
  go_wp2
  go_ret
  exact ⟨congrArg (fun x : Int => Ending.returned (.int .i64 x)) H.out, rfl⟩

theorem per_le {n : Nat} (h : n ≤ 512) : per n ≤ 252 := by unfold per; omega

set_option maxHeartbeats 400000 in
theorem room_any (p : Option Addr) (n : Nat) (hn : n ≤ 512) (w : World) (h : Has p n w) :
    Calls Tryd.prog 90 #[.pointer p] w fun e w' => e = .returned (.int .i64 ((64 * per n : Nat) : Int)) ∧ w = w' := by
  have HC := Lib.hid (per_any p n hn w h)
  have hp := per_le hn
  have H : Hid (wrap64 (((per n : Nat) : Int) * 64) = ((64 * per n : Nat) : Int)) := Lib.hid (by unfold wrap64; omega)
  clear h hn hp
  generalize per n = k at *
  go_enter Tryd.func90, Tryd.ntmps90
  go_wp2_with fail
  refine HC.out.mono ?_
  rintro e w' ⟨rfl, rfl⟩
  go_wp2
  go_ret
  exact ⟨congrArg (fun x : Int => Ending.returned (.int .i64 x)) H.out, rfl⟩

set_option maxHeartbeats 400000 in
theorem first_any (p : Option Addr) (n : Nat) (hn : n ≤ 512) (slot : Int) (h0 : badSlot slot = false) (w : World) (h : Has p n w) :
    Calls Tryd.prog 91 #[.pointer p, .int .i64 slot] w fun e w' => e = .returned (.int .i64 ((8 + slot.toNat * per n : Nat) : Int)) ∧ w = w' := by
  have HC := Lib.hid (per_any p n hn w h)
  have hp := per_le hn
  have H : Hid (wrap64 (8 + wrap64 (slot * ((per n : Nat) : Int))) = ((8 + slot.toNat * per n : Nat) : Int)) := Lib.hid (by
    have h1 := of_decide_eq_false h0
    rcases (show slot = 0 ∨ slot = 1 by omega) with rfl | rfl
    · unfold wrap64; simp
    · unfold wrap64; simp; omega)
  clear h hn hp h0
  generalize per n = k at *
  go_enter Tryd.func91, Tryd.ntmps91
  go_wp2_with fail
  refine HC.out.mono ?_
  rintro e w' ⟨rfl, rfl⟩
  go_wp2
  go_ret
  exact ⟨congrArg (fun x : Int => Ending.returned (.int .i64 x)) H.out, rfl⟩

set_option maxHeartbeats 400000 in
theorem bfor_any (n : Nat) (hn : n ≤ 2 ^ 40) (w : World) :
    Calls Tryd.prog 92 #[.int .i64 (n : Int)] w fun e w' => e = .returned (.int .i64 ((nb n : Nat) : Int)) ∧ w = w' := by
  have H : Hid (wrap64 ((wrap64 (wrap64 ((n : Int) + 64) - 1)).tdiv 64) = ((nb n : Nat) : Int)) := Lib.hid (by
    have e1 : wrap64 ((n : Int) + 64) = (n : Int) + 64 := by unfold wrap64; omega
    have e2 : wrap64 ((n : Int) + 64 - 1) = (n : Int) + 63 := by unfold wrap64; omega
    rw [e1, e2, Int.tdiv_eq_ediv_of_nonneg (by omega)]
    unfold nb wrap64
    omega)
  clear hn
  go_enter Tryd.func92, Tryd.ntmps92
  go_wp2
  go_ret
  exact ⟨congrArg (fun x : Int => Ending.returned (.int .i64 x)) H.out, rfl⟩

set_option maxHeartbeats 400000 in
theorem check_no (p : Option Addr) (n : Nat) (h0 : per n = 0) (hn : n ≤ 512) (slot : Int) (w : World) (h : Has p n w) :
    Calls Tryd.prog 89 #[.pointer p, .int .i64 slot] w fun e w' => e = .returned (.int .i64 16) ∧ w = w' := by
  have HC := per_any p n hn w h
  rw [h0] at HC
  replace HC := Lib.hid HC
  clear h hn h0
  go_enter Tryd.func89, Tryd.ntmps89
  go_wp2_with fail
  refine HC.out.mono ?_
  rintro e w' ⟨rfl, rfl⟩
  go_wp2
  go_ret
  exact ⟨rfl, rfl⟩

set_option maxHeartbeats 1000000 in
theorem check_yes (p : Option Addr) (n : Nat) (h0 : 16 ≤ n) (hn : n ≤ 512) (slot : Int) (w : World) (h : Has p n w) :
    Calls Tryd.prog 89 #[.pointer p, .int .i64 slot] w fun e w' => e = .returned (.int .i64 (if badSlot slot = true then 1 else 0)) ∧ w = w' := by
  have HC := per_any p n hn w h
  have h1 : ¬(((per n : Nat) : Int) = 0) := by unfold per; omega
  have HC := Lib.hid HC
  clear h hn h0
  generalize ((per n : Nat) : Int) = k at *
  have e1 : decide (k = 0) = false := decide_eq_false h1
  by_cases h2 : slot < 0
  · have e2 : decide (slot < 0) = true := decide_eq_true h2
    rw [if_pos (show badSlot slot = true from decide_eq_true (.inl h2))]
    go_enter Tryd.func89, Tryd.ntmps89
    go_wp2_with fail
    refine HC.out.mono ?_
    rintro e w' ⟨rfl, rfl⟩
    go_wp2
    go_ret
    exact ⟨rfl, rfl⟩
  · have e2 : decide (slot < 0) = false := decide_eq_false h2
    by_cases h3 : 2 ≤ slot
    · have e3 : decide (2 ≤ slot) = true := decide_eq_true h3
      rw [if_pos (show badSlot slot = true from decide_eq_true (.inr h3))]
      go_enter Tryd.func89, Tryd.ntmps89
      go_wp2_with fail
      refine HC.out.mono ?_
      rintro e w' ⟨rfl, rfl⟩
      go_wp2
      go_ret
      exact ⟨rfl, rfl⟩
    · have e3 : decide (2 ≤ slot) = false := decide_eq_false h3
      rw [if_neg (show ¬badSlot slot = true from fun e => (of_decide_eq_true e).elim h2 h3)]
      go_enter Tryd.func89, Tryd.ntmps89
      go_wp2_with fail
      refine HC.out.mono ?_
      rintro e w' ⟨rfl, rfl⟩
      go_wp2
      go_ret
      exact ⟨rfl, rfl⟩

end Go.Proofs.YtkplmaaeggnbgaaDoor.Sl
namespace Go.Proofs.YtkplmaaeggnbgaaDoor.Sl
open Go.RowKit Dk

theorem zero_arr (W : World) : (zeroValue 25).run Tryd.prog W = .ok (.agg (List.replicate 64 (Value.int .u8 0)).toArray) W := by kernel_rfl

theorem str_from (s : ByteArray) (k : Nat) : s.extract k s.size = strOf (s.data.toList.drop k) := by
  have e : (s.extract k s.size).data.toList = s.data.toList.drop k := by
    simp [ByteArray.data_extract]
    exact List.take_of_length_le (by simp)
  rw [← e, strOf_self]

theorem bv_zeros (n : Nat) : bv (List.replicate n 0) = List.replicate n (.int .u8 0) := by simp [bv]

set_option maxHeartbeats 2000000 in
set_option maxRecDepth 100000 in
theorem blockOf_any (s : ByteArray) (i : Nat) (hs : s.size ≤ 2 ^ 40) (hi : 64 * i ≤ s.size) (w : World) :
    Calls Tryd.prog 95 #[.string s, .int .i64 (i : Int)] w fun e w' => e = .returned (.string (strOf (blkOf s.data.toList i))) ∧ Below w.heap.size w w' := by
  have hz := zero_arr
  have hsl := slice_all (P := Tryd.prog) 25 5 64 (by kernel_rfl) (by kernel_rfl)
  have q1 : IntKind.i64.wrap ((i : Int) * 64) = (i : Int) * 64 := IntWalk.i64_in _ (by omega)
  have q2 : (0 : Int) ≤ (i : Int) * 64 := by omega
  have q3 : (i : Int) * 64 ≤ (s.size : Int) := by omega
  obtain ⟨T, hT⟩ : ∃ T : Bytes, T = (s.data.toList.drop (64 * i)).take 64 := ⟨_, rfl⟩
  have hTl : T.length ≤ 64 := by rw [hT, List.length_take]; exact Nat.min_le_left _ _
  have HX : Hid (s.extract (i * 64) s.size = strOf (s.data.toList.drop (64 * i))) := Lib.hid (by rw [str_from, Nat.mul_comm])
  have HXS : Hid (T.length = Nat.min (s.extract (i * 64) s.size).size 64) := Lib.hid (by rw [HX.out, strOf_size, hT, List.length_take, Nat.min_comm])
  have HXT : Hid ((s.extract (i * 64) s.size).data.toList.take T.length = T) := Lib.hid (by
    rw [HX.out, strOf_toList]
    rw [hT, List.length_take]
    rw [List.take_eq_take_iff]
    omega)
  have HB : Hid (blkOf s.data.toList i = T ++ List.replicate (64 - T.length) 0) := Lib.hid (by unfold blkOf; rw [← hT])
  have HBL := Lib.hid (blkOf_length s.data.toList i)
  generalize blkOf s.data.toList i = BL at *
  have HTH : Hid ((w.alloc (.cells (List.replicate 64 (Value.int .u8 0)).toArray 25)).drew.there w.heap.size 0 64) := Lib.hid (by
    have h := there_new w (List.replicate 64 (Value.int .u8 0)).toArray 25
    have h2 : (w.alloc (.cells (List.replicate 64 (Value.int .u8 0)).toArray 25)).there w.heap.size 0 64 := by simpa using h
    exact there_block h2 rfl)
  have HRZ : Hid ((w.alloc (.cells (List.replicate 64 (Value.int .u8 0)).toArray 25)).drew.rangeAt w.heap.size 0 (List.replicate 64 (Value.int .u8 0))) := Lib.hid (rangeAt_block (range_new _ _ _) rfl)
  have HW4 : Hid (Below w.heap.size w (w.alloc (.cells (List.replicate 64 (Value.int .u8 0)).toArray 25)).drew) := Lib.hid ((Below.refl _ _).alloc (Nat.le_refl _) _).drew
  have hcp := run_copy_string (P := Tryd.prog) (w.alloc (.cells (List.replicate 64 (Value.int .u8 0)).toArray 25)).drew 85 9 3 5 w.heap.size 0 64 64 T.length (s.extract (i * 64) s.size) (by kernel_rfl) (by kernel_rfl) HXS.out (fun j hj => HTH.out j (by omega))
  rw [HXT.out] at hcp
  have HW5 : Hid (Below w.heap.size w ((w.alloc (.cells (List.replicate 64 (Value.int .u8 0)).toArray 25)).drew.setCells w.heap.size 0 (bv T))) := Lib.hid (below_setCells HW4.out _ (Nat.le_refl _) _ _ _ HW4.out)
  have HR5 : Hid (((w.alloc (.cells (List.replicate 64 (Value.int .u8 0)).toArray 25)).drew.setCells w.heap.size 0 (bv T)).rangeAt w.heap.size 0 (bv BL)) := Lib.hid (by
    rw [HB.out, bv_append, bv_zeros]
    refine rangeAt_add (World.rangeAt_setCells_same _ _ _ _ (fun j hj => HTH.out j (by rw [bv_length] at hj; omega))) ?_
    have h1 : (w.alloc (.cells (List.replicate 64 (Value.int .u8 0)).toArray 25)).drew.rangeAt w.heap.size (0 + T.length) (List.replicate (64 - T.length) (Value.int .u8 0)) := rangeAt_right (xs := List.replicate T.length (Value.int .u8 0)) (ys := List.replicate (64 - T.length) (Value.int .u8 0)) (o := 0) (n := T.length) (by rw [List.replicate_append_replicate, show T.length + (64 - T.length) = 64 by omega]; exact HRZ.out) (by simp)
    rw [bv_length]
    exact World.rangeAt_setCells_apart h1 _ _ _ (.inr (.inr (by rw [bv_length]; omega))))
  generalize (List.replicate 64 (Value.int .u8 0)).toArray = Z at *
  have hcv := convert_range (P := Tryd.prog) (w := (w.alloc (.cells Z 25)).drew.setCells w.heap.size 0 (bv T)) (src := 85) (dst := 9) w.heap.size 0 64 64 BL Tryd.underlying85 Tryd.underlying5 Tryd.underlying9 HBL.out HR5.out
  clear HTH HRZ HW4 hT HX HXS HXT HB HR5
  generalize hW5 : (w.alloc (.cells Z 25)).drew.setCells w.heap.size 0 (bv T) = W5 at *
  go_enter Tryd.func95, Tryd.ntmps95
  go_wp2_with fail
  go_region
  all_goals (go_wp2; go_ret; exact ⟨rfl, HW5.out⟩)

end Go.Proofs.YtkplmaaeggnbgaaDoor.Sl
namespace Go.Proofs.YtkplmaaeggnbgaaDoor.Sl
open Go.RowKit Dk

set_option maxHeartbeats 400000 in
theorem swrite_no (p : Option Addr) (slot : Int) (s : ByteArray) (w : World) (h : NoDisk w p) :
    Calls Tryd.prog 76 #[.pointer p, .int .i64 slot, .string s] w fun e w' => e = .returned (.int .i64 16) ∧ w = w' := by
  have HC := Lib.hid (check_no p 0 (by decide) (by decide) slot w (has_no h))
  clear h
  go_enter Tryd.func76, Tryd.ntmps76
  go_wp2_with fail
  refine HC.out.mono ?_
  rintro e w' ⟨rfl, rfl⟩
  go_wp2
  go_ret
  exact ⟨rfl, rfl⟩

variable {F : Nat → Prop} {g : Nat} {S : DS}

theorem check_disk (slot : Int) (w : World) (h : DiskAt w F g S) :
    Calls Tryd.prog 89 #[.pointer (some ⟨g, 0, none⟩), .int .i64 slot] w fun e w' => e = .returned (.int .i64 (if badSlot slot = true then 1 else 0)) ∧ w = w' :=
  check_yes _ _ h.ok.lo h.ok.hi slot w (has_disk h)
theorem room_disk (w : World) (h : DiskAt w F g S) :
    Calls Tryd.prog 90 #[.pointer (some ⟨g, 0, none⟩)] w fun e w' => e = .returned (.int .i64 ((64 * each S : Nat) : Int)) ∧ w = w' :=
  room_any _ _ h.ok.hi w (has_disk h)
theorem first_disk (slot : Int) (h0 : badSlot slot = false) (w : World) (h : DiskAt w F g S) :
    Calls Tryd.prog 91 #[.pointer (some ⟨g, 0, none⟩), .int .i64 slot] w fun e w' => e = .returned (.int .i64 ((first S slot : Nat) : Int)) ∧ w = w' :=
  first_any _ _ h.ok.hi slot h0 w (has_disk h)
theorem each_le (h : S.Ok) : each S ≤ 252 := per_le h.hi
theorem first_le (h : S.Ok) {slot : Int} (h0 : badSlot slot = false) : first S slot + each S ≤ S.L.length := by
  have h1 := of_decide_eq_false h0
  have := h.lo
  unfold first each per
  rcases (show slot = 0 ∨ slot = 1 by omega) with rfl | rfl
  · simp; omega
  · simp; omega

set_option maxHeartbeats 400000 in
theorem swrite_bad (slot : Int) (s : ByteArray) (w : World) (h : DiskAt w F g S) (hb : badSlot slot = true) :
    Calls Tryd.prog 76 #[.pointer (some ⟨g, 0, none⟩), .int .i64 slot, .string s] w fun e w' => e = .returned (.int .i64 1) ∧ w = w' := by
  have HC := check_disk slot w h
  rw [if_pos hb] at HC
  replace HC := Lib.hid HC
  clear h hb
  go_enter Tryd.func76, Tryd.ntmps76
  go_wp2_with fail
  refine HC.out.mono ?_
  rintro e w' ⟨rfl, rfl⟩
  go_wp2
  go_ret
  exact ⟨rfl, rfl⟩

set_option maxHeartbeats 400000 in
theorem swrite_full (slot : Int) (s : ByteArray) (w : World) (h : DiskAt w F g S) (hb : badSlot slot = false) (hf : 64 * each S < s.size) :
    Calls Tryd.prog 76 #[.pointer (some ⟨g, 0, none⟩), .int .i64 slot, .string s] w fun e w' => e = .returned (.int .i64 6) ∧ w = w' := by
  have HC := check_disk slot w h
  rw [if_neg (by rw [hb]; decide)] at HC
  replace HC := Lib.hid HC
  have HR := Lib.hid (room_disk w h)
  have hf' : ((64 * each S : Nat) : Int) < (s.size : Int) := by omega
  generalize ((64 * each S : Nat) : Int) = R at *
  have t1 : decide (R < (s.size : Int)) = true := decide_eq_true hf'
  clear h hb hf
  go_enter Tryd.func76, Tryd.ntmps76
  go_wp2_with fail
  refine HC.out.mono ?_
  rintro e w' ⟨rfl, rfl⟩
  go_wp2_with fail
  refine HR.out.mono ?_
  rintro e w' ⟨rfl, rfl⟩
  go_wp2
  go_ret
  exact ⟨rfl, rfl⟩

/-- While the blocks are written. -/
structure WrI (w wr : World) (F : Nat → Prop) (g : Nat) (T : DS) : Prop where
  d : DiskAt wr (More F w) g T
  only : Only F w wr

theorem WrI.later {w wr w' : World} {T : DS} (h : WrI w wr F g T) (k : Below wr.heap.size wr w') : WrI w w' F g T := ⟨h.d.below k, h.only.trans (Only.of_below (F := F) k) (fun _ _ h => h)⟩
theorem WrI.next {w wr w' : World} {T U : DS} (h : WrI w wr F g T) (hd : DiskAt w' (More (More F w) wr) g U) (k : Only (More F w) wr w') : WrI w w' F g U :=
  ⟨hd.mono (fun _ e => e.elim id (fun e => .inr (Nat.le_trans h.only.size e))), h.only.trans k (fun _ hi e => e.elim id (fun e => absurd hi (Nat.not_lt.2 e)))⟩
theorem WrI.of {w w' : World} {U : DS} (hd : DiskAt w' (More F w) g U) (k : Only F w w') : WrI w w' F g U := ⟨hd, k⟩

set_option maxHeartbeats 2000000 in
set_option maxRecDepth 100000 in
theorem swrite_go (slot : Int) (s : ByteArray) (w : World) (h : DiskAt w F g S) (hb : badSlot slot = false) (hf : s.size ≤ 64 * each S) (hc : S.c + 1000 ≤ 2 ^ 40) (ho : S.ops + 1000 ≤ 2 ^ 40) :
    Calls Tryd.prog 76 #[.pointer (some ⟨g, 0, none⟩), .int .i64 slot, .string s] w fun e w' => e = .returned (.int .i64 (if (wrs S (first S slot) s.data.toList (nb s.size)).2 = 0 then (wrs S (first S slot) s.data.toList (nb s.size)).1.sy else wrs S (first S slot) s.data.toList (nb s.size)).2) ∧ WrI w w' F g (if (wrs S (first S slot) s.data.toList (nb s.size)).2 = 0 then (wrs S (first S slot) s.data.toList (nb s.size)).1.sy else wrs S (first S slot) s.data.toList (nb s.size)).1 := by
  have HC := check_disk slot w h
  rw [if_neg (by rw [hb]; decide)] at HC
  replace HC := Lib.hid HC
  have HR := Lib.hid (room_disk w h)
  have HF := Lib.hid (first_disk slot hb w h)
  have he := each_le h.ok
  have hfl := first_le h.ok hb
  have hhi := h.ok.hi
  have HN := Lib.hid (bfor_any s.size (by omega) w)
  have hn : nb s.size ≤ each S := by unfold nb; omega
  have hf' : (s.size : Int) ≤ ((64 * each S : Nat) : Int) := by omega
  have hlast : ∀ j, j < nb s.size → 64 * j ≤ s.size := fun j hj => by unfold nb at hj; omega
  generalize hB : first S slot = b at *
  have CB : Hid (∀ (j : Nat) W, j < nb s.size → Calls Tryd.prog 95 #[.string s, .int .i64 (j : Int)] W fun e w' => e = .returned (.string (strOf (blkOf s.data.toList j))) ∧ Below W.heap.size W w') :=
    Lib.hid (fun j W hj => blockOf_any s j (by omega) (hlast j hj) W)
  have CW : Hid (∀ (j : Nat) W, j < nb s.size → (wrs S b s.data.toList j).2 = 0 → WrI w W F g (wrs S b s.data.toList j).1 → Calls Tryd.prog 20 #[.pointer (some ⟨g, 0, none⟩), .int .i64 ((b : Int) + (j : Int)), .string (strOf (blkOf s.data.toList j))] W fun e w' => e = .returned (.int .i64 (wrs S b s.data.toList (j + 1)).2) ∧ WrI w w' F g (wrs S b s.data.toList (j + 1)).1) :=
    Lib.hid (fun j W hj h0 hW => by
      have hfew := wrs_few S b s.data.toList j
      have := d_write ((b + j : Nat) : Int) (strOf (blkOf s.data.toList j)) W hW.d (by omega) (by omega)
      have e : wrs S b s.data.toList (j + 1) = (wrs S b s.data.toList j).1.wr ((b + j : Nat) : Int) (strOf (blkOf s.data.toList j)) := by
        show (if _ then _ else _) = _
        rw [if_pos h0]
      rw [e]
      exact this.mono fun _ _ ⟨a, c, d⟩ => ⟨a, hW.next c d⟩)
  have CS : Hid (∀ W, WrI w W F g (wrs S b s.data.toList (nb s.size)).1 → Calls Tryd.prog 22 #[.pointer (some ⟨g, 0, none⟩)] W fun e w' => e = .returned (.int .i64 (wrs S b s.data.toList (nb s.size)).1.sy.2) ∧ WrI w w' F g (wrs S b s.data.toList (nb s.size)).1.sy.1) :=
    Lib.hid (fun W hW => by
      have hfew := wrs_few S b s.data.toList (nb s.size)
      exact (d_sync W hW.d (by omega) (by omega)).mono fun _ _ ⟨a, c, d⟩ => ⟨a, hW.next c d⟩)
  have HS : Hid (∀ k n, k ≤ n → (wrs S b s.data.toList k).2 ≠ 0 → wrs S b s.data.toList n = wrs S b s.data.toList k) := Lib.hid (fun k n hk h0 => wrs_stop S b s.data.toList h0 n hk)
  have HK : Hid (∀ k, (wrs S b s.data.toList k).2 = 0 → (wrs S b s.data.toList (k + 1)).2 = 0 ∨ (wrs S b s.data.toList (k + 1)).2 = 1 ∨ (wrs S b s.data.toList (k + 1)).2 = 7) := Lib.hid (fun k h0 => by
    show (if _ then _ else _ : DS × Int).2 = 0 ∨ (if _ then _ else _ : DS × Int).2 = 1 ∨ (if _ then _ else _ : DS × Int).2 = 7
    rw [if_pos h0]
    exact wr_codes _ _ _)
  have H0 : Hid (WrI w w F g (wrs S b s.data.toList 0).1) := Lib.hid ⟨h.more, Only.refl _ _⟩
  have H00 : (wrs S b s.data.toList 0).2 = 0 := rfl
  generalize wrs S b s.data.toList = q at *
  have HZ : Hid ((q (nb s.size)).2 = 0 → (if (q (nb s.size)).2 = 0 then (q (nb s.size)).1.sy else q (nb s.size)) = (q (nb s.size)).1.sy) := Lib.hid (fun h => if_pos h)
  have HY : Hid ((q (nb s.size)).2 ≠ 0 → (if (q (nb s.size)).2 = 0 then (q (nb s.size)).1.sy else q (nb s.size)) = q (nb s.size)) := Lib.hid (fun h => if_neg h)
  generalize (if (q (nb s.size)).2 = 0 then (q (nb s.size)).1.sy else q (nb s.size)) = Z at *
  generalize nb s.size = n at *
  generalize ((64 * each S : Nat) : Int) = R at *
  have t1 : decide (R < (s.size : Int)) = false := decide_eq_false (by omega)
  clear h hb hf hc ho hlast hB
  go_enter Tryd.func76, Tryd.ntmps76
  go_wp2_with fail
  refine HC.out.mono ?_
  rintro e w' ⟨rfl, rfl⟩
  go_wp2_with fail
  refine HR.out.mono ?_
  rintro e w' ⟨rfl, rfl⟩
  go_wp2_with fail
  refine HF.out.mono ?_
  rintro e w' ⟨rfl, rfl⟩
  go_wp2_with fail
  refine HN.out.mono ?_
  rintro e w' ⟨rfl, rfl⟩
  go_wp2
  go_loopw [28] (fun vi wr => ∃ j : Nat, j ≤ n ∧ vi = .int .i64 j ∧ (q j).2 = 0 ∧ Hid (WrI w wr F g (q j).1)) (fun vi _ => n - (intOf vi).toNat)
  case atStart => exact ⟨0, Nat.zero_le _, rfl, H00, H0⟩
  case round =>
    clear H0 H00 HC HR HF HN
    obtain ⟨j, hj, rfl, h0, hI⟩ := hrel
    have z0 : (0 : Int) ≤ (j : Int) := by omega
    have z1 : (j : Int) ≤ 252 := by omega
    by_cases hlt : j < n
    · have z2 : (j : Int) < (n : Int) := by omega
      have z3 : (0 : Int) ≤ (b : Int) := by omega
      have z4 : (b : Int) ≤ 512 := by omega
      go_wp2_with fail
      refine (CB.out j wr hlt).mono ?_
      rintro e w1 ⟨rfl, hb1⟩
      have HI1 := Lib.hid (hI.out.later hb1)
      clear hb1 hI
      go_wp2_with fail
      refine (CW.out j w1 hlt h0 HI1.out).mono ?_
      rintro e w2 ⟨rfl, hI2⟩
      have HI2 := Lib.hid hI2
      clear hI2 HI1
      have hk := HK.out j h0
      have HE := Lib.hid (HS.out (j + 1) n (by omega))
      have HQ : Hid (∃ x, (q (j + 1)).2 = x) := Lib.hid ⟨_, rfl⟩
      obtain ⟨x, hx⟩ := HQ.out
      rw [hx] at hk ⊢
      rcases hk with rfl | rfl | rfl
      · go_wp2
        go_roundw
        case rel => exact ⟨j + 1, by omega, by go_num, hx, HI2⟩
        case measure => simp [intOf]; omega
      · go_wp2
        go_ret
        have hq := HE.out (by rw [hx]; decide)
        rw [HY.out (by rw [hq, hx]; decide), hq]
        exact ⟨by rw [hx]; rfl, HI2.out⟩
      · go_wp2
        go_ret
        have hq := HE.out (by rw [hx]; decide)
        rw [HY.out (by rw [hq, hx]; decide), hq]
        exact ⟨by rw [hx]; rfl, HI2.out⟩
    · obtain rfl : j = n := by omega
      go_wp2_with fail
      refine (CS.out wr hI.out).mono ?_
      rintro e w2 ⟨rfl, hI2⟩
      have HI2 := Lib.hid hI2
      clear hI2
      go_wp2
      go_ret
      rw [HZ.out h0]
      exact ⟨rfl, HI2.out⟩

/-- A Write of a slot, as one function over states. -/
theorem d_sw (slot : Int) (s : ByteArray) (w : World) (h : DiskAt w F g S) (hc : S.c + 1000 ≤ 2 ^ 40) (ho : S.ops + 1000 ≤ 2 ^ 40) :
    Calls Tryd.prog 76 #[.pointer (some ⟨g, 0, none⟩), .int .i64 slot, .string s] w fun e w' => e = .returned (.int .i64 (DS.sw S slot s).2) ∧ DiskAt w' (More F w) g (DS.sw S slot s).1 ∧ Only F w w' := by
  unfold DS.sw
  by_cases h1 : badSlot slot = true
  · rw [if_pos h1]
    exact (swrite_bad slot s w h h1).mono fun _ _ ⟨a, b⟩ => by subst b; exact ⟨a, h.more, Only.refl _ _⟩
  · rw [if_neg h1]
    have h1' : badSlot slot = false := by cases e : badSlot slot; rfl; exact absurd e h1
    by_cases h2 : 64 * each S < s.size
    · rw [if_pos h2]
      exact (swrite_full slot s w h h1' h2).mono fun _ _ ⟨a, b⟩ => by subst b; exact ⟨a, h.more, Only.refl _ _⟩
    · rw [if_neg h2]
      exact (swrite_go slot s w h h1' (by omega) hc ho).mono fun _ _ ⟨a, b⟩ => ⟨a, b.d, b.only⟩

end Go.Proofs.YtkplmaaeggnbgaaDoor.Sl
namespace Go.Proofs.YtkplmaaeggnbgaaDoor.Sl
open Go.RowKit Dk

theorem b_info : (Tryd.prog.info? 146).map (·.size) = some 2 := by kernel_rfl
theorem b_lies : liesAt Tryd.prog Tryd.prog.depth 146 (2 / Tryd.prog.cellsOf 146) 0 146 1 = true := by kernel_rfl
theorem b_ne : 146 ≠ 5 := by decide
theorem b_cells : Tryd.prog.cellsOf 5 = 1 := by kernel_rfl

/-- A builder of the call's own: block b, from B on, holds the bytes l. -/
abbrev IsB (B b : Nat) (l : Bytes) (w : World) : Prop := Lib.IsBuilder 146 5 B b (Lib.byteCells l) w

theorem isB_new (w : World) : IsB w.heap.size w.heap.size [] (w.alloc (.cells #[.pointer none, .slice none 0 0] 146)) := Lib.fresh_isBuilder _ _ w

theorem neq_self (a : Addr) (w : World) : (binOp .neq 144 (.pointer (some a)) (.pointer (some a))).run Tryd.prog w = .ok (.bool false) w := by
  obtain ⟨j, hj, _⟩ := Option.map_eq_some_iff.1 b_info
  exact Lib.run_neq_ptr_same w a Tryd.underlying144 hj

theorem eql_no (w : World) : (binOp .eql 144 (.pointer none) (.pointer none)).run Tryd.prog w = .ok (.bool true) w := by kernel_rfl
theorem eql_some (a : Addr) (w : World) : (binOp .eql 144 (.pointer (some a)) (.pointer none)).run Tryd.prog w = .ok (.bool false) w := by kernel_rfl

set_option maxHeartbeats 1000000 in
set_option maxRecDepth 100000 in
theorem check_used (b : Nat) (w : World) (h0 : w.cell? ⟨b, 0, none⟩ = some (.pointer (some ⟨b, 0, none⟩))) :
    Calls Tryd.prog 109 #[.pointer (some ⟨b, 0, none⟩)] w fun e w' => e = .returned (.tuple #[]) ∧ w = w' := by
  have hn := neq_self
  go_enter Tryd.func109, Tryd.ntmps109
  go_wp2
  go_end0
  exact ⟨rfl, rfl⟩

set_option maxHeartbeats 1000000 in
set_option maxRecDepth 100000 in
theorem check_fresh (b : Nat) (w : World) (h0 : w.cell? ⟨b, 0, none⟩ = some (.pointer none)) (hsh : w.shape? b = some (146, 2)) (hfz : w.frozen? ⟨b, 0, none⟩ = false) :
    Calls Tryd.prog 109 #[.pointer (some ⟨b, 0, none⟩)] w fun e w' => e = .returned (.tuple #[]) ∧ w.setCell ⟨b, 0, none⟩ (.pointer (some ⟨b, 0, none⟩)) = w' := by
  obtain ⟨j, hj, hjs⟩ := Option.map_eq_some_iff.1 b_info
  have hn := neq_self
  have c1 := Lib.run_to_unsafe (P := Tryd.prog) (src := 144) (dst := 173) w ⟨b, 0, none⟩ Tryd.underlying144 Tryd.underlying173 hj (by rw [hjs]; decide) hsh (Nat.zero_lt_succ 1)
  have c2 := Lib.run_from_unsafe (P := Tryd.prog) (src := 173) (dst := 144) w ⟨b, 0, none⟩ Tryd.underlying173 Tryd.underlying144 hj hsh b_lies
  have hx : (callFunc 120 #[.pointer (some ⟨b, 0, none⟩)]).run Tryd.prog w = .ok (.value (.pointer (some ⟨b, 0, none⟩))) w := by kernel_rfl
  clear hj hjs hsh
  go_enter Tryd.func109, Tryd.ntmps109
  go_wp2
  go_end0
  exact ⟨rfl, rfl⟩

theorem check_any (B b : Nat) (l : List Value) (w : World) (h : Lib.IsBuilder 146 5 B b l w) :
    Calls Tryd.prog 109 #[.pointer (some ⟨b, 0, none⟩)] w fun e w' => e = .returned (.tuple #[]) ∧ Lib.BuilderAt 146 5 B b (.pointer (some ⟨b, 0, none⟩)) l w' ∧ Below B w w' := by
  rcases h with h | h
  · exact (check_fresh b w h.cell0 h.shape h.frozen0).mono fun e w' ⟨a, c⟩ => by subst c; exact ⟨a, h.used _, (Below.refl B w).setCell (p := ⟨b, 0, none⟩) h.1 _⟩
  · exact (check_used b w h.cell0).mono fun e w' ⟨a, c⟩ => by subst c; exact ⟨a, h, Below.refl B _⟩

set_option maxHeartbeats 2000000 in
set_option maxRecDepth 100000 in
theorem write_string (B b : Nat) (l : Bytes) (s : ByteArray) (w : World) (h : IsB B b l w) (hlen : l.length + s.size ≤ 2 ^ 40) (hBw : B ≤ w.heap.size) :
    Calls Tryd.prog 93 #[.pointer (some ⟨b, 0, none⟩), .string s] w fun e w' => e = .returned (.tuple #[.int .i64 s.size, .nilIface]) ∧ IsB B b (l ++ s.data.toList) w' ∧ Below B w w' := by
  obtain ⟨i0, hi, hz0, hz1, hz2⟩ := info_parts Tryd.info5
  have hC := Lib.hid (check_any B b _ w h)
  have hl := Lib.hid (Lib.byteCells_length l)
  have hR : Hid (Lib.byteCells (l ++ s.data.toList) = Lib.byteCells l ++ Lib.strCells s) := Lib.hid (by rw [Lib.byteCells_append, Lib.strCells_eq])
  have hs := Lib.strCells_length s
  show Calls _ _ _ w fun e w' => _ ∧ Lib.IsBuilder _ _ B b (Lib.byteCells (l ++ s.data.toList)) w' ∧ _
  rw [hR.out]
  generalize Lib.byteCells l = bs at *
  go_enter Tryd.func93, Tryd.ntmps93
  go_wp2_with fail
  refine hC.out.mono ?_
  rintro e w1 ⟨rfl, h1, hb1⟩
  obtain ⟨hB, v, hbk, hown, hne⟩ := h1
  have c0 : w1.cell? ⟨b, 0, none⟩ = some (.pointer (some ⟨b, 0, none⟩)) := by rw [Lib.cell_of_heap hbk]; rfl
  have c1 : w1.cell? ⟨b, 1, none⟩ = some v := by rw [Lib.cell_of_heap hbk]; rfl
  go_wp2_with (at_builtin; refine Lib.wpList_append_own_string _ rfl _ _ 85 9 rfl B 5 i0 Tryd.underlying85 Tryd.underlying9 hi hz0 hz1 hz2 _ _ _ rfl hown s rfl ?c3 ?c4 ?c5 ?_)
  case c3 => unfold maxLen; rw [hl.out]; omega
  case c4 => rw [hl.out]; omega
  case c5 => have := hb1.size; omega
  intro v' w2 hown' hgrow _
  have hlt : b < w1.heap.size := by
    rcases Nat.lt_or_ge b w1.heap.size with h' | h'
    · exact h'
    · simp [Array.getElem?_eq_none h'] at hbk
  have hb2 : w2.heap[b]? = some (.cells #[.pointer (some ⟨b, 0, none⟩), v] 146 (0, 0)) := by
    rw [hgrow.block b hlt (fun e => hne e.symm)]
    exact hbk
  have d1 : w2.cell? ⟨b, 1, none⟩ = some v := by rw [Lib.cell_of_heap hb2]; rfl
  have f1 : w2.frozen? ⟨b, 1, none⟩ = false := Lib.frozen_of_heap hb2 1
  obtain ⟨ao, n', cap, rfl⟩ : ∃ ao n' cap, v' = .slice ao n' cap := by
    rcases hown'.2 with ⟨hv, _⟩ | ⟨g, cap, cur, hv, _⟩
    · exact ⟨_, _, _, hv⟩
    · exact ⟨_, _, _, hv⟩
  have HF : Hid (Lib.BuilderAt 146 5 B b (.pointer (some ⟨b, 0, none⟩)) (bs ++ Lib.strCells s) (w2.setCell ⟨b, 1, none⟩ (.slice ao n' cap))) := Lib.hid (Lib.BuilderAt.put hB hb2 (by rw [List.length_append, hs]; exact hown') b_ne)
  have HG : Hid (Below B w (w2.setCell ⟨b, 1, none⟩ (.slice ao n' cap))) := Lib.hid ((hb1.grown hgrow (by have := hb1.size; omega) (fun k hk => (hown.lt k hk).1)).setCell (p := ⟨b, 1, none⟩) hB _)
  clear hown hown' hgrow hb2 hbk hC hl hR hb1
  go_wp2
  go_ret2
  exact ⟨rfl, .inr HF.out, HG.out⟩

theorem us_none (W : World) (q : Option Addr) : (Builtin.unsafeString_ #[164, 3] 9 #[.pointer q, .int .i64 0]).run Tryd.prog W = .ok (.string .empty) W := Lib.run_unsafeString_none W _ _ _ q

set_option maxHeartbeats 2000000 in
set_option maxRecDepth 100000 in
theorem string_full (B b : Nat) (l : Bytes) (w : World) (h : IsB B b l w) (h0 : l ≠ []) :
    Calls Tryd.prog 94 #[.pointer (some ⟨b, 0, none⟩)] w fun e w' => e = .returned (.string (strOf l)) ∧ Below B w w' := by
  obtain ⟨p, hB, v, hbk, hown, hne⟩ : ∃ p, Lib.BuilderAt 146 5 B b p (Lib.byteCells l) w := by
    rcases h with h | h
    · exact ⟨_, h⟩
    · exact ⟨_, h⟩
  have hl0 : l.length ≠ 0 := by simpa using h0
  rw [Lib.byteCells_length] at hown
  obtain ⟨g, cap, cur, rfl, hbg, hg, hnc, hcm, hcs, htake⟩ : ∃ g cap cur, v = .slice (some ⟨g, 0, none⟩) l.length cap ∧ B ≤ g ∧ w.heap[g]? = some (.cells cur 5 (0, 0)) ∧ l.length ≤ cap ∧ cap ≤ maxLen ∧ cur.size = cap * 1 ∧ cur.toList.take (l.length * 1) = Lib.byteCells l := by
    rcases hown.2 with ⟨_, hz⟩ | ⟨g, cap, cur, hv, r⟩
    · exact absurd hz hl0
    · exact ⟨g, cap, cur, hv, r⟩
  have hbk' : w.drew.heap[b]? = some (.cells #[p, .slice (some ⟨g, 0, none⟩) l.length cap] 146 (0, 0)) := hbk
  have hg' : w.drew.heap[g]? = some (.cells cur 5 (0, 0)) := hg
  have c1 : w.drew.cell? ⟨b, 1, none⟩ = some (.slice (some ⟨g, 0, none⟩) l.length cap) := by rw [Lib.cell_of_heap hbk']; rfl
  have hSD : (Builtin.unsafeSliceData_ #[85] 164 #[.slice (some ⟨g, 0, none⟩) l.length cap]).run Tryd.prog w.drew = .ok (.pointer (some ⟨g, 0, none⟩)) w.drew := Lib.run_unsafeSliceData_row _ _ _ _ _ _ (by omega)
  have hUS : (Builtin.unsafeString_ #[164, 3] 9 #[.pointer (some ⟨g, 0, none⟩), .int .i64 l.length]).run Tryd.prog w.drew = .ok (.string (strOf l)) (w.drew.freeze ⟨g, 0, none⟩ l.length) := by
    refine Lib.run_unsafeString_row w.drew 164 3 9 5 Tryd.underlying164 b_cells g cur.size (by simp [World.shape?, hg']) l h0 (by omega) (by unfold maxLen at hcm; omega) ?_
    intro j x hx
    exact hown.cells (g := g) rfl j (.int .u8 x.toNat) (by simp [Lib.byteCells, hx])
  have HF : Hid (Below B w (w.drew.freeze ⟨g, 0, none⟩ l.length)) := Lib.hid (Lib.below_freeze (Below.drew (Below.refl B w)) (p := ⟨g, 0, none⟩) hbg _)
  clear h h0 hl0 hbk hown hne hg hnc hcm hcs htake hbk' hg'
  go_enter Tryd.func94, Tryd.ntmps94
  go_wp2
  go_region
  all_goals (go_wp2; go_ret; exact ⟨rfl, HF.out⟩)

set_option maxHeartbeats 2000000 in
set_option maxRecDepth 100000 in
/-- .. of one that holds nothing, whose buffer is nil. -/
theorem string_nil (B b : Nat) (p : Value) (w : World) (hbk : w.heap[b]? = some (.cells #[p, .slice none 0 0] 146 (0, 0))) :
    Calls Tryd.prog 94 #[.pointer (some ⟨b, 0, none⟩)] w fun e w' => e = .returned (.string ByteArray.empty) ∧ Below B w w' := by
  have hUS := us_none
  have hbk' : w.drew.heap[b]? = some (.cells #[p, .slice none 0 0] 146 (0, 0)) := hbk
  have c1 : w.drew.cell? ⟨b, 1, none⟩ = some (.slice none 0 0) := by rw [Lib.cell_of_heap hbk']; rfl
  have hSD : (Builtin.unsafeSliceData_ #[85] 164 #[.slice none 0 0]).run Tryd.prog w.drew = .ok (.pointer none) w.drew := rfl
  clear hbk hbk'
  go_enter Tryd.func94, Tryd.ntmps94
  go_wp2
  go_region
  all_goals (go_wp2; go_ret; exact ⟨rfl, Below.drew (Below.refl B w)⟩)

/-- A builder of the call's own that never was written, or holds something. -/
def IsB' (B b : Nat) (l : Bytes) (w : World) : Prop := (l = [] ∧ B ≤ b ∧ w.heap[b]? = some (.cells #[.pointer none, .slice none 0 0] 146 (0, 0))) ∨ (l ≠ [] ∧ IsB B b l w)

theorem string_any (B b : Nat) (l : Bytes) (w : World) (h : IsB' B b l w) :
    Calls Tryd.prog 94 #[.pointer (some ⟨b, 0, none⟩)] w fun e w' => e = .returned (.string (strOf l)) ∧ Below B w w' := by
  rcases h with ⟨rfl, _, hbk⟩ | ⟨h0, h⟩
  · exact string_nil B b _ w hbk
  · exact string_full B b l w h h0

theorem isB_of {B b : Nat} {l : Bytes} {w : World} (h : IsB' B b l w) : IsB B b l w := by
  rcases h with ⟨rfl, hB, hbk⟩ | ⟨_, h⟩
  · exact .inl ⟨hB, .slice none 0 0, hbk, World.ownsRow_nil _ _ _ _, by simp [Value.ownBlock]⟩
  · exact h

theorem lt_of_heap {w : World} {b : Nat} {o : Obj} (h : w.heap[b]? = some o) : b < w.heap.size := by
  rcases Nat.lt_or_ge b w.heap.size with h' | h'
  · exact h'
  · simp [Array.getElem?_eq_none h'] at h

theorem bat_later {B b : Nat} {p : Value} {bs : List Value} {w w' : World} (h : Lib.BuilderAt 146 5 B b p bs w) (k : Below w.heap.size w w') : Lib.BuilderAt 146 5 B b p bs w' := by
  obtain ⟨hB, v, hbk, hown, hne⟩ := h
  refine ⟨hB, v, (k.block b (lt_of_heap hbk)).trans hbk, ownsRow_block hown (fun g hg => ?_), hne⟩
  rcases hown.2 with ⟨rfl, _⟩ | ⟨g', cap, cur, rfl, _, hg', _⟩
  · cases hg
  · cases hg; exact k.block _ (lt_of_heap hg')

theorem isB_later {B b : Nat} {l : Bytes} {w w' : World} (h : IsB' B b l w) (k : Below w.heap.size w w') : IsB' B b l w' := by
  rcases h with ⟨rfl, hB, hbk⟩ | ⟨h0, h⟩
  · exact .inl ⟨rfl, hB, (k.block b (lt_of_heap hbk)).trans hbk⟩
  · exact .inr ⟨h0, h.elim (fun h => .inl (bat_later h k)) (fun h => .inr (bat_later h k))⟩

end Go.Proofs.YtkplmaaeggnbgaaDoor.Sl
namespace Go.Proofs.YtkplmaaeggnbgaaDoor.Sl
open Go.RowKit Dk

set_option maxHeartbeats 400000 in
theorem sread_no (p : Option Addr) (slot size : Int) (w : World) (h : NoDisk w p) :
    Calls Tryd.prog 73 #[.pointer p, .int .i64 slot, .int .i64 size] w fun e w' => e = .returned (.tuple #[.string ByteArray.empty, .int .i64 16]) ∧ w = w' := by
  have HC := Lib.hid (check_no p 0 (by decide) (by decide) slot w (has_no h))
  clear h
  go_enter Tryd.func73, Tryd.ntmps73
  go_wp2_with fail
  refine HC.out.mono ?_
  rintro e w' ⟨rfl, rfl⟩
  go_wp2
  go_ret2
  exact ⟨rfl, rfl⟩

variable {F : Nat → Prop} {g : Nat} {S : DS}

set_option maxHeartbeats 400000 in
theorem sread_bad (slot size : Int) (w : World) (h : DiskAt w F g S) (hb : badSlot slot = true) :
    Calls Tryd.prog 73 #[.pointer (some ⟨g, 0, none⟩), .int .i64 slot, .int .i64 size] w fun e w' => e = .returned (.tuple #[.string ByteArray.empty, .int .i64 1]) ∧ w = w' := by
  have HC := check_disk slot w h
  rw [if_pos hb] at HC
  replace HC := Lib.hid HC
  clear h hb
  go_enter Tryd.func73, Tryd.ntmps73
  go_wp2_with fail
  refine HC.out.mono ?_
  rintro e w' ⟨rfl, rfl⟩
  go_wp2
  go_ret2
  exact ⟨rfl, rfl⟩

set_option maxHeartbeats 400000 in
theorem sread_size (slot size : Int) (w : World) (h : DiskAt w F g S) (hb : badSlot slot = false) (hz : size < 0 ∨ ((64 * each S : Nat) : Int) < size) :
    Calls Tryd.prog 73 #[.pointer (some ⟨g, 0, none⟩), .int .i64 slot, .int .i64 size] w fun e w' => e = .returned (.tuple #[.string ByteArray.empty, .int .i64 1]) ∧ w = w' := by
  have HC := check_disk slot w h
  rw [if_neg (by rw [hb]; decide)] at HC
  replace HC := Lib.hid HC
  have HR := Lib.hid (room_disk w h)
  generalize ((64 * each S : Nat) : Int) = R at *
  clear h hb
  by_cases h0 : size < 0
  · have t0 : decide (size < 0) = true := decide_eq_true h0
    go_enter Tryd.func73, Tryd.ntmps73
    go_wp2_with fail
    refine HC.out.mono ?_
    rintro e w' ⟨rfl, rfl⟩
    go_wp2
    go_ret2
    exact ⟨rfl, rfl⟩
  · have h1 := hz.resolve_left h0
    have t0 : decide (size < 0) = false := decide_eq_false h0
    have t1 : decide (R < size) = true := decide_eq_true h1
    go_enter Tryd.func73, Tryd.ntmps73
    go_wp2_with fail
    refine HC.out.mono ?_
    rintro e w' ⟨rfl, rfl⟩
    go_wp2_with fail
    refine HR.out.mono ?_
    rintro e w' ⟨rfl, rfl⟩
    go_wp2
    go_ret2
    exact ⟨rfl, rfl⟩

/-- While the blocks are read: what the builder in block B holds. -/
structure RdI (w wr : World) (l : Bytes) : Prop where
  b : IsB' w.heap.size w.heap.size l wr
  below : Below w.heap.size w wr

theorem rdI_new (w : World) : RdI w (w.alloc (.cells #[.pointer none, .slice none 0 0] 146)) [] :=
  ⟨.inl ⟨rfl, Nat.le_refl _, heap_alloc_new w _⟩, (Below.refl _ _).alloc (Nat.le_refl _) _⟩
theorem RdI.later {w wr w' : World} {l : Bytes} (h : RdI w wr l) (k : Below wr.heap.size wr w') : RdI w w' l := ⟨isB_later h.b k, chain2 h.below k⟩

theorem rd_write {w wr : World} {l : Bytes} (h : RdI w wr l) (s : Bytes) (hs : s ≠ []) (hl : l.length + s.length ≤ 2 ^ 40) :
    Calls Tryd.prog 93 #[.pointer (some ⟨w.heap.size, 0, none⟩), .string (strOf s)] wr fun e w' => e = .returned (.tuple #[.int .i64 (strOf s).size, .nilIface]) ∧ RdI w w' (l ++ s) :=
  (write_string _ _ l (strOf s) wr (isB_of h.b) (by rw [strOf_size]; exact hl) h.below.size).mono fun _ _ ⟨a, b, c⟩ => by
    rw [strOf_toList] at b
    exact ⟨a, .inr ⟨by simp [hs], b⟩, h.below.trans c⟩

theorem rd_string {w wr : World} {l : Bytes} (h : RdI w wr l) :
    Calls Tryd.prog 94 #[.pointer (some ⟨w.heap.size, 0, none⟩)] wr fun e w' => e = .returned (.string (strOf l)) ∧ Below w.heap.size w w' :=
  (string_any _ _ l wr h.b).mono fun _ _ ⟨a, b⟩ => ⟨a, h.below.trans b⟩

theorem str_to (l : Bytes) (k : Nat) : (strOf l).extract 0 k = strOf (l.take k) := by
  apply ByteArray.ext
  simp [strOf, ByteArray.data_extract]

theorem zero_b (w : World) : (zeroValue 146).run Tryd.prog w = .ok (.agg #[.pointer none, .slice none 0 0]) w := by kernel_rfl

set_option maxHeartbeats 2000000 in
set_option maxRecDepth 100000 in
theorem sread_off (slot : Int) (z : Nat) (w : World) (h : DiskAt w F g S) (hb : badSlot slot = false) (hz : z ≤ 64 * each S) (h0 : 0 < z) (hon : S.on = false) (hc : S.c ≤ 2 ^ 40) :
    Calls Tryd.prog 73 #[.pointer (some ⟨g, 0, none⟩), .int .i64 slot, .int .i64 (z : Int)] w fun e w' => e = .returned (.tuple #[.string ByteArray.empty, .int .i64 7]) ∧ Below w.heap.size w w' := by
  have HC := check_disk slot w h
  rw [if_neg (by rw [hb]; decide)] at HC
  replace HC := Lib.hid HC
  have HR := Lib.hid (room_disk w h)
  have HX := Lib.hid (rdI_new w)
  have hw1 : DiskAt (w.alloc (.cells #[.pointer none, .slice none 0 0] 146)) F g S := h.below HX.out.below
  have HF := Lib.hid (first_disk slot hb _ hw1)
  have he := each_le h.ok
  have HN := Lib.hid (bfor_any z (by omega) (w.alloc (.cells #[.pointer none, .slice none 0 0] 146)))
  have hn : 0 < nb z := by unfold nb; omega
  have hfl := first_le h.ok hb
  have hhi := h.ok.hi
  generalize first S slot = b at *
  have CR : Hid (Calls Tryd.prog 66 #[.pointer (some ⟨g, 0, none⟩), .int .i64 (b : Int)] (w.alloc (.cells #[.pointer none, .slice none 0 0] 146)) fun e w' => e = .returned (.tuple #[.string ByteArray.empty, .int .i64 7]) ∧ Below w.heap.size w w') := Lib.hid (by
    have := d_read (b : Int) _ hw1 hc
    unfold DS.rd at this
    rw [if_pos hon] at this
    exact this.mono fun _ _ ⟨a, c⟩ => ⟨a, chain2 HX.out.below c⟩)
  have z0 : (0 : Int) ≤ (z : Int) := by omega
  have t0 : decide ((z : Int) < 0) = false := decide_eq_false (by omega)
  have z2 : (z : Int) ≤ ((64 * each S : Nat) : Int) := by omega
  generalize ((64 * each S : Nat) : Int) = R at *
  have t1 : decide (R < (z : Int)) = false := decide_eq_false (by omega)
  have z3 : (0 : Int) < (nb z : Int) := by omega
  have z4 : (0 : Int) ≤ (b : Int) := by omega
  have z5 : (b : Int) ≤ 512 := by omega
  generalize nb z = n at *
  have hzb := zero_b
  clear h hb hc hon hw1 HX hfl
  go_enter Tryd.func73, Tryd.ntmps73
  go_wp2_with fail
  refine HC.out.mono ?_
  rintro e w' ⟨rfl, rfl⟩
  go_wp2_with fail
  refine HR.out.mono ?_
  rintro e w' ⟨rfl, rfl⟩
  go_wp2_with fail
  refine HF.out.mono ?_
  rintro e w' ⟨rfl, rfl⟩
  go_wp2_with fail
  refine HN.out.mono ?_
  rintro e w' ⟨rfl, rfl⟩
  go_wp2
  go_loopw [33] (fun vi wr => vi = .int .i64 0 ∧ wr = w.alloc (.cells #[.pointer none, .slice none 0 0] 146)) (fun vi _ => 0)
  case atStart => exact ⟨rfl, rfl⟩
  case round =>
    obtain ⟨rfl, rfl⟩ := hrel
    go_wp2_with fail
    refine CR.out.mono ?_
    rintro e w1 ⟨rfl, hb1⟩
    have HB1 := Lib.hid hb1
    clear hb1
    go_wp2
    go_ret2
    exact ⟨rfl, HB1.out⟩

set_option maxHeartbeats 2000000 in
set_option maxRecDepth 100000 in
theorem sread_go (slot : Int) (z : Nat) (w : World) (h : DiskAt w F g S) (hb : badSlot slot = false) (hz : z ≤ 64 * each S) (hon : z = 0 ∨ S.on = true) (hc : S.c ≤ 2 ^ 40) :
    Calls Tryd.prog 73 #[.pointer (some ⟨g, 0, none⟩), .int .i64 slot, .int .i64 (z : Int)] w fun e w' => e = .returned (.tuple #[.string (strOf ((cat S (first S slot) (nb z)).take z)), .int .i64 0]) ∧ Below w.heap.size w w' := by
  have HC := check_disk slot w h
  rw [if_neg (by rw [hb]; decide)] at HC
  replace HC := Lib.hid HC
  have HR := Lib.hid (room_disk w h)
  have HX := Lib.hid (rdI_new w)
  have hw1 : DiskAt (w.alloc (.cells #[.pointer none, .slice none 0 0] 146)) F g S := h.below HX.out.below
  have HF := Lib.hid (first_disk slot hb _ hw1)
  have he := each_le h.ok
  have HN := Lib.hid (bfor_any z (by omega) (w.alloc (.cells #[.pointer none, .slice none 0 0] 146)))
  have hn : nb z ≤ each S := by unfold nb; omega
  have hn2 : z ≤ 64 * nb z := by unfold nb; omega
  have hfl := first_le h.ok hb
  have hhi := h.ok.hi
  have hon' : nb z = 0 ∨ S.on = true := hon.imp (fun e => by subst e; rfl) id
  generalize first S slot = b at *
  have HCL : Hid (∀ k, k ≤ nb z → (cat S b k).length = 64 * k) := Lib.hid (cat_length h.ok (by omega))
  have HRL : Hid (∀ j, j < nb z → S.read (b + j) ≠ [] ∧ (S.read (b + j)).length = 64) := Lib.hid (fun j hj => by
    have := read_length h.ok (show b + j < S.L.length by omega)
    exact ⟨fun e => (by rw [e] at this; cases this), this⟩)
  have CR : Hid (∀ (j : Nat) W, j < nb z → Below w.heap.size w W → Calls Tryd.prog 66 #[.pointer (some ⟨g, 0, none⟩), .int .i64 ((b : Int) + (j : Int))] W fun e w' => e = .returned (.tuple #[.string (strOf (S.read (b + j))), .int .i64 0]) ∧ Below W.heap.size W w') :=
    Lib.hid (fun j W hj hW => read_any F g S (b + j) W (h.below hW) (hon'.resolve_left (by omega)) (by omega) hc)
  have CWR : Hid (∀ (j : Nat) W, j < nb z → RdI w W (cat S b j) → Calls Tryd.prog 93 #[.pointer (some ⟨w.heap.size, 0, none⟩), .string (strOf (S.read (b + j)))] W fun e w' => e = .returned (.tuple #[.int .i64 (strOf (S.read (b + j))).size, .nilIface]) ∧ RdI w w' (cat S b (j + 1))) :=
    Lib.hid (fun j W hj hW => rd_write hW _ (HRL.out j hj).1 (by rw [HCL.out j (by omega), (HRL.out j hj).2]; omega))
  have z0 : (0 : Int) ≤ (z : Int) := by omega
  have t0 : decide ((z : Int) < 0) = false := decide_eq_false (by omega)
  have z2 : (z : Int) ≤ ((64 * each S : Nat) : Int) := by omega
  generalize ((64 * each S : Nat) : Int) = R at *
  have t1 : decide (R < (z : Int)) = false := decide_eq_false (by omega)
  have z4 : (0 : Int) ≤ (b : Int) := by omega
  have z5 : (b : Int) ≤ 512 := by omega
  have HSZ : Hid (((strOf (cat S b (nb z))).size : Int) = ((64 * nb z : Nat) : Int)) := Lib.hid (by rw [strOf_size, HCL.out _ (Nat.le_refl _)])
  have HTK : Hid ((strOf (cat S b (nb z))).extract 0 z = strOf ((cat S b (nb z)).take z)) := Lib.hid (str_to _ _)
  generalize strOf ((cat S b (nb z)).take z) = OUT at *
  have H0 : Hid (RdI w (w.alloc (.cells #[.pointer none, .slice none 0 0] 146)) (cat S b 0)) := Lib.hid (rdI_new w)
  generalize nb z = n at *
  have hzb := zero_b
  clear h hb hc hon hon' hw1 HX hfl HRL HCL
  go_enter Tryd.func73, Tryd.ntmps73
  go_wp2_with fail
  refine HC.out.mono ?_
  rintro e w' ⟨rfl, rfl⟩
  go_wp2_with fail
  refine HR.out.mono ?_
  rintro e w' ⟨rfl, rfl⟩
  go_wp2_with fail
  refine HF.out.mono ?_
  rintro e w' ⟨rfl, rfl⟩
  go_wp2_with fail
  refine HN.out.mono ?_
  rintro e w' ⟨rfl, rfl⟩
  go_wp2
  go_loopw [33] (fun vi wr => ∃ j : Nat, j ≤ n ∧ vi = .int .i64 j ∧ Hid (RdI w wr (cat S b j))) (fun vi _ => n - (intOf vi).toNat)
  case atStart => exact ⟨0, Nat.zero_le _, rfl, H0⟩
  case round =>
    clear H0 HC HR HF HN
    obtain ⟨j, hj, rfl, hI⟩ := hrel
    have y0 : (0 : Int) ≤ (j : Int) := by omega
    have y1 : (j : Int) ≤ 252 := by omega
    by_cases hlt : j < n
    · have y2 : (j : Int) < (n : Int) := by omega
      go_wp2_with fail
      refine (CR.out j wr hlt hI.out.below).mono ?_
      rintro e w1 ⟨rfl, hb1⟩
      have HI1 := Lib.hid (hI.out.later hb1)
      clear hb1 hI
      go_wp2_with fail
      refine (CWR.out j w1 hlt HI1.out).mono ?_
      rintro e w2 ⟨rfl, hI2⟩
      have HI2 := Lib.hid hI2
      clear hI2 HI1
      go_wp2
      go_roundw
      case rel => exact ⟨j + 1, by omega, by go_num, HI2⟩
      case measure => simp [intOf]; omega
    · obtain rfl : j = n := by omega
      have HS := Lib.hid (rd_string hI.out)
      have hsz := HSZ.out
      have htk := HTK.out
      generalize strOf (cat S b j) = X at *
      have x1 : (z : Int) ≤ (X.size : Int) := by omega
      clear hI CR CWR HSZ HTK hsz
      go_wp2_with fail
      refine HS.out.mono ?_
      rintro e w2 ⟨rfl, hI2⟩
      have HI2 := Lib.hid hI2
      clear hI2
      go_wp2
      go_ret2
      exact ⟨rfl, HI2.out⟩

/-- A Read of a slot, as one function over states. -/
theorem d_sr (slot size : Int) (w : World) (h : DiskAt w F g S) (hc : S.c ≤ 2 ^ 40) :
    Calls Tryd.prog 73 #[.pointer (some ⟨g, 0, none⟩), .int .i64 slot, .int .i64 size] w fun e w' => e = .returned (.tuple #[.string (DS.sr S slot size).1, .int .i64 (DS.sr S slot size).2]) ∧ Below w.heap.size w w' := by
  unfold DS.sr
  by_cases h1 : badSlot slot = true
  · rw [if_pos h1]
    exact (sread_bad slot size w h h1).mono fun _ _ ⟨a, b⟩ => by subst b; exact ⟨a, Below.refl _ _⟩
  · rw [if_neg h1]
    have h1' : badSlot slot = false := by cases e : badSlot slot; rfl; exact absurd e h1
    by_cases h2 : size < 0 ∨ ((64 * each S : Nat) : Int) < size
    · rw [if_pos h2]
      exact (sread_size slot size w h h1' h2).mono fun _ _ ⟨a, b⟩ => by subst b; exact ⟨a, Below.refl _ _⟩
    · rw [if_neg h2]
      obtain ⟨z, rfl⟩ := Int.eq_ofNat_of_zero_le (show 0 ≤ size by omega)
      by_cases h3 : S.on = false ∧ 0 < (z : Int)
      · rw [if_pos h3]
        have hp := h3.2
        exact sread_off slot z w h h1' (by omega) (by omega) h3.1 hc
      · rw [if_neg h3]
        exact sread_go slot z w h h1' (by omega) ((Bool.eq_false_or_eq_true S.on).elim .inr (fun e => .inl (Decidable.byContradiction fun hz => h3 (And.intro e (by omega))))) hc

end Go.Proofs.YtkplmaaeggnbgaaDoor.Sl
