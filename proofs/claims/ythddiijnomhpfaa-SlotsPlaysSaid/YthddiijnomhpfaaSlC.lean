/- The walk of blockOf: its contract. No condition but those that each states. -/
import Derived.Test.YthddiijnomhpfaaSlP
namespace Go.Proofs.Ythddiijnomhpfaa.Sl
open Go.RowKit Dk

theorem zero_arr (W : World) : (zeroValue 69).run Try.prog W = .ok (.agg (List.replicate 64 (Value.int .u8 0)).toArray) W := by kernel_rfl

theorem str_from (s : ByteArray) (k : Nat) : s.extract k s.size = strOf (s.data.toList.drop k) := by
  have e : (s.extract k s.size).data.toList = s.data.toList.drop k := by
    simp [ByteArray.data_extract]
    exact List.take_of_length_le (by simp)
  rw [← e, strOf_self]

theorem bv_zeros (n : Nat) : bv (List.replicate n 0) = List.replicate n (.int .u8 0) := by simp [bv]

set_option maxHeartbeats 2000000 in
set_option maxRecDepth 100000 in
theorem blockOf_any (s : ByteArray) (i : Nat) (hs : s.size ≤ 2 ^ 40) (hi : 64 * i ≤ s.size) (w : World) :
    Calls Try.prog 38 #[.string s, .int .i64 (i : Int)] w fun e w' => e = .returned (.string (strOf (blkOf s.data.toList i))) ∧ Below w.heap.size w w' := by
  have hz := zero_arr
  have hsl := slice_all (P := Try.prog) 69 5 64 (by kernel_rfl) (by kernel_rfl)
  have q1 : IntKind.i64.wrap ((i : Int) * 64) = (i : Int) * 64 := IntWalk.i64_in _ (by omega)
  have q2 : (0 : Int) ≤ (i : Int) * 64 := by omega
  have q3 : (i : Int) * 64 ≤ (s.size : Int) := by omega
  obtain ⟨T, hT⟩ : ∃ T : Bytes, T = (s.data.toList.drop (64 * i)).take 64 := ⟨_, rfl⟩
  have hTl : T.length ≤ 64 := by rw [hT, List.length_take]; exact Nat.min_le_left _ _
  have HX : Hid (s.extract (i * 64) s.size = strOf (s.data.toList.drop (64 * i))) := Lib.hid (by rw [str_from, Nat.mul_comm])
  have HXS : Hid (T.length = Nat.min (s.extract (i * 64) s.size).size 64) := Lib.hid (by rw [HX.out, strOf_size, hT, List.length_take, Nat.min_comm])
  have HXT : Hid ((s.extract (i * 64) s.size).data.toList.take T.length = T) := Lib.hid (by
    rw [HX.out, strOf_toList]
    rw [hT, List.length_take]
    rw [List.take_eq_take_iff]
    omega)
  have HB : Hid (blkOf s.data.toList i = T ++ List.replicate (64 - T.length) 0) := Lib.hid (by unfold blkOf; rw [← hT])
  have HBL := Lib.hid (blkOf_length s.data.toList i)
  generalize blkOf s.data.toList i = BL at *
  have HTH : Hid ((w.alloc (.cells (List.replicate 64 (Value.int .u8 0)).toArray 69)).drew.there w.heap.size 0 64) := Lib.hid (by
    have h := there_new w (List.replicate 64 (Value.int .u8 0)).toArray 69
    have h2 : (w.alloc (.cells (List.replicate 64 (Value.int .u8 0)).toArray 69)).there w.heap.size 0 64 := by simpa using h
    exact there_block h2 rfl)
  have HRZ : Hid ((w.alloc (.cells (List.replicate 64 (Value.int .u8 0)).toArray 69)).drew.rangeAt w.heap.size 0 (List.replicate 64 (Value.int .u8 0))) := Lib.hid (rangeAt_block (range_new _ _ _) rfl)
  have HW4 : Hid (Below w.heap.size w (w.alloc (.cells (List.replicate 64 (Value.int .u8 0)).toArray 69)).drew) := Lib.hid ((Below.refl _ _).alloc (Nat.le_refl _) _).drew
  have hcp := run_copy_string (P := Try.prog) (w.alloc (.cells (List.replicate 64 (Value.int .u8 0)).toArray 69)).drew 53 9 3 5 w.heap.size 0 64 64 T.length (s.extract (i * 64) s.size) (by kernel_rfl) (by kernel_rfl) HXS.out (fun j hj => HTH.out j (by omega))
  rw [HXT.out] at hcp
  have HW5 : Hid (Below w.heap.size w ((w.alloc (.cells (List.replicate 64 (Value.int .u8 0)).toArray 69)).drew.setCells w.heap.size 0 (bv T))) := Lib.hid (below_setCells HW4.out _ (Nat.le_refl _) _ _ _ HW4.out)
  have HR5 : Hid (((w.alloc (.cells (List.replicate 64 (Value.int .u8 0)).toArray 69)).drew.setCells w.heap.size 0 (bv T)).rangeAt w.heap.size 0 (bv BL)) := Lib.hid (by
    rw [HB.out, bv_append, bv_zeros]
    refine rangeAt_add (World.rangeAt_setCells_same _ _ _ _ (fun j hj => HTH.out j (by rw [bv_length] at hj; omega))) ?_
    have h1 : (w.alloc (.cells (List.replicate 64 (Value.int .u8 0)).toArray 69)).drew.rangeAt w.heap.size (0 + T.length) (List.replicate (64 - T.length) (Value.int .u8 0)) := rangeAt_right (xs := List.replicate T.length (Value.int .u8 0)) (ys := List.replicate (64 - T.length) (Value.int .u8 0)) (o := 0) (n := T.length) (by rw [List.replicate_append_replicate, show T.length + (64 - T.length) = 64 by omega]; exact HRZ.out) (by simp)
    rw [bv_length]
    exact World.rangeAt_setCells_apart h1 _ _ _ (.inr (.inr (by rw [bv_length]; omega))))
  generalize (List.replicate 64 (Value.int .u8 0)).toArray = Z at *
  have hcv := convert_range (P := Try.prog) (w := (w.alloc (.cells Z 69)).drew.setCells w.heap.size 0 (bv T)) (src := 53) (dst := 9) w.heap.size 0 64 64 BL Try.underlying53 Try.underlying5 Try.underlying9 HBL.out HR5.out
  clear HTH HRZ HW4 hT HX HXS HXT HB HR5
  generalize hW5 : (w.alloc (.cells Z 69)).drew.setCells w.heap.size 0 (bv T) = W5 at *
  go_enter Try.func38, Try.ntmps38
  go_wp2_with fail
  go_region
  all_goals (go_wp2; go_ret; exact ⟨rfl, HW5.out⟩)

end Go.Proofs.Ythddiijnomhpfaa.Sl
