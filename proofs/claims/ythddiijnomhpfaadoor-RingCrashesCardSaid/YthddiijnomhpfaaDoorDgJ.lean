/- The walk of digest.encodeWord, encode and ending: their contracts. No condition but those that each states. -/
import Derived.Test.YthddiijnomhpfaaDoorDgI
namespace Go.Proofs.YthddiijnomhpfaaDoor
open Go.RowKit

theorem be4_bytes (x : Int) (h0 : 0 ≤ x) (h1 : x < 4294967296) : bv (be4 x) = [.int .u8 (x / 16777216), .int .u8 (x / 65536 % 256), .int .u8 (x / 256 % 256), .int .u8 (x % 256)] := by
  obtain ⟨u, rfl⟩ := Int.eq_ofNat_of_zero_le h0
  simp [bv, be4]
  omega

set_option maxHeartbeats 1000000 in
set_option maxRecDepth 100000 in
theorem encodeWord_any (b o c : Nat) (x : Int) (h0 : 0 ≤ x) (h1 : x < 4294967296) (w : World) (H : w.there b o 4) :
    Calls Tryd.prog 63 #[.slice (some ⟨b, o, none⟩) 4 c, .int .u32 x] w fun e w' => e = .returned (.tuple #[]) ∧ w' = w.setCells b o (bv (be4 x)) := by
  have HB := Lib.hid (be4_bytes x h0 h1)
  obtain ⟨v0, c0⟩ := Option.isSome_iff_exists.1 (H 0 (by decide)).1
  obtain ⟨v1, c1⟩ := Option.isSome_iff_exists.1 (H 1 (by decide)).1
  obtain ⟨v2, c2⟩ := Option.isSome_iff_exists.1 (H 2 (by decide)).1
  obtain ⟨v3, c3⟩ := Option.isSome_iff_exists.1 (H 3 (by decide)).1
  have f0 := (H 0 (by decide)).2
  have f1 := (H 1 (by decide)).2
  have f2 := (H 2 (by decide)).2
  have f3 := (H 3 (by decide)).2
  rw [Nat.add_zero] at c0 f0
  clear H
  go_enter Tryd.func63, Tryd.ntmps63
  go_wp2
  refine bodyPost_end (results_none rfl _ _ _) rfl ⟨rfl, by rw [HB.out]; rfl⟩

theorem out8_at (s : R8) (k : Nat) (hk : k < 8) : (out8 s).drop (4 * k) = be4 (s.at k) ++ (out8 s).drop (4 * k + 4) := by
  rcases (show k = 0 ∨ k = 1 ∨ k = 2 ∨ k = 3 ∨ k = 4 ∨ k = 5 ∨ k = 6 ∨ k = 7 by omega) with rfl | rfl | rfl | rfl | rfl | rfl | rfl | rfl <;> rfl

theorem out8_take (s : R8) (k : Nat) (hk : k < 8) : bv ((out8 s).take (4 * (k + 1))) = bv ((out8 s).take (4 * k)) ++ bv (be4 (s.at k)) := by
  rw [← bv_append]
  rcases (show k = 0 ∨ k = 1 ∨ k = 2 ∨ k = 3 ∨ k = 4 ∨ k = 5 ∨ k = 6 ∨ k = 7 by omega) with rfl | rfl | rfl | rfl | rfl | rfl | rfl | rfl <;> rfl

theorem R8.Ok.at {s : R8} (h : s.Ok) (k : Nat) (hk : k < 8) : 0 ≤ s.at k ∧ s.at k < 4294967296 := by
  rcases (show k = 0 ∨ k = 1 ∨ k = 2 ∨ k = 3 ∨ k = 4 ∨ k = 5 ∨ k = 6 ∨ k = 7 by omega) with rfl | rfl | rfl | rfl | rfl | rfl | rfl | rfl
  · exact h.a
  · exact h.b
  · exact h.c
  · exact h.d
  · exact h.e
  · exact h.f
  · exact h.g
  · exact h.h

structure En (w wr : World) (s : R8) (k : Nat) : Prop where
  free : wr.there (w.heap.size + 1) 0 32
  done : wr.rangeAt (w.heap.size + 1) 0 (bv ((out8 s).take (4 * k)))
  below : Below w.heap.size w wr

theorem rangeAt_add {w : World} {b o : Nat} {xs ys : List Value} (h1 : w.rangeAt b o xs) (h2 : w.rangeAt b (o + xs.length) ys) : w.rangeAt b o (xs ++ ys) := fun j v hv => by
  by_cases hj : j < xs.length
  · rw [List.getElem?_append_left hj] at hv; exact h1 j v hv
  · rw [List.getElem?_append_right (by omega)] at hv
    have := h2 _ v hv
    rwa [show o + xs.length + (j - xs.length) = o + j by omega] at this

theorem En.put {w wr : World} {s : R8} (k : Nat) (hk : k < 8) (h : En w wr s k) : En w (wr.setCells (w.heap.size + 1) (4 * k) (bv (be4 (s.at k)))) s (k + 1) := by
  have hlen : (bv ((out8 s).take (4 * k))).length = 4 * k := by simp [bv, out8_length]; omega
  refine ⟨World.there_setCells h.free _ _ _, ?_, below_setCells h.below (w.heap.size + 1) (by omega) _ _ _ h.below⟩
  rw [out8_take s k hk]
  refine rangeAt_add (World.rangeAt_setCells_apart h.done (w.heap.size + 1) (4 * k) (bv (be4 (s.at k))) (Or.inr (Or.inl (by rw [hlen]; omega)))) ?_
  rw [hlen, Nat.zero_add]
  exact World.rangeAt_setCells_same _ _ _ _ (fun j hj => by
    have := h.free (4 * k + j) (by simp [bv, be4] at hj; omega)
    rwa [Nat.zero_add] at this)

theorem index8 (s : R8) (k : Nat) (hk : k < 8) (W : World) : (Instr.index 24 (.agg (r8v s).toArray) (.int .i64 (k : Int))).run Tryd.prog W = .ok (.int .u32 (s.at k)) W := by
  rcases (show k = 0 ∨ k = 1 ∨ k = 2 ∨ k = 3 ∨ k = 4 ∨ k = 5 ∨ k = 6 ∨ k = 7 by omega) with rfl | rfl | rfl | rfl | rfl | rfl | rfl | rfl <;> kernel_rfl

theorem convert_range {P : Program} {w : World} {src dst e : TypeId} (g cap n : Nat) (l : List UInt8) (hs : P.underlying src = some (.slice e)) (he : P.underlying e = some (.int .u8)) (hd : P.underlying dst = some .string)
    (hn : l.length = n) (h : w.rangeAt g 0 (bv l)) : (convert src dst (.slice (some ⟨g, 0, none⟩) n cap)).run P w = .ok (.string ⟨l.toArray⟩) w := by
  subst hn
  refine run_convert_bytes_back w src dst e ⟨g, 0, none⟩ cap l hs he hd (fun i hi => ?_)
  rw [Addr.add_lit]
  exact h i _ (by simp [bv, List.getElem?_eq_getElem hi])

set_option maxHeartbeats 1000000 in
set_option maxRecDepth 100000 in
theorem encode_dig (s : R8) (hs : s.Ok) (w : World) :
    Calls Tryd.prog 38 #[.agg (r8v s).toArray] w fun e w' => e = .returned (.string ⟨(out8 s).toArray⟩) ∧ Below w.heap.size w w' := by
  have HS := Lib.hid hs
  clear hs
  go_enter Tryd.func38, Tryd.ntmps38
  go_wp2_with (refine wpList_load_mid rfl 24 _ rfl w.heap.size 0 rfl (r8v s) _ (World.rangeAt_alloc (range_new w _ _) _) Tryd.underlying24 rfl (by kernel_rfl) ?_)
  go_loopw [8] (fun vi wr => ∃ k : Nat, k ≤ 8 ∧ vi = .int .i64 k ∧ Hid (En w wr s k)) (fun vi _ => 8 - (intOf vi).toNat)
  case atStart =>
    refine ⟨0, Nat.zero_le _, rfl, Lib.hid ⟨?_, fun j v hv => by simp [bv] at hv, ((Below.refl _ _).alloc (Nat.le_refl _) _).alloc (by simp) _⟩⟩
    rw [show w.heap.size + 1 = (w.alloc (.cells (r8v s).toArray 24)).heap.size by simp]
    exact there_new _ _ _
  case round =>
    obtain ⟨k, hk, rfl, hE⟩ := hrel
    by_cases hlt : k < 8
    · have hix := index8 s k hlt
      have hsl : ∀ w', (Instr.sliceAt 108 (.pointer (some ⟨w.heap.size + 1, 0, none⟩)) (some (.int .i64 (4 * (k : Int)))) (some (.int .i64 (4 * (k : Int) + 4))) (some (.int .i64 (4 * (k : Int) + 4)))).run Tryd.prog w' = .ok (.slice (some ⟨w.heap.size + 1, 4 * k, none⟩) 4 4) w' := fun w' => by
        have := run_slice_arr (P := Tryd.prog) w' 108 5 32 (by kernel_rfl) (by kernel_rfl) (w.heap.size + 1) 0 (4 * k) (4 * k + 4) (4 * (k : Int)) (4 * (k : Int) + 4) (by omega) (by omega) (by omega) (by omega)
        rw [this]; simp
      go_wp2_with fail
      refine (encodeWord_any _ _ _ _ (HS.out.at k hlt).1 (HS.out.at k hlt).2 _ (fun j hj => ?_)).mono ?_
      · have := hE.out.free (4 * k + j) (by omega)
        rwa [Nat.zero_add] at this
      rintro e w2 ⟨rfl, rfl⟩
      clear hix hsl
      go_wp2
      go_roundw
      case rel => exact ⟨k + 1, by omega, by go_num, Lib.hid (En.put k hlt hE.out)⟩
      case measure => simp [intOf]; omega
    · obtain rfl : k = 8 := by omega
      have hcv := convert_range (P := Tryd.prog) (w := wr) (src := 77) (dst := 9) (w.heap.size + 1) 32 32 (out8 s) Tryd.underlying77 Tryd.underlying5 Tryd.underlying9 rfl hE.out.done
      go_wp2
      go_ret
      exact ⟨rfl, hE.out.below⟩

/-- What the row of ending holds behind j rounds. -/
def endRow (n Z j : Nat) : Nat → Value := fun i => if i = 0 then .int .u8 128 else if Z < i ∧ i < Z + 1 + j then .int .u8 (byteAt (be8 (8 * n)) (i - Z - 1)) else .int .u8 0

theorem endRow_set (n Z j k : Nat) (hk : k = 1 + Z + j) (v : Int) (hv : byteAt (be8 (8 * n)) j = v) (i : Nat) : (if i = k then Value.int .u8 v else endRow n Z j i) = endRow n Z (j + 1) i := by
  subst hv hk
  unfold endRow
  by_cases h0 : i = 0
  · rw [if_neg (by omega), if_pos h0, if_pos h0]
  rw [if_neg h0, if_neg h0]
  by_cases h1 : i = 1 + Z + j
  · rw [if_pos h1, if_pos (by omega)]; congr 2; omega
  rw [if_neg h1]
  by_cases h2 : Z < i ∧ i < Z + 1 + j
  · rw [if_pos h2, if_pos (by omega)]
  · rw [if_neg h2, if_neg (by omega)]

theorem endRow_first (n Z : Nat) (i : Nat) : (if i = 0 then Value.int .u8 128 else .int .u8 0) = endRow n Z 0 i := by
  unfold endRow
  by_cases h0 : i = 0
  · rw [if_pos h0, if_pos h0]
  · rw [if_neg h0, if_neg h0, if_neg (by omega)]

theorem endRow_at (n i : Nat) (hi : i < (endOf n).length) : endRow n (zerosOf n) 8 i = .int .u8 (byteAt (endOf n) i) := by
  rw [endOf_length] at hi
  unfold endRow endOf byteAt
  by_cases h0 : i = 0
  · subst h0; rfl
  rw [if_neg h0]
  obtain ⟨m, rfl⟩ : ∃ m, i = m + 1 := ⟨i - 1, by omega⟩
  by_cases h2 : zerosOf n < m + 1 ∧ m + 1 < zerosOf n + 1 + 8
  · rw [if_pos h2]
    congr 2
    simp only [List.cons_append, List.getD_cons_succ]
    rw [List.getD_eq_getElem?_getD, List.getD_eq_getElem?_getD, List.getElem?_append_right (by simp; omega)]
    simp only [List.length_replicate]
    rw [show m + 1 - zerosOf n - 1 = m - zerosOf n by omega]
  · rw [if_neg h2]
    simp only [List.cons_append, List.getD_cons_succ]
    rw [List.getD_eq_getElem?_getD, List.getElem?_append_left (by simp; omega), List.getElem?_replicate]
    split <;> rfl

set_option maxHeartbeats 2000000 in
set_option maxRecDepth 100000 in
theorem ending_any (n : Nat) (hn : n ≤ 1000000000) (w : World) :
    Calls Tryd.prog 37 #[.int .i64 n] w fun e w' => e = .returned (.string ⟨(endOf n).toArray⟩) ∧ Below w.heap.size w w' := by
  obtain ⟨Z, hZ⟩ : ∃ Z, Z = zerosOf n := ⟨_, rfl⟩
  have hz1 : (63 : Int) - ((n : Int) + 8) % 64 = (Z : Int) := by subst hZ; unfold zerosOf; omega
  have hz2 : Z < 64 := by subst hZ; unfold zerosOf; omega
  have HZ := Lib.hid hZ
  clear hZ
  have hmk := fun w : World => run_make_row' (P := Tryd.prog) 77 5 (.int .u8 0) 1 Tryd.underlying77 Tryd.info5 rfl .i64 .i64 (Z + 9) (by omega) (by omega) w
  have hmk2 : ∀ w : World, (Instr.makeSlice 77 (.int .i64 (1 + (Z : Int) + 8)) (.int .i64 (1 + (Z : Int) + 8))).run Tryd.prog w = .ok (.slice (some ⟨w.heap.size, 0, none⟩) (Z + 9) (Z + 9)) (w.alloc (.cells (madeCells #[.int .u8 0] (Z + 9)) 5)) := fun w => by
    rw [show (1 + (Z : Int) + 8) = ((Z + 9 : Nat) : Int) by omega]; exact hmk w
  clear hmk
  have hm0 : (madeCells #[Value.int IntKind.u8 0] (Z + 9))[0]? = some (Value.int IntKind.u8 0) := by
    rw [← Array.getElem?_toList, toList_madeCells_one, List.getElem?_replicate, if_pos (by omega)]
  go_enter Tryd.func37, Tryd.ntmps37
  go_wp2
  clear hmk2 hm0
  generalize hW : World.alloc w (Obj.cells _ _) = W1
  have hR0 : Hid (W1.rowIs w.heap.size 5 (Z + 9) (endRow n Z 0)) := Lib.hid (by
    have hsz : (madeCells #[Value.int IntKind.u8 0] (Z + 9)).size = Z + 9 := size_madeCells _ _
    have h := (World.rowIs_alloc w ((madeCells #[Value.int IntKind.u8 0] (Z + 9)).setIfInBounds 0 (.int .u8 128)) 5 (endRow n Z 0) (fun i hi => by
      have hi' : i < Z + 9 := by rw [Array.size_setIfInBounds, hsz] at hi; exact hi
      rw [← endRow_first n Z, Array.getElem?_setIfInBounds]
      by_cases h0 : 0 = i
      · subst h0
        rw [if_pos rfl, if_pos (by rw [hsz]; omega), if_pos rfl]
      · rw [if_neg h0, if_neg (by omega), ← Array.getElem?_toList, toList_madeCells_one, List.getElem?_replicate, if_pos hi']))
    rw [Array.size_setIfInBounds, hsz, hW] at h
    exact h)
  have hB0 : Hid (Below w.heap.size w W1) := Lib.hid (by rw [← hW]; exact (Below.refl _ _).alloc (Nat.le_refl _) _)
  clear hW hz1
  go_loopw [20] (fun vi wr => ∃ j : Nat, j ≤ 8 ∧ vi = .int .i64 j ∧ Hid (wr.rowIs w.heap.size 5 (Z + 9) (endRow n Z j)) ∧ Hid (Below w.heap.size w wr)) (fun vi _ => 8 - (intOf vi).toNat)
  case atStart => exact ⟨0, Nat.zero_le _, rfl, hR0, hB0⟩
  case round =>
    clear hR0 hB0
    obtain ⟨j, hj, rfl, hrow, hbel⟩ := hrel
    rcases (show j = 0 ∨ j = 1 ∨ j = 2 ∨ j = 3 ∨ j = 4 ∨ j = 5 ∨ j = 6 ∨ j = 7 ∨ j = 8 by omega) with rfl | rfl | rfl | rfl | rfl | rfl | rfl | rfl | rfl
    · have hc : wr.cell? ⟨w.heap.size, 1 + Z, none⟩ = some _ := hrow.out.cell (by omega)
      have hf := hrow.out.frozen (1 + Z)
      have HV : Hid (byteAt (be8 (8 * n)) 0 = 8 * (n : Int) / 72057594037927936) := Lib.hid (by simp [byteAt, be8] <;> omega)
      go_wp2
      go_roundw
      case rel => exact ⟨1, by omega, rfl, Lib.hid ((hrow.out.set _ _).congr (fun i _ => endRow_set n Z 0 _ (by omega) _ HV.out i)), hbel.out.setCell (by simp) _⟩
      case measure => simp [intOf]
    · have hc : wr.cell? ⟨w.heap.size, 1 + Z + 1, none⟩ = some _ := hrow.out.cell (by omega)
      have hf := hrow.out.frozen (1 + Z + 1)
      have HV : Hid (byteAt (be8 (8 * n)) 1 = 8 * (n : Int) / 281474976710656) := Lib.hid (by simp [byteAt, be8] <;> omega)
      go_wp2
      go_roundw
      case rel => exact ⟨2, by omega, rfl, Lib.hid ((hrow.out.set _ _).congr (fun i _ => endRow_set n Z 1 _ (by omega) _ HV.out i)), hbel.out.setCell (by simp) _⟩
      case measure => simp [intOf]
    · have hc : wr.cell? ⟨w.heap.size, 1 + Z + 2, none⟩ = some _ := hrow.out.cell (by omega)
      have hf := hrow.out.frozen (1 + Z + 2)
      have HV : Hid (byteAt (be8 (8 * n)) 2 = 8 * (n : Int) / 1099511627776) := Lib.hid (by simp [byteAt, be8] <;> omega)
      go_wp2
      go_roundw
      case rel => exact ⟨3, by omega, rfl, Lib.hid ((hrow.out.set _ _).congr (fun i _ => endRow_set n Z 2 _ (by omega) _ HV.out i)), hbel.out.setCell (by simp) _⟩
      case measure => simp [intOf]
    · have hc : wr.cell? ⟨w.heap.size, 1 + Z + 3, none⟩ = some _ := hrow.out.cell (by omega)
      have hf := hrow.out.frozen (1 + Z + 3)
      have HV : Hid (byteAt (be8 (8 * n)) 3 = 8 * (n : Int) / 4294967296) := Lib.hid (by simp [byteAt, be8] <;> omega)
      go_wp2
      go_roundw
      case rel => exact ⟨4, by omega, rfl, Lib.hid ((hrow.out.set _ _).congr (fun i _ => endRow_set n Z 3 _ (by omega) _ HV.out i)), hbel.out.setCell (by simp) _⟩
      case measure => simp [intOf]
    · have hc : wr.cell? ⟨w.heap.size, 1 + Z + 4, none⟩ = some _ := hrow.out.cell (by omega)
      have hf := hrow.out.frozen (1 + Z + 4)
      have HV : Hid (byteAt (be8 (8 * n)) 4 = 8 * (n : Int) / 16777216 % 256) := Lib.hid (by simp [byteAt, be8] <;> omega)
      go_wp2
      go_roundw
      case rel => exact ⟨5, by omega, rfl, Lib.hid ((hrow.out.set _ _).congr (fun i _ => endRow_set n Z 4 _ (by omega) _ HV.out i)), hbel.out.setCell (by simp) _⟩
      case measure => simp [intOf]
    · have hc : wr.cell? ⟨w.heap.size, 1 + Z + 5, none⟩ = some _ := hrow.out.cell (by omega)
      have hf := hrow.out.frozen (1 + Z + 5)
      have HV : Hid (byteAt (be8 (8 * n)) 5 = 8 * (n : Int) / 65536 % 256) := Lib.hid (by simp [byteAt, be8] <;> omega)
      go_wp2
      go_roundw
      case rel => exact ⟨6, by omega, rfl, Lib.hid ((hrow.out.set _ _).congr (fun i _ => endRow_set n Z 5 _ (by omega) _ HV.out i)), hbel.out.setCell (by simp) _⟩
      case measure => simp [intOf]
    · have hc : wr.cell? ⟨w.heap.size, 1 + Z + 6, none⟩ = some _ := hrow.out.cell (by omega)
      have hf := hrow.out.frozen (1 + Z + 6)
      have HV : Hid (byteAt (be8 (8 * n)) 6 = 8 * (n : Int) / 256 % 256) := Lib.hid (by simp [byteAt, be8] <;> omega)
      go_wp2
      go_roundw
      case rel => exact ⟨7, by omega, rfl, Lib.hid ((hrow.out.set _ _).congr (fun i _ => endRow_set n Z 6 _ (by omega) _ HV.out i)), hbel.out.setCell (by simp) _⟩
      case measure => simp [intOf]
    · have hc : wr.cell? ⟨w.heap.size, 1 + Z + 7, none⟩ = some _ := hrow.out.cell (by omega)
      have hf := hrow.out.frozen (1 + Z + 7)
      have HV : Hid (byteAt (be8 (8 * n)) 7 = 8 * (n : Int) % 256) := Lib.hid (by simp [byteAt, be8] <;> omega)
      go_wp2
      go_roundw
      case rel => exact ⟨8, by omega, rfl, Lib.hid ((hrow.out.set _ _).congr (fun i _ => endRow_set n Z 7 _ (by omega) _ HV.out i)), hbel.out.setCell (by simp) _⟩
      case measure => simp [intOf]
    · have hcv := convert_range (P := Tryd.prog) (w := wr) (src := 77) (dst := 9) w.heap.size (Z + 9) (Z + 9) (endOf n) Tryd.underlying77 Tryd.underlying5 Tryd.underlying9 (by rw [endOf_length, HZ.out]; omega) (fun i v hv => by
        have hi : i < (endOf n).length := by have := (List.getElem?_eq_some_iff.1 hv).1; simpa [bv] using this
        rw [Nat.zero_add, hrow.out.cell (by rw [endOf_length] at hi; rw [HZ.out]; omega), HZ.out, endRow_at n i hi, ← hv]
        simp [bv, byteAt, List.getD, hi])
      go_wp2
      go_ret
      exact ⟨rfl, hbel.out⟩

end Go.Proofs.YthddiijnomhpfaaDoor
