/- The walk of DigestEnds: it returns true wherever the table of constants lies. No condition but that. -/
import Derived.Test.YtlhnnkkiojjcpaaDoorDgP
import Derived.Test.YtlhnnkkiojjcpaaDoorDgO
namespace Go.Proofs.YtlhnnkkiojjcpaaDoor
open Go.RowKit

def cRow (c : UInt8) (j : Nat) : Nat → Value := fun i => if i < j then .int .u8 (c.toNat : Int) else .int .u8 0

theorem cRow_set (c : UInt8) (j i : Nat) : (if i = j then Value.int .u8 (c.toNat : Int) else cRow c j i) = cRow c (j + 1) i := by
  unfold cRow
  by_cases h1 : i = j
  · subst h1; rw [if_pos rfl, if_pos (by omega)]
  · rw [if_neg h1]
    by_cases h2 : i < j
    · rw [if_pos h2, if_pos (by omega)]
    · rw [if_neg h2, if_neg (by omega)]

theorem one_of (s : ByteArray) (c : UInt8) (n j : Nat) (hs : s.data.toList = List.replicate n c) (hj : j < n) : (s.extract j (j + 1)).data.toList = [c] := by
  have h : (s.extract j (j + 1)).data.toList = (s.data.toList.take (j + 1)).drop j := by
    simp [ByteArray.data_extract, List.drop_take]
  rw [h, hs, List.take_replicate, List.drop_replicate, show min (j + 1) n - j = 1 by omega]
  rfl

set_option maxHeartbeats 2000000 in
set_option maxRecDepth 100000 in
theorem ends_nat (n : Nat) (hn : n < 256) (c : UInt8) (w : World) (HK : HasK w) :
    Calls Tryd.prog 5 #[.int .u8 (n : Int), .int .u8 (c.toNat : Int)] w fun e w' => e = .returned (.bool true) ∧ Below w.heap.size w w' := by
  have K0 := Lib.hid HK
  have h0 := HK.lt
  have hmk := fun w : World => run_make_row' (P := Tryd.prog) 32 5 (.int .u8 0) 1 Tryd.underlying32 Tryd.info5 rfl .i64 .i64 n (by omega) (by omega) w
  obtain ⟨s, hs⟩ : ∃ s : ByteArray, s = ⟨(List.replicate n c).toArray⟩ := ⟨_, rfl⟩
  have hsl : s.data.toList = List.replicate n c := by rw [hs]
  have hsz : s.size = n := by rw [hs]; simp [ByteArray.size]
  have C1 := fun (W : World) (k : HasK W) => of_any s W k (by omega)
  have C2 := fun (W : World) => rof_any s W (by omega)
  have C3 := fun (W : World) (g : Nat) (h : HashAt W g s.data.toList) (k : HasK W) => sum_any s.data.toList g W h k (by rw [hsl]; simp; omega)
  generalize (⟨(sha s.data.toList).toArray⟩ : ByteArray) = Y at C1 C2 C3
  have c1 := Lib.hid C1
  have c2 := Lib.hid C2
  have c3 := Lib.hid C3
  have HSL := Lib.hid hsl
  have HS0 := Lib.hid hs
  have HSZ := Lib.hid hsz
  clear C1 C2 C3 HK hs hsl hsz
  go_enter Tryd.func5, Tryd.ntmps5
  go_wp2
  clear hmk
  go_loopw [6] (fun vi wr => ∃ j : Nat, j ≤ n ∧ vi = .int .i64 j ∧ Hid (wr.rowIs w.heap.size 5 n (cRow c j)) ∧ Hid (Below w.heap.size w wr)) (fun vi _ => n - (intOf vi).toNat)
  case atStart => exact ⟨0, Nat.zero_le _, rfl, (World.rowIs_made w _ _ _).congr (fun i _ => by simp [cRow]), (Below.refl _ _).alloc (Nat.le_refl _) _⟩
  case round =>
    obtain ⟨j, hj, rfl, hrow, hbel⟩ := hrel
    by_cases hlt : j < n
    · have hc : wr.cell? ⟨w.heap.size, j, none⟩ = some _ := hrow.out.cell hlt
      have hf := hrow.out.frozen j
      go_wp2
      go_roundw
      case rel => exact ⟨j + 1, by omega, by go_num, Lib.hid ((hrow.out.set _ _).congr (fun i _ => cRow_set c j i)), hbel.out.setCell (by simp) _⟩
      case measure => simp [intOf]; omega
    · obtain rfl : j = n := by omega
      have hcv := convert_range (P := Tryd.prog) (w := wr) (src := 32) (dst := 9) w.heap.size j j (List.replicate j c) Tryd.underlying32 Tryd.underlying5 Tryd.underlying9 (by simp) (fun i v hv => by
        have hi : i < j := by have := (List.getElem?_eq_some_iff.1 hv).1; simpa [bv] using this
        rw [Nat.zero_add, hrow.out.cell hi, ← hv]
        simp [bv, cRow, hi])
      rw [← HS0.out] at hcv
      have hw0 : 0 < wr.heap.size := by have := hbel.out.size; omega
      obtain ⟨W0, rfl⟩ : ∃ W0 : World, W0 = wr := ⟨_, rfl⟩
      go_wp2_with fail
      clear hcv
      refine (new_any _ hw0).mono ?_
      rintro e w1 ⟨rfl, hN, hb1, hlt1⟩
      have HN := Lib.hid hN
      have B1 : Hid (Below w.heap.size w w1) := Lib.hid (chain2 hbel.out hb1)
      have hwg : w.heap.size ≤ W0.heap.size := hbel.out.size
      clear hN hb1 hlt1 hrow hbel
      go_wp2
      go_loopw [9] (fun vi wr => ∃ q : Nat, q ≤ j ∧ vi = .int .i64 q ∧ Hid (HashAt wr W0.heap.size (List.replicate q c)) ∧ Hid (Below w.heap.size w wr)) (fun vi _ => j - (intOf vi).toNat)
      case atStart => exact ⟨0, Nat.zero_le _, rfl, HN, B1⟩
      case round =>
        clear HN B1
        obtain ⟨q, hq, rfl, hH, hbel⟩ := hrel
        have hz := HSZ.out
        by_cases hqj : q < j
        · have hsq : (q : Int) + 1 ≤ (s.size : Int) := by omega
          have hs0 : q < s.size := by omega
          have hx := one_of s c j q HSL.out hqj
          have HX := Lib.hid hx
          clear hx hz
          go_wp2_with fail
          refine (write_any (s.extract q (q + 1)) (List.replicate q c) W0.heap.size wr hH.out (K0.out.later hbel.out) (by simp [ByteArray.size_extract]; omega)).mono ?_
          rintro e w2 ⟨rfl, hW, hJ⟩
          rw [HX.out, ← List.replicate_succ'] at hW
          have H2 := Lib.hid hW
          have B2 : Hid (Below w.heap.size w w2) := Lib.hid (hJ.below hbel.out hwg (Nat.le_refl _))
          clear hW hJ
          go_wp2
          go_roundw
          case rel => exact ⟨q + 1, by omega, by go_num, H2, B2⟩
          case measure => simp [intOf]; omega
        · obtain rfl : q = j := by omega
          have hsq : decide (q < s.size) = false := decide_eq_false (by omega)
          have H3 : Hid (HashAt wr W0.heap.size s.data.toList) := Lib.hid (by rw [HSL.out]; exact hH.out)
          clear hz hH
          go_wp2_with fail
          refine (c1.out wr (K0.out.later hbel.out)).mono ?_
          rintro e w2 ⟨rfl, hb⟩
          have B2 := Lib.hid hb
          clear hb
          go_wp2_with fail
          refine (c2.out w2).mono ?_
          rintro e w3 ⟨rfl, hb⟩
          have B3 := Lib.hid (chain2 B2.out hb)
          clear hb
          go_wp2_with fail
          refine (c3.out w3 W0.heap.size (H3.out.later B3.out H3.out.lt) (K0.out.later (chain2 hbel.out B3.out))).mono ?_
          rintro e w4 ⟨rfl, hb⟩
          have B4 := Lib.hid (chain2 B3.out hb)
          clear hb
          go_wp2_with fail
          refine (c2.out w4).mono ?_
          rintro e w5 ⟨rfl, hb⟩
          have B5 := Lib.hid (chain2 hbel.out (chain2 B4.out hb))
          clear hb
          go_wp2_with fail
          refine (known2 w5 (K0.out.later B5.out)).mono ?_
          rintro e w6 ⟨rfl, hb⟩
          have B6 := Lib.hid (chain2 B5.out hb)
          clear hb
          go_wp2
          go_ret
          exact ⟨rfl, B6.out⟩

theorem u8_le {p : Int} (h : (Lit.int .u8 p).wf = true) : 0 ≤ p ∧ p < 256 := by
  simp [Lit.wf, IntKind.min, IntKind.max, IntKind.signed, IntKind.bits] at h
  omega

theorem ends_law (n : Int) (hn : (Lit.int .u8 n).wf = true) (c : Int) (hc : (Lit.int .u8 c).wf = true) (w : World) (HK : HasK w) :
    Calls Tryd.prog 5 #[.int .u8 n, .int .u8 c] w fun e w' => e = .returned (.bool true) ∧ Below w.heap.size w w' := by
  obtain ⟨h1, h2⟩ := u8_le hn
  obtain ⟨h3, h4⟩ := u8_le hc
  obtain ⟨m, rfl⟩ := Int.eq_ofNat_of_zero_le h1
  obtain ⟨k, rfl⟩ := Int.eq_ofNat_of_zero_le h3
  have e : ((UInt8.ofNat k).toNat : Int) = (k : Int) := by
    rw [UInt8.toNat_ofNat']; omega
  have := ends_nat m (by omega) (UInt8.ofNat k) w HK
  rw [e] at this
  exact this

end Go.Proofs.YtlhnnkkiojjcpaaDoor
