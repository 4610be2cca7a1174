/- The walk of DigestParts: it returns true wherever the table of constants lies. No condition but that. -/
import Derived.Test.YtlhnnkkiojjcpaaDoorDgP
import Derived.SliceStrings
import Derived.ProofKit
import Derived.OpenShut
namespace Go.Proofs.YtlhnnkkiojjcpaaDoor
open Go.RowKit

def other5 : List UInt8 := [111, 116, 104, 101, 114]

theorem add_str (S x : ByteArray) (h : S.size + x.size ≤ 100000) (W : World) : (Op.stringOp .add S x).run Tryd.prog W = .ok (.string (S ++ x)) W :=
  run_string_add_sum (P := Tryd.prog) (w := W) _ _ (by omega)

theorem toList_add (S x : ByteArray) : (S ++ x).data.toList = S.data.toList ++ x.data.toList := by simp [ByteArray.data_append]

set_option maxHeartbeats 4000000 in
set_option maxRecDepth 100000 in
theorem parts_any (b off len cap : Nat) (ss : List ByteArray) (w : World) (hlen : len ≤ ss.length) (hmax : len ≤ 9223372036854775807) (hbw : b < w.heap.size) (hz : ∀ j, j < len → (ss.getD j ByteArray.empty).size ≤ 9223372036854775807)
    (hcell : ∀ j, j < len → w.cell? ⟨b, off + j, none⟩ = some (.string (ss.getD j ByteArray.empty))) (HK : HasK w) :
    Calls Tryd.prog 4 #[.slice (some ⟨b, off, none⟩) len cap] w fun e w' => e = .returned (.bool true) ∧ Below w.heap.size w w' := by
  have HZ := Lib.hid hz
  have HC := Lib.hid hcell
  have K0 := Lib.hid HK
  have h0 := HK.lt
  clear hz hcell HK
  go_enter Tryd.func4, Tryd.ntmps4
  go_wp2_with fail
  refine (new_any _ h0).mono ?_
  rintro e w0 ⟨rfl, hN, hb0, hlt0⟩
  have HN := Lib.hid hN
  have B0 := Lib.hid hb0
  clear hN hb0 hlt0
  go_wp2
  go_loopw [4, 5] (fun vs vi wr => ∃ (j : Nat) (S : ByteArray), j ≤ len ∧ j ≤ 12 ∧ vi = .int .i64 j ∧ vs = .string S ∧ S.size ≤ 400 * j ∧ Hid (HashAt wr w.heap.size S.data.toList) ∧ Hid (Below w.heap.size w wr)) (fun _ vi _ => 12 - (intOf vi).toNat)
  case atStart => exact ⟨0, ⟨#[]⟩, Nat.zero_le _, by omega, rfl, rfl, Nat.zero_le _, HN, B0⟩
  case round =>
    clear HN B0
    obtain ⟨j, S, hj, hj12, rfl, rfl, hS, hH, hbel⟩ := hrel
    by_cases hlt : j < len ∧ j < 12
    · obtain ⟨hlt, hlt12⟩ := hlt
      have hcx : wr.cell? ⟨b, off + j, none⟩ = some (.string (ss.getD j ByteArray.empty)) := (hbel.out.cell (p := ⟨b, off + j, none⟩) hbw).trans (HC.out j hlt)
      have hzx := HZ.out j hlt
      generalize ss.getD j ByteArray.empty = x at *
      by_cases hbig : 400 < x.size
      · go_wp2_with fail
        refine (known2 _ (K0.out.later hbel.out)).mono ?_
        rintro e w1 ⟨rfl, hb⟩
        have H1 := Lib.hid hb
        clear hb
        go_wp2
        go_ret
        exact ⟨rfl, chain2 hbel.out H1.out⟩
      · have hsx : x.size ≤ 400 := by omega
        have h5 : (⟨#[111, 116, 104, 101, 114]⟩ : ByteArray).size = 5 := rfl
        have hSl : S.data.toList.length = S.size := by simp
        have had := add_str S ⟨#[111, 116, 104, 101, 114]⟩ (by omega)
        have H5 := Lib.hid h5
        have HSL := Lib.hid hSl
        clear h5 hSl
        have had2 := add_str S x (by omega)
        go_wp2_with fail
        refine (copy_hash S.data.toList w.heap.size wr hH.out).mono ?_
        rintro e w1 ⟨rfl, hC, hb1, hlt1⟩
        have hg2 : w.heap.size < wr.heap.size := hH.out.lt
        have C1 : Hid (HashAt w1 wr.heap.size S.data.toList) := Lib.hid hC
        have H1 : Hid (HashAt w1 w.heap.size S.data.toList) := Lib.hid (hH.out.later hb1 hg2)
        have B1 : Hid (Below w.heap.size w w1) := Lib.hid (chain2 hbel.out hb1)
        have c1 : w1.cell? ⟨b, off + j, none⟩ = some (.string x) := (hb1.cell (p := ⟨b, off + j, none⟩) (show b < wr.heap.size by omega)).trans hcx
        clear hC hb1 hcx
        go_wp2_with fail
        refine (write_any x S.data.toList w.heap.size w1 H1.out (K0.out.later B1.out) (by have := HSL.out; omega)).mono ?_
        rintro e w2 ⟨rfl, hW, hJ⟩
        rw [← toList_add] at hW
        have H2 : Hid (HashAt w2 w.heap.size (S ++ x).data.toList) := Lib.hid hW
        have C2 : Hid (HashAt w2 wr.heap.size S.data.toList) := Lib.hid (C1.out.just hJ (by omega))
        have B2 : Hid (Below w.heap.size w w2) := Lib.hid (hJ.below B1.out (Nat.le_refl _) (Nat.le_refl _))
        have c2 : w2.cell? ⟨b, off + j, none⟩ = some (.string x) := (World.cell?_of_block (w := w1) (w' := w2) (a := ⟨b, off + j, none⟩) (hJ.block b (by have := B1.out.size; omega) (by omega))).trans c1
        clear hW hJ c1 C1 H1
        go_wp2_with fail
        refine (write_any ⟨#[111, 116, 104, 101, 114]⟩ S.data.toList wr.heap.size w2 C2.out (K0.out.later B2.out) (by have := H5.out; have := HSL.out; omega)).mono ?_
        rintro e w3 ⟨rfl, hW, hJ⟩
        rw [← toList_add] at hW
        have C3 : Hid (HashAt w3 wr.heap.size (S ++ ⟨#[111, 116, 104, 101, 114]⟩ : ByteArray).data.toList) := Lib.hid hW
        have H3 : Hid (HashAt w3 w.heap.size (S ++ x).data.toList) := Lib.hid (H2.out.just hJ (by omega))
        have B3 : Hid (Below w.heap.size w w3) := Lib.hid (hJ.below B2.out (Nat.le_of_lt hg2) (Nat.le_refl _))
        have c3 : w3.cell? ⟨b, off + j, none⟩ = some (.string x) := (World.cell?_of_block (w := w2) (w' := w3) (a := ⟨b, off + j, none⟩) (hJ.block b (by have := B2.out.size; omega) (by omega))).trans c2
        clear hW hJ c2 C2 H2 B1 B2
        have ho : (S ++ ⟨#[111, 116, 104, 101, 114]⟩ : ByteArray).size = S.size + 5 := by rw [ByteArray.size_append]; rfl
        have hT : (S ++ x).size = S.size + x.size := ByteArray.size_append
        generalize (S ++ ⟨#[111, 116, 104, 101, 114]⟩ : ByteArray) = O at *
        generalize S ++ x = T at *
        obtain ⟨Y, hY⟩ : ∃ Y : ByteArray, Y = ⟨(sha O.data.toList).toArray⟩ := ⟨_, rfl⟩
        obtain ⟨Z, hZ⟩ : ∃ Z : ByteArray, Z = ⟨(sha T.data.toList).toArray⟩ := ⟨_, rfl⟩
        have hZ32 : Z.size = 32 := by rw [hZ]; rfl
        have S1 := fun (W : World) (h : HashAt W wr.heap.size O.data.toList) (k : HasK W) => sum_any O.data.toList wr.heap.size W h k (by simp; omega)
        have S2 := fun (W : World) (k : HasK W) => of_any O W k (by omega)
        have S3 := fun (W : World) (h : HashAt W w.heap.size T.data.toList) (k : HasK W) => sum_any T.data.toList w.heap.size W h k (by simp; omega)
        have S4 := fun (W : World) (k : HasK W) => of_any T W k (by omega)
        rw [← hY] at S1 S2
        rw [← hZ] at S3 S4
        have L1 := fun (W : World) (h : HashAt W wr.heap.size O.data.toList) => len_any O.data.toList wr.heap.size W h
        have L2 := fun (W : World) (h : HashAt W w.heap.size T.data.toList) => len_any T.data.toList w.heap.size W h
        rw [show (O.data.toList.length : Int) = (S.size : Int) + 5 by simp; omega] at L1
        rw [show (T.data.toList.length : Int) = (T.size : Int) by simp] at L2
        have s1 := Lib.hid S1
        have s2 := Lib.hid S2
        have s3 := Lib.hid S3
        have s4 := Lib.hid S4
        have l1 := Lib.hid L1
        have l2 := Lib.hid L2
        have HO := Lib.hid ho
        have HT := Lib.hid hT
        clear S1 S2 S3 S4 L1 L2 hY hZ ho hT
        go_wp2_with fail
        refine (s1.out w3 C3.out (K0.out.later B3.out)).mono ?_
        rintro e w4 ⟨rfl, hb4⟩
        have B4 := Lib.hid hb4
        clear hb4
        go_wp2_with fail
        refine (s2.out w4 (K0.out.later (chain2 B3.out B4.out))).mono ?_
        rintro e w5 ⟨rfl, hb5⟩
        have B5 : Hid (Below w3.heap.size w3 w5) := Lib.hid (chain2 B4.out hb5)
        have c5 : w5.cell? ⟨b, off + j, none⟩ = some (.string x) := (B5.out.cell (p := ⟨b, off + j, none⟩) (show b < w3.heap.size by have := B3.out.size; omega)).trans c3
        clear hb5 B4 c3
        go_wp2_with fail
        refine (l1.out w5 (C3.out.later B5.out C3.out.lt)).mono ?_
        rintro e w' ⟨rfl, rfl⟩
        go_wp2_with fail
        refine (s3.out w5 (H3.out.later B5.out H3.out.lt) (K0.out.later (chain2 B3.out B5.out))).mono ?_
        rintro e w6 ⟨rfl, hb6⟩
        have B6 : Hid (Below w3.heap.size w3 w6) := Lib.hid (chain2 B5.out hb6)
        clear hb6
        go_wp2_with fail
        refine (s4.out w6 (K0.out.later (chain2 B3.out B6.out))).mono ?_
        rintro e w7 ⟨rfl, hb7⟩
        have B7 : Hid (Below w3.heap.size w3 w7) := Lib.hid (chain2 B6.out hb7)
        clear hb7
        go_wp2_with fail
        refine (l2.out w7 (H3.out.later B7.out H3.out.lt)).mono ?_
        rintro e w' ⟨rfl, rfl⟩
        go_wp2_with fail
        refine (s3.out w7 (H3.out.later B7.out H3.out.lt) (K0.out.later (chain2 B3.out B7.out))).mono ?_
        rintro e w8 ⟨rfl, hb8⟩
        have B8 : Hid (Below w3.heap.size w3 w8) := Lib.hid (chain2 B7.out hb8)
        have H8 : Hid (HashAt w8 w.heap.size T.data.toList) := Lib.hid (H3.out.later B8.out H3.out.lt)
        have BF : Hid (Below w.heap.size w w8) := Lib.hid (chain2 B3.out B8.out)
        have hTb : T.size ≤ 400 * (j + 1) := by have := HT.out; omega
        clear hb8 B5 B6 B7 c5 had had2
        go_wp2
        go_roundw
        case rel => exact ⟨j + 1, T, by omega, by omega, by go_num, rfl, hTb, H8, BF⟩
        case measure => simp [intOf]; omega
    · rcases (show j = len ∨ (j < len ∧ j = 12) by omega) with rfl | ⟨hlt2, rfl⟩
      all_goals
        go_wp2_with fail
        refine (known2 _ (K0.out.later hbel.out)).mono ?_
        rintro e w1 ⟨rfl, hb⟩
        have H1 := Lib.hid hb
        clear hb
        go_wp2
        go_ret
        exact ⟨rfl, chain2 hbel.out H1.out⟩

set_option maxHeartbeats 1000000 in
set_option maxRecDepth 100000 in
theorem parts_none (a : Option Addr) (cap : Nat) (w : World) (HK : HasK w) :
    Calls Tryd.prog 4 #[.slice a 0 cap] w fun e w' => e = .returned (.bool true) ∧ Below w.heap.size w w' := by
  have K0 := Lib.hid HK
  have h0 := HK.lt
  clear HK
  go_enter Tryd.func4, Tryd.ntmps4
  go_wp2_with fail
  refine (new_any _ h0).mono ?_
  rintro e w0 ⟨rfl, hN, hb0, hlt0⟩
  have B0 := Lib.hid hb0
  clear hN hb0 hlt0
  go_wp2
  go_loop [4, 5] (fun vs vi => vs = .string ⟨#[]⟩ ∧ vi = .int .i64 0) (fun _ _ => 0)
  case atStart => exact ⟨rfl, rfl⟩
  case round =>
    obtain ⟨rfl, rfl⟩ := hrel
    go_wp2_with fail
    refine (known2 _ (K0.out.later B0.out)).mono ?_
    rintro e w1 ⟨rfl, hb⟩
    have H1 := Lib.hid hb
    clear hb
    go_wp2
    go_ret
    exact ⟨rfl, chain2 B0.out H1.out⟩

theorem Tryd.cells9 : Tryd.prog.cellsOf 9 = 1 := by kernel_rfl

theorem parts_true {H : Type} {enc : TypeId × Value → H} {W : World} {base : Nat} {v : Value} {d : DataW H} {p : List MemPlace} (hv : Value.okWide Tryd.prog W .any base 25 v) (h : DataW.Trod enc Tryd.prog W 0 (fun _ => true) true 25 v d p) (HK : HasK W) :
    Calls Tryd.prog 4 #[v] W fun e w' => e = .returned (.bool true) ∧ Below W.heap.size W w' := by
  have hlt : ∀ x ∈ p, x.block < W.heap.size := by obtain ⟨m, hm⟩ := h; exact DataW.trod_lt m _ _ _ hm
  obtain ⟨a0, len, cap, rfl⟩ := WideShapes.okWide_slice Tryd.underlying25 hv
  obtain ⟨fuel, hf⟩ := h
  rcases ChangeShapes.open_strings Tryd.underlying25 Tryd.underlying9 Tryd.cells9 hf with ⟨hcs, hx⟩ | ⟨a, len', cap', ss, hcs, _, hl, hm, hz, hx, hcell, hws⟩
  · simp [Value.cells] at hcs
    obtain ⟨rfl, rfl, rfl⟩ := hcs
    exact parts_none none 0 W HK
  · simp [Value.cells] at hcs
    obtain ⟨rfl, rfl, rfl⟩ := hcs
    simp only [Prod.mk.injEq] at hx
    simp only [if_true] at hz
    by_cases hl0 : len = 0
    · subst hl0
      exact parts_none _ cap W HK
    · obtain ⟨b, off, spot⟩ := a
      have hspot : spot = none := by simpa [Addr.add] using World.cell?_spot (hcell 0 (by omega))
      subst hspot
      have hbW : b < W.heap.size := hlt (.cell b off) (by rw [hx.2]; exact MemPlace.mem_row.2 ⟨0, by omega, by simp⟩)
      unfold maxLen at hm hws
      refine parts_any b off len cap ss W (by omega) (by omega) hbW (fun j hj => ?_) (fun j hj => ?_) HK
      · have hjs : j < ss.length := by omega
        rw [List.getD_eq_getElem?_getD, List.getElem?_eq_getElem hjs]
        exact hws _ (List.getElem_mem hjs)
      · rw [← WideShapes.add_plain]; exact hcell j (by omega)

end Go.Proofs.YtlhnnkkiojjcpaaDoor
