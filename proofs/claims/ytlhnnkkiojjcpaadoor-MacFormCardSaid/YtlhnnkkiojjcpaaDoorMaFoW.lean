/- The walk of chrysalislaw03.mixed and of MacForm: the latter returns true wherever the table of constants lies. No condition but that. -/
import Derived.Test.YtlhnnkkiojjcpaaDoorMaOfW
namespace Go.Proofs.YtlhnnkkiojjcpaaDoor
open Go.RowKit

structure My (w wr : World) (l : List UInt8) (c : UInt8) (j : Nat) : Prop where
  row : ∀ i, i < l.length → wr.cell? ⟨w.heap.size, i, none⟩ = some (.int .u8 (mixB l c j i))
  free : ∀ i, i < l.length → wr.frozen? ⟨w.heap.size, i, none⟩ = false
  below : Below w.heap.size w wr

theorem My.put {w wr : World} {l : List UInt8} {c : UInt8} {j : Nat} (h : My w wr l c j) : My w (wr.setCell ⟨w.heap.size, j, none⟩ (.int .u8 (((l.getD j 0) ^^^ c).toNat : Int))) l c (j + 1) := by
  refine ⟨fun i hi => ?_, fun i hi => by simpa using h.free i hi, h.below.setCell (by simp) _⟩
  rw [mixB_succ]
  by_cases e : i = j
  · subst e; rw [if_pos rfl, World.cell?_setCell_same _ _ _ (h.row i hi)]
  · rw [if_neg e, World.cell?_setCell_other _ _ _ _ (by intro e'; simp at e'; first | done | exact e e'.symm | exact e e')]
    exact h.row i hi

set_option maxHeartbeats 1000000 in
set_option maxRecDepth 100000 in
theorem lmixed_any (s : ByteArray) (c : UInt8) (w : World) (hs : s.size ≤ 3000) :
    Calls Tryd.prog 27 #[.string s, .int .u8 (c.toNat : Int)] w fun e w' => e = .returned (.string ⟨(mixL s.data.toList c).toArray⟩) ∧ Below w.heap.size w w' := by
  have hcv := run_bytes_of_string (P := Tryd.prog) w 9 32 5 s Tryd.underlying9 Tryd.underlying32 Tryd.underlying5
  have hC1 := grownCap_ge w s.size 0 5
  have hC2 := grownCap_le_maxLen w s.size 0 5 (by unfold maxLen; omega)
  generalize grownCap w s.size 0 5 = C at hcv hC1 hC2
  have hsz : (bytesRow s C).size = C := by
    have : s.data.size = s.size := rfl
    simp [bytesRow]; omega
  rw [hsz] at hcv
  have hll : s.data.toList.length = s.size := by simp
  have hG0 : Grows (w.drew.alloc (.cells (bytesRow s C) 5 (C, C + 1))) w.heap.size w.heap.size C (bv s.data.toList) := bytes_grow (w := w.drew) s C hC1 hC2 _ C (Nat.le_refl _)
  have HM0 : Hid (My w (w.drew.alloc (.cells (bytesRow s C) 5 (C, C + 1))) s.data.toList c 0) := Lib.hid ⟨fun i hi => by
      exact hG0.cells i _ (mixB_none _ c i hi), fun i hi => (hG0.room i (by omega)).2, (Below.refl _ _).drew.alloc (Nat.le_refl _) _⟩
  generalize w.drew.alloc (.cells (bytesRow s C) 5 (C, C + 1)) = W1 at hcv HM0
  have HLL := Lib.hid hll
  clear hG0 hsz hll
  go_enter Tryd.func27, Tryd.ntmps27
  go_wp2
  clear hcv
  go_loopw [6] (fun vi wr => ∃ j : Nat, j ≤ s.size ∧ vi = .int .i64 j ∧ Hid (My w wr s.data.toList c j)) (fun vi _ => s.size - (intOf vi).toNat)
  case atStart => exact ⟨0, Nat.zero_le _, rfl, HM0⟩
  case round =>
    clear HM0
    obtain ⟨j, hj, rfl, hM⟩ := hrel
    by_cases hlt : j < s.size
    · have hjl : j < s.data.toList.length := by have := HLL.out; omega
      have ca := hM.out.row j hjl
      rw [mixB_self] at ca
      have hf := hM.out.free j hjl
      have hx := xor8 (s.data.toList.getD j 0) c
      have hput := hM.out.put
      generalize ((s.data.toList.getD j 0) ^^^ c).toNat = y at hx hput
      generalize (s.data.toList.getD j 0).toNat = x at hx ca
      have HP := Lib.hid hput
      clear hput hM hjl
      go_wp2
      clear hx ca hf
      go_roundw
      case rel => exact ⟨j + 1, by omega, by go_num, HP⟩
      case measure => simp [intOf]; omega
    · obtain rfl : j = s.size := by omega
      have hcv := convert_range (P := Tryd.prog) (w := wr) (src := 32) (dst := 9) w.heap.size C s.size (mixL s.data.toList c) Tryd.underlying32 Tryd.underlying5 Tryd.underlying9 (by rw [mixL_length]; exact HLL.out) (fun i v hv => by
        have hi : i < s.data.toList.length := by have := (List.getElem?_eq_some_iff.1 hv).1; simpa [bv, mixL] using this
        have h2 := mixB_all s.data.toList c i hi
        rw [HLL.out] at h2
        rw [Nat.zero_add, hM.out.row i hi, ← h2, hv])
      go_wp2
      go_ret
      exact ⟨rfl, hM.out.below⟩

theorem lmixed_s (l : List UInt8) (c : UInt8) (w : World) (hl : l.length ≤ 3000) : Calls Tryd.prog 27 #[.string (strOf l), .int .u8 (c.toNat : Int)] w fun e w' => e = .returned (.string (strOf (mixL l c))) ∧ Below w.heap.size w w' := by
  have := lmixed_any (strOf l) c w (by rw [strOf_size]; exact hl)
  rwa [strOf_toList] at this

set_option maxHeartbeats 2000000 in
set_option maxRecDepth 100000 in
theorem macForm_law (key : ByteArray) (_hk : key.size ≤ maxLen) (s : ByteArray) (_hs : s.size ≤ maxLen) (w : World) (HK : HasK w) :
    Calls Tryd.prog 11 #[.string key, .string s] w fun e w' => e = .returned (.bool true) ∧ Below w.heap.size w w' := by
  have K0 := Lib.hid HK
  clear HK
  by_cases h1 : 500 < key.size
  · go_enter Tryd.func11, Tryd.ntmps11
    go_wp2_with fail
    refine (known3 _ K0.out).mono ?_
    rintro e w1 ⟨rfl, hb⟩
    have H1 := Lib.hid hb
    clear hb
    go_wp2
    go_ret
    exact ⟨rfl, H1.out⟩
  have t1 : decide ((500 : Int) < (key.size : Int)) = false := decide_eq_false (by omega)
  have t1' : decide (500 < key.size) = false := decide_eq_false (by omega)
  by_cases h2 : 1000 < s.size
  · go_enter Tryd.func11, Tryd.ntmps11
    go_wp2_with fail
    refine (known3 _ K0.out).mono ?_
    rintro e w1 ⟨rfl, hb⟩
    have H1 := Lib.hid hb
    clear hb
    go_wp2
    go_ret
    exact ⟨rfl, H1.out⟩
  have t2 : decide ((1000 : Int) < (s.size : Int)) = false := decide_eq_false (by omega)
  have t2' : decide (1000 < s.size) = false := decide_eq_false (by omega)
  obtain ⟨k, rfl, hkl⟩ := toS key
  obtain ⟨l, rfl, hl⟩ := toS s
  obtain ⟨Kk, hKk⟩ : ∃ Kk, Kk = keyL k := ⟨_, rfl⟩
  have hkl2 : Kk.length = 64 := by rw [hKk]; exact keyL_length k
  obtain ⟨M1, hM1⟩ : ∃ M1, M1 = mixL Kk 54 := ⟨_, rfl⟩
  obtain ⟨M2, hM2⟩ : ∃ M2, M2 = mixL Kk 92 := ⟨_, rfl⟩
  have hl1 : M1.length = 64 := by rw [hM1, mixL_length, hkl2]
  have hl2 : M2.length = 64 := by rw [hM2, mixL_length, hkl2]
  obtain ⟨D, hD⟩ : ∃ D, D = sha (M1 ++ l) := ⟨_, rfl⟩
  have hDl : D.length = 32 := by rw [hD]; rfl
  have C0 := fun (W : World) (h : HasK W) => key_s k W h (by omega)
  have C1 := fun (W : World) (h : HasK W) => macOf_s k l W h (by omega) (by omega)
  have C2 := fun (W : World) => lmixed_s Kk 92 W (by omega)
  have C3 := fun (W : World) => lmixed_s Kk 54 W (by omega)
  have C4 := fun (W : World) (h : HasK W) => of_s (M1 ++ l) W h (by rw [List.length_append]; omega)
  have C5 := fun (W : World) (h : HasK W) => of_s (M2 ++ D) W h (by rw [List.length_append]; omega)
  have hmac : sha (M2 ++ D) = macL k l := by rw [hD, hM1, hM2, hKk]; rfl
  rw [← hKk] at C0
  rw [← hM2] at C2
  rw [← hM1] at C3
  rw [← hD] at C4
  rw [hmac] at C5
  have had1 := fun W => add_strOf M1 l (by omega) W
  have had2 := fun W => add_strOf M2 D (by omega) W
  generalize strOf (macL k l) = Y at C1 C5
  have c0 := Lib.hid C0
  have c1 := Lib.hid C1
  have c2 := Lib.hid C2
  have c3 := Lib.hid C3
  have c4 := Lib.hid C4
  have c5 := Lib.hid C5
  clear C0 C1 C2 C3 C4 C5 hKk hM1 hM2 hD hmac hkl hl h1 h2 hkl2 hl1 hl2 hDl
  go_enter Tryd.func11, Tryd.ntmps11
  go_wp2_with fail
  refine (c0.out w K0.out).mono ?_
  rintro e w1 ⟨rfl, hb⟩
  have B1 := Lib.hid hb
  clear hb
  go_wp2_with fail
  refine (c1.out w1 (K0.out.later B1.out)).mono ?_
  rintro e w2 ⟨rfl, hb⟩
  have B2 := Lib.hid (chain2 B1.out hb)
  clear hb
  go_wp2_with fail
  refine (c2.out w2).mono ?_
  rintro e w3 ⟨rfl, hb⟩
  have B3 := Lib.hid (chain2 B2.out hb)
  clear hb
  go_wp2_with fail
  refine (c3.out w3).mono ?_
  rintro e w4 ⟨rfl, hb⟩
  have B4 := Lib.hid (chain2 B3.out hb)
  clear hb
  go_wp2_with fail
  refine (c4.out w4 (K0.out.later B4.out)).mono ?_
  rintro e w5 ⟨rfl, hb⟩
  have B5 := Lib.hid (chain2 B4.out hb)
  clear hb
  go_wp2_with fail
  refine (c5.out w5 (K0.out.later B5.out)).mono ?_
  rintro e w6 ⟨rfl, hb⟩
  have B6 := Lib.hid (chain2 B5.out hb)
  clear hb
  go_wp2_with fail
  refine (known3 w6 (K0.out.later B6.out)).mono ?_
  rintro e w7 ⟨rfl, hb⟩
  have B7 := Lib.hid (chain2 B6.out hb)
  clear hb
  go_wp2
  go_ret
  exact ⟨rfl, B7.out⟩

end Go.Proofs.YtlhnnkkiojjcpaaDoor
