/- A tag by definition; the walk of the function that combines a key's bytes with one, and of the document's mixed: their contracts. No condition but those that each states. -/
import Derived.Test.YtepipdikglabaaaDoorDgP
namespace Go.Proofs.YtepipdikglabaaaDoor
open Go.RowKit

/-- A key, or its digest if it is longer than a block. -/
def short (k : List UInt8) : List UInt8 := if 64 < k.length then sha k else k
/-- A key as it is used. -/
def keyL (k : List UInt8) : List UInt8 := short k ++ List.replicate (64 - (short k).length) 0
def mixL (k : List UInt8) (c : UInt8) : List UInt8 := k.map (· ^^^ c)
/-- A text's tag. -/
def macL (key s : List UInt8) : List UInt8 := sha (mixL (keyL key) 92 ++ sha (mixL (keyL key) 54 ++ s))

theorem short_le (k : List UInt8) : (short k).length ≤ 64 := by
  unfold short
  by_cases h : 64 < k.length
  · rw [if_pos h, sha_length]; decide
  · rw [if_neg h]; omega
theorem keyL_length (k : List UInt8) : (keyL k).length = 64 := by
  have := short_le k
  simp [keyL]; omega
theorem mixL_length (k : List UInt8) (c : UInt8) : (mixL k c).length = k.length := by simp [mixL]

theorem bits_xor_nat (k : IntKind) (j : Nat) (hj : j ≤ k.bits) (hk : ∀ n : Int, 0 ≤ n → n < 2 ^ j → k.wrap n = n) (a b : Nat) (ha : a < 2 ^ j) (hb : b < 2 ^ j) : bits .xor k a b = ((a ^^^ b : Nat) : Int) := by
  have hp : 2 ^ j ≤ 2 ^ k.bits := Nat.pow_le_pow_right (by decide) hj
  have ha' : a % 2 ^ k.bits = a := Nat.mod_eq_of_lt (Nat.lt_of_lt_of_le ha hp)
  have hb' : b % 2 ^ k.bits = b := Nat.mod_eq_of_lt (Nat.lt_of_lt_of_le hb hp)
  have cast : ∀ n : Nat, n < 2 ^ j → ((n : Nat) : Int) < 2 ^ j := fun n h => by exact_mod_cast h
  simp only [bits, BitVec.ofInt_natCast, BitVec.toNat_xor, BitVec.toNat_ofNat, ha', hb']
  exact hk _ (Int.natCast_nonneg _) (cast _ (Nat.xor_lt_two_pow ha hb))

theorem xor8 (a c : UInt8) : bits .xor .u8 (a.toNat : Int) (c.toNat : Int) = ((a ^^^ c).toNat : Int) := by
  rw [bits_xor_nat .u8 8 (by decide) wraps_u8 _ _ (UInt8.toNat_lt a) (UInt8.toNat_lt c), UInt8.toNat_xor]

set_option maxHeartbeats 400000 in
theorem combiner_any (c : Int) (w : World) :
    Calls Tryd.prog 29 #[.int .u8 c] w fun e w' => e = .returned (.func (.func 36) #[] #[.pointer (some ⟨w.heap.size, 0, none⟩)]) ∧ w'.cell? ⟨w.heap.size, 0, none⟩ = some (.int .u8 c) ∧ Below w.heap.size w w' ∧ w.heap.size < w'.heap.size := by
  go_enter Tryd.func29, Tryd.ntmps29
  go_wp2
  go_ret
  exact ⟨rfl, by rw [World.cell?_alloc_mark]; rfl, (Below.refl _ _).alloc (Nat.le_refl _) _, by simp⟩

/-- Byte i of a row of which the first j bytes are combined. -/
def mixB (l : List UInt8) (c : UInt8) (j i : Nat) : Int := if i < j then (((l.getD i 0) ^^^ c).toNat : Int) else ((l.getD i 0).toNat : Int)

theorem mixB_self (l : List UInt8) (c : UInt8) (j : Nat) : mixB l c j j = ((l.getD j 0).toNat : Int) := by
  unfold mixB; rw [if_neg (Nat.lt_irrefl j)]
theorem mixB_succ (l : List UInt8) (c : UInt8) (j i : Nat) : mixB l c (j + 1) i = if i = j then (((l.getD j 0) ^^^ c).toNat : Int) else mixB l c j i := by
  unfold mixB
  by_cases h : i = j
  · subst h; rw [if_pos rfl, if_pos (Nat.lt_succ_self i)]
  · rw [if_neg h]
    by_cases h2 : i < j
    · rw [if_pos h2, if_pos (by omega)]
    · rw [if_neg h2, if_neg (by omega)]
theorem mixB_all (l : List UInt8) (c : UInt8) (i : Nat) (h : i < l.length) : (bv (mixL l c))[i]? = some (.int .u8 (mixB l c l.length i)) := by
  unfold mixB
  rw [if_pos h]
  simp [bv, mixL, List.getD, h]

theorem mixB_none (l : List UInt8) (c : UInt8) (i : Nat) (h : i < l.length) : (bv l)[i]? = some (.int .u8 (mixB l c 0 i)) := by
  unfold mixB
  rw [if_neg (Nat.not_lt_zero i)]
  simp [bv, List.getD, h]

structure Mx (w wr : World) (l : List UInt8) (c : UInt8) (b j : Nat) : Prop where
  row : ∀ i, i < l.length → wr.cell? ⟨w.heap.size, i, none⟩ = some (.int .u8 (mixB l c j i))
  free : ∀ i, i < l.length → wr.frozen? ⟨w.heap.size, i, none⟩ = false
  pad : wr.cell? ⟨b, 0, none⟩ = some (.int .u8 (c.toNat : Int))
  below : Below w.heap.size w wr

theorem Mx.put {w wr : World} {l : List UInt8} {c : UInt8} {b j : Nat} (h : Mx w wr l c b j) (hb : b < w.heap.size) (hj : j < l.length) : Mx w (wr.setCell ⟨w.heap.size, j, none⟩ (.int .u8 (((l.getD j 0) ^^^ c).toNat : Int))) l c b (j + 1) := by
  refine ⟨fun i hi => ?_, fun i hi => by simpa using h.free i hi, ?_, h.below.setCell (by simp) _⟩
  · rw [mixB_succ]
    by_cases e : i = j
    · subst e; rw [if_pos rfl, World.cell?_setCell_same _ _ _ (h.row i hi)]
    · rw [if_neg e, World.cell?_setCell_other _ _ _ _ (by intro e'; simp at e'; first | done | exact e e'.symm | exact e e')]
      exact h.row i hi
  · rw [World.cell?_setCell_other _ _ _ _ (by intro e'; simp at e' <;> omega)]; exact h.pad

theorem Mx.of_heap {w wr w' : World} {l : List UInt8} {c : UInt8} {b j : Nat} (h : Mx w wr l c b j) (hb : Below wr.heap.size wr w') (hh : w'.heap = wr.heap) : Mx w w' l c b j := by
  have hc : ∀ a, w'.cell? a = wr.cell? a := fun a => World.cell?_of_block (by rw [hh])
  have hf : ∀ a, w'.frozen? a = wr.frozen? a := fun a => World.frozen?_of_block (by rw [hh])
  exact ⟨fun i hi => by rw [hc]; exact h.row i hi, fun i hi => by rw [hf]; exact h.free i hi, by rw [hc]; exact h.pad, h.below.trans ⟨hb.os, hb.tape, hb.output, hb.size, fun k hk => by rw [hh]⟩⟩

set_option maxHeartbeats 1000000 in
set_option maxRecDepth 100000 in
theorem mixer_any (s : ByteArray) (c : UInt8) (b : Nat) (w : World) (hb : b < w.heap.size) (hc : w.cell? ⟨b, 0, none⟩ = some (.int .u8 (c.toNat : Int))) (hs : s.size ≤ 3000) :
    Calls Tryd.prog 36 #[.string s, .pointer (some ⟨b, 0, none⟩)] w fun e w' => e = .returned (.string ⟨(mixL s.data.toList c).toArray⟩) ∧ Below w.heap.size w w' := by
  have hcv := run_bytes_of_string (P := Tryd.prog) w 9 41 5 s Tryd.underlying9 Tryd.underlying41 Tryd.underlying5
  have hC1 := grownCap_ge w s.size 0 5
  have hC2 := grownCap_le_maxLen w s.size 0 5 (by unfold maxLen; omega)
  generalize grownCap w s.size 0 5 = C at hcv hC1 hC2
  have hsz : (bytesRow s C).size = C := by
    have : s.data.size = s.size := rfl
    simp [bytesRow]; omega
  rw [hsz] at hcv
  have hll : s.data.toList.length = s.size := by simp
  have hG0 : Grows (w.drew.alloc (.cells (bytesRow s C) 5 (C, C + 1))) w.heap.size w.heap.size C (bv s.data.toList) := bytes_grow (w := w.drew) s C hC1 hC2 _ C (Nat.le_refl _)
  have HM0 : Hid (Mx w (w.drew.alloc (.cells (bytesRow s C) 5 (C, C + 1))) s.data.toList c b 0) := Lib.hid ⟨fun i hi => by
      exact hG0.cells i _ (mixB_none _ c i hi), fun i hi => (hG0.room i (by omega)).2, (((Below.refl w.heap.size w).drew.alloc (Nat.le_refl _) _).cell (p := ⟨b, 0, none⟩) hb).trans hc, (Below.refl _ _).drew.alloc (Nat.le_refl _) _⟩
  generalize w.drew.alloc (.cells (bytesRow s C) 5 (C, C + 1)) = W1 at hcv HM0
  have HLL := Lib.hid hll
  clear hG0 hsz hll hc
  go_enter Tryd.func36, Tryd.ntmps36
  go_wp2
  clear hcv
  go_loopw [10] (fun vi wr => ∃ j : Nat, j ≤ s.size ∧ vi = .int .i64 j ∧ Hid (Mx w wr s.data.toList c b j)) (fun vi _ => s.size - (intOf vi).toNat)
  case atStart => exact ⟨0, Nat.zero_le _, rfl, HM0⟩
  case round =>
    clear HM0
    obtain ⟨j, hj, rfl, hM⟩ := hrel
    by_cases hlt : j < s.size
    · have hjl : j < s.data.toList.length := by have := HLL.out; omega
      obtain ⟨W2, hw2, hcell, hfr, hheap, hbel⟩ := drawn_world wr
      have hM2 : Hid (Mx w W2 s.data.toList c b j) := Lib.hid (hM.out.of_heap hbel.out hheap.out)
      have ca := hM2.out.row j hjl
      rw [mixB_self] at ca
      have cp := hM2.out.pad
      have hf := hM2.out.free j hjl
      have hx := xor8 (s.data.toList.getD j 0) c
      have hput := hM2.out.put hb hjl
      generalize ((s.data.toList.getD j 0) ^^^ c).toNat = y at hx hput
      generalize (s.data.toList.getD j 0).toNat = x at hx ca
      have HP := Lib.hid hput
      have z0 : (0 : Int) ≤ (j : Int) := by omega
      have z1 : (j : Int) < (s.size : Int) := by omega
      clear hput hcell hfr hM hjl
      go_wp2
      refine region_still_tail 7 (by kernel_rfl) (by kernel_rfl) W2 hw2.out ?_
      simp only [List.take_succ_cons, List.take_zero, List.drop_succ_cons, List.drop_zero]
      repeat still_step
      refine wpStill_nil ?_
      go_wp2
      clear hx ca cp hf
      go_roundw
      case rel => exact ⟨j + 1, by omega, by go_num, HP⟩
      case measure => simp [intOf]; omega
    · obtain rfl : j = s.size := by omega
      have hcv := convert_range (P := Tryd.prog) (w := wr) (src := 41) (dst := 9) w.heap.size C s.size (mixL s.data.toList c) Tryd.underlying41 Tryd.underlying5 Tryd.underlying9 (by rw [mixL_length]; exact HLL.out) (fun i v hv => by
        have hi : i < s.data.toList.length := by have := (List.getElem?_eq_some_iff.1 hv).1; simpa [bv, mixL] using this
        have h2 := mixB_all s.data.toList c i hi
        rw [HLL.out] at h2
        rw [Nat.zero_add, hM.out.row i hi, ← h2, hv])
      go_wp2
      go_ret
      exact ⟨rfl, hM.out.below⟩

set_option maxHeartbeats 1000000 in
set_option maxRecDepth 100000 in
theorem rmixed_any (s : ByteArray) (c : UInt8) (w : World) (hs : s.size ≤ 3000) :
    Calls Tryd.prog 31 #[.string s, .int .u8 (c.toNat : Int)] w fun e w' => e = .returned (.string ⟨(mixL s.data.toList c).toArray⟩) ∧ Below w.heap.size w w' := by
  obtain ⟨i5, hi5, hy0, hy1, hy2⟩ := info_parts Tryd.info5
  have hll : s.data.toList.length = s.size := by simp
  have HLL := Lib.hid hll
  clear hll
  go_enter Tryd.func31, Tryd.ntmps31
  go_wp2
  go_loopw [5, 6] (fun vo vi wr => ∃ j : Nat, j ≤ s.size ∧ vi = .int .i64 j ∧ Hid (wr.ownsRow w.heap.size 5 1 vo j (bv (mixL (s.data.toList.take j) c))) ∧ Hid (Below w.heap.size w wr)) (fun _ vi _ => s.size - (intOf vi).toNat)
  case atStart => exact ⟨0, Nat.zero_le _, rfl, Lib.hid (by simpa [bv, mixL] using World.ownsRow_nil _ _ _ _), Below.refl _ _⟩
  case round =>
    obtain ⟨j, hj, rfl, hown, hbel⟩ := hrel
    by_cases hlt : j < s.size
    · have hjl : j < s.data.toList.length := by have := HLL.out; omega
      have hx := xor8 s[j] c
      have HE : Hid (bv (mixL (s.data.toList.take (j + 1)) c) = bv (mixL (s.data.toList.take j) c) ++ [.int .u8 ((s[j] ^^^ c).toNat : Int)]) := Lib.hid (by
        rw [List.take_succ_eq_append_getElem hjl, mixL, List.map_append, bv_append]; rfl)
      have HN := Lib.hid (news_at wr #[.int .u8 ((s[j] ^^^ c).toNat : Int)] 5)
      have hbs := hbel.out.size
      go_wp2_with (at_builtin; refine wpList_append_own _ rfl (.tmp 13) (.tmp 19) 41 rfl w.heap.size 5 i5 (.int .u8 0) 1 1 Tryd.underlying41 hi5 hy0 hy1 hy2 rfl (by decide) _ _ _ rfl (hown.out.alloc _) ⟨wr.heap.size, 0, none⟩ 1 1 [.int .u8 ((s[j] ^^^ c).toNat : Int)] rfl rfl HN.out (by simp [Value.oneCell']) (by unfold maxLen; omega) (by omega) (by simp; omega) ?_; intro v1 w2 hown2 hgr2 _)
      have O1 := Lib.hid hown2
      have B1 : Hid (Below w.heap.size w w2) := Lib.hid (below_append hbel.out hbs hown.out hgr2)
      clear hown2 hgr2 hx
      go_wp2
      go_roundw
      case rel => exact ⟨j + 1, by omega, by go_num, Lib.hid (by rw [HE.out]; exact O1.out), B1⟩
      case measure => simp [intOf]; omega
    · obtain rfl : j = s.size := by omega
      have hown' := hown.out
      have ht : s.data.toList.take s.size = s.data.toList := List.take_of_length_le (by simp)
      rw [ht] at hown'
      have hml : (mixL s.data.toList c).length = s.size := by rw [mixL_length]; exact HLL.out
      rw [← hml] at hown'
      have g := run_convert_owned (P := Tryd.prog) (src := 41) (dst := 9) (l := mixL s.data.toList c) Tryd.underlying41 Tryd.underlying5 Tryd.underlying9 hown'
      clear hown' ht hml
      go_wp2
      go_ret
      exact ⟨rfl, hbel.out⟩

end Go.Proofs.YtepipdikglabaaaDoor
