/- The message by definition; the walk of the document's constants and padded. No condition but those that each states. -/
import Derived.Test.YthddiijnomhpfaaDoorDgC
import Derived.Test.YthddiijnomhpfaaDoorDgG
namespace Go.Proofs.YthddiijnomhpfaaDoor
open Go.RowKit

/-- K0 to K63. -/
def consts : List Int := [1116352408, 1899447441, 3049323471, 3921009573, 961987163, 1508970993, 2453635748, 2870763221, 3624381080, 310598401, 607225278, 1426881987, 1925078388, 2162078206, 2614888103, 3248222580, 3835390401, 4022224774, 264347078, 604807628, 770255983, 1249150122, 1555081692, 1996064986, 2554220882, 2821834349, 2952996808, 3210313671, 3336571891, 3584528711, 113926993, 338241895, 666307205, 773529912, 1294757372, 1396182291, 1695183700, 1986661051, 2177026350, 2456956037, 2730485921, 2820302411, 3259730800, 3345764771, 3516065817, 3600352804, 4094571909, 275423344, 430227734, 506948616, 659060556, 883997877, 958139571, 1322822218, 1537002063, 1747873779, 1955562222, 2024104815, 2227730452, 2361852424, 2428436474, 2756734187, 3204031479, 3329325298]

set_option maxHeartbeats 1000000 in
set_option maxRecDepth 100000 in
theorem rconsts_any (w : World) : Calls Tryd.prog 73 #[] w (GivesRow 64 consts w) := by
  go_enter Tryd.func73, Tryd.ntmps73
  go_wp2
  go_ret
  refine ⟨w.heap.size, 64, rfl, Nat.le_refl _, by simp, fun i hi => ?_, (Below.refl _ _).alloc (Nat.le_refl _) _⟩
  rw [World.cell?_alloc_mark]
  have h : ∀ i, i < 64 → (wv consts).toArray[i]? = some (.int .u32 (consts.getD i 0)) := fun i hi => by
    rw [List.getElem?_toArray]; exact wv_get consts i hi
  exact h i hi

/-- Eight bytes of a number, the most significant one first. -/
def be8 (n : Nat) : List UInt8 := [UInt8.ofNat (n / 2 ^ 56), UInt8.ofNat (n / 2 ^ 48), UInt8.ofNat (n / 2 ^ 40), UInt8.ofNat (n / 2 ^ 32), UInt8.ofNat (n / 2 ^ 24), UInt8.ofNat (n / 2 ^ 16), UInt8.ofNat (n / 2 ^ 8), UInt8.ofNat n]

/-- How many bytes 0 there are. -/
def zerosOf (n : Nat) : Nat := (119 - n % 64) % 64

/-- What follows a text of n bytes. -/
def endOf (n : Nat) : List UInt8 := 128 :: List.replicate (zerosOf n) 0 ++ be8 (8 * n)

/-- The message. -/
def pad (l : List UInt8) : List UInt8 := l ++ endOf l.length

theorem zerosOf_stop (n z : Nat) (hz : z ≤ zerosOf n) : ((n + 1 + z) % 64 = 56) ↔ z = zerosOf n := by
  unfold zerosOf at *; omega

theorem bytes_grow {w : World} (s : ByteArray) (cap : Nat) (hc : s.size ≤ cap) (hm : cap ≤ maxLen) (e : TypeId) (n : Nat) (hn : cap ≤ n) : Grows (w.alloc (.cells (bytesRow s cap) e (n, n + 1))) w.heap.size w.heap.size cap (bv s.data.toList) := by
  have hsz : (bytesRow s cap).size = cap := by
    have : s.data.size = s.size := rfl
    simp [bytesRow]; omega
  refine ⟨Nat.le_refl _, by simp, by simp [bv]; exact hc, hm, fun j u hu => ?_, fun j hj => ⟨?_, ?_⟩⟩
  · rw [World.cell?_alloc_mark]
    have hj : j < s.data.size := by have := (List.getElem?_eq_some_iff.1 hu).1; simpa [bv] using this
    unfold bytesRow
    rw [Array.getElem?_append_left (by simpa using hj)]
    simp [bv] at hu
    simpa using hu
  · rw [World.cell?_alloc_mark, Array.getElem?_eq_getElem (by omega)]; rfl
  · have hb : (w.alloc (.cells (bytesRow s cap) e (n, n + 1))).heap[w.heap.size]? = some (.cells (bytesRow s cap) e (n, n + 1)) := heap_alloc_new w _
    simp only [World.frozen?, hb]
    simp; omega

/-- A new row of bytes, L, is handed back. -/
def GivesBytes (L : List UInt8) (w : World) (e : Ending) (w' : World) : Prop :=
  ∃ gg cap : Nat, e = .returned (.slice (some ⟨gg, 0, none⟩) L.length cap) ∧ w.heap.size ≤ gg ∧ gg < w'.heap.size ∧ (∀ i, i < L.length → w'.cell? ⟨gg, i, none⟩ = some (.int .u8 (byteAt L i))) ∧ Below w.heap.size w w' ∧ L.length ≤ cap

def PRel (w : World) (s : ByteArray) (v : Value) (wr : World) : Prop := ∃ z g cap : Nat, z ≤ zerosOf s.size ∧ v = .slice (some ⟨g, 0, none⟩) (s.size + 1 + z) cap ∧
  Hid (Grows wr w.heap.size g cap (bv (s.data.toList ++ 128 :: List.replicate z 0))) ∧ Hid (Below w.heap.size w wr)

theorem zeros_more (l : List UInt8) (z : Nat) : bv (l ++ 128 :: List.replicate (z + 1) 0) = bv (l ++ 128 :: List.replicate z 0) ++ [.int .u8 0] := by
  rw [List.replicate_succ', ← List.cons_append, ← List.append_assoc, bv_append]; rfl

theorem be_step (b : List UInt8) (N j : Nat) (v : Int) (hj : j < 8) (hv : (((be8 N).getD j 0).toNat : Int) = v) : bv (b ++ (be8 N).take (j + 1)) = bv (b ++ (be8 N).take j) ++ [.int .u8 v] := by
  subst hv
  have hl : (be8 N).length = 8 := rfl
  rw [List.take_succ_eq_append_getElem (by omega), ← List.append_assoc, bv_append]
  congr 1
  simp [bv, List.getD, hl, hj]

def ERel (w : World) (s : ByteArray) (n : Nat) (v vi : Value) (wr : World) : Prop := ∃ j g cap : Nat, j ≤ 8 ∧ vi = .int .i64 (7 - j) ∧ v = .slice (some ⟨g, 0, none⟩) (n + j) cap ∧
  Hid (Grows wr w.heap.size g cap (bv ((s.data.toList ++ 128 :: List.replicate (zerosOf s.size) 0) ++ (be8 (8 * s.size)).take j))) ∧ Hid (Below w.heap.size w wr)

def lenOf (v : Value) : Nat := match v with | .slice _ n _ => n | _ => 0

set_option maxHeartbeats 2000000 in
set_option maxRecDepth 100000 in
theorem rpadded_any (s : ByteArray) (w : World) (hs : s.size ≤ 3000) :
    Calls Tryd.prog 74 #[.string s] w (GivesBytes (pad s.data.toList) w) := by
  obtain ⟨i0, hi, hz0, hz1, hz2⟩ := info_parts Tryd.info5
  have hcv := run_bytes_of_string (P := Tryd.prog) w 9 77 5 s Tryd.underlying9 Tryd.underlying77 Tryd.underlying5
  have hC1 := grownCap_ge w s.size 0 5
  have hC2 := grownCap_le_maxLen w s.size 0 5 (by unfold maxLen; omega)
  generalize grownCap w s.size 0 5 = C at hcv hC1 hC2
  have hsz : (bytesRow s C).size = C := by
    have : s.data.size = s.size := rfl
    simp [bytesRow]; omega
  rw [hsz] at hcv
  have hG0 : Grows (w.drew.alloc (.cells (bytesRow s C) 5 (C, C + 1))) w.heap.size w.heap.size C (bv s.data.toList) := bytes_grow (w := w.drew) s C hC1 hC2 _ C (Nat.le_refl _)
  have HG0 := Lib.hid hG0
  have HB0 : Hid (Below w.heap.size w (w.drew.alloc (.cells (bytesRow s C) 5 (C, C + 1)))) := Lib.hid ((Below.refl _ _).drew.alloc (Nat.le_refl _) _)
  generalize w.drew.alloc (.cells (bytesRow s C) 5 (C, C + 1)) = W1 at hcv HG0 HB0
  clear hG0 hsz
  have hlen : Hid ((bv s.data.toList).length = s.size) := Lib.hid (by simp [bv])
  go_enter Tryd.func74, Tryd.ntmps74
  have hW1 := HB0.out.size
  go_wp2_with (at_builtin; refine wpList_append_grow1 _ rfl _ _ 77 rfl 5 i0 (.int .u8 0) 1 Tryd.underlying77 hi hz0 hz1 hz2 rfl w.heap.size w.heap.size C s.size (bv s.data.toList) rfl hlen.out (HG0.out.alloc _) ⟨W1.heap.size, 0, none⟩ 1 (.int .u8 128) rfl (by simp) rfl (by simp; omega) (by unfold maxLen; omega) (by omega) ?_; intro g1 cap1 w2 hg2 hb2)
  have HG2 : Hid (Grows w2 w.heap.size g1 cap1 (bv (s.data.toList ++ 128 :: List.replicate 0 0))) := Lib.hid (by rw [bv_append]; exact hg2)
  have HB2 : Hid (Below w.heap.size w w2) := Lib.hid ((HB0.out.alloc hW1 _).trans hb2)
  clear hg2 hb2 HG0 HB0 hcv hlen
  go_loopw [3] (fun v wr => PRel w s v wr) (fun v _ => 4000 - lenOf v)
  case atStart => unfold PRel; exact ⟨0, g1, cap1, Nat.zero_le _, rfl, HG2, HB2⟩
  case round =>
    clear HG2 HB2 hW1 hC1 hC2
    unfold PRel at hrel
    obtain ⟨z, g, cap, hz, rfl, hG, hB⟩ := hrel
    have hst := zerosOf_stop s.size z hz
    have hzl : zerosOf s.size < 64 := by unfold zerosOf; omega
    have hlen : (bv (s.data.toList ++ 128 :: List.replicate z 0)).length = s.size + 1 + z := by simp [bv]; omega
    obtain ⟨n, hn⟩ : ∃ n, n = s.size + 1 + z := ⟨_, rfl⟩
    rw [← hn] at hlen hst
    have hnb : n ≤ 3100 := by omega
    have HL := Lib.hid hlen
    have HN := Lib.hid hn
    rw [← hn]
    have hbs := hB.out.size
    by_cases hlt : z = zerosOf s.size
    · have t1 : (((n : Nat) : Int) % 64 != 56) = false := by
        have := hst.2 hlt
        simp; omega
      clear hst hlen hn
      have HZ := Lib.hid hlt
      clear hlt
      go_wp2
      obtain ⟨wo, rfl⟩ : ∃ wo : World, wo = wr := ⟨_, rfl⟩
      go_loopw [3, 5] (fun v vi wr => ERel w s n v vi wr) (fun _ vi _ => (1 + intOf vi).toNat)
      case atStart => unfold ERel; exact ⟨0, g, cap, Nat.zero_le _, rfl, rfl, Lib.hid (by rw [List.take_zero, List.append_nil, ← HZ.out]; exact hG.out), hB⟩
      case round =>
        clear t1 HL hG hB
        unfold ERel at hrel
        obtain ⟨j, g, cap, hj, rfl, rfl, hG, hB⟩ := hrel
        have hbs := hB.out.size
        rcases (show j = 0 ∨ j = 1 ∨ j = 2 ∨ j = 3 ∨ j = 4 ∨ j = 5 ∨ j = 6 ∨ j = 7 ∨ j = 8 by omega) with rfl | rfl | rfl | rfl | rfl | rfl | rfl | rfl | rfl
        · have HE : Hid (bv ((s.data.toList ++ 128 :: List.replicate (zerosOf s.size) 0) ++ (be8 (8 * s.size)).take (0 + 1)) = bv ((s.data.toList ++ 128 :: List.replicate (zerosOf s.size) 0) ++ (be8 (8 * s.size)).take 0) ++ [.int .u8 (8 * (s.size : Int) / 72057594037927936)]) := Lib.hid (be_step _ _ 0 _ (by decide) (by simp [be8] <;> omega))
          have HL : Hid ((bv ((s.data.toList ++ 128 :: List.replicate (zerosOf s.size) 0) ++ (be8 (8 * s.size)).take 0)).length = n) := Lib.hid (by rw [HN.out, HZ.out]; simp [bv, be8]; omega)
          go_wp2_with (at_builtin; refine wpList_append_grow1 _ rfl _ _ 77 rfl 5 i0 (.int .u8 0) 1 Tryd.underlying77 hi hz0 hz1 hz2 rfl w.heap.size g cap n (bv ((s.data.toList ++ 128 :: List.replicate (zerosOf s.size) 0) ++ (be8 (8 * s.size)).take 0)) rfl HL.out (hG.out.alloc _) ⟨wr.heap.size, 0, none⟩ 1 (.int .u8 (8 * (s.size : Int) / 72057594037927936)) rfl (by simp) rfl (by simp; omega) (by unfold maxLen; omega) (by omega) ?_; intro g2 cap2 w3 hg3 hb3)
          have HG3 : Hid (Grows w3 w.heap.size g2 cap2 (bv ((s.data.toList ++ 128 :: List.replicate (zerosOf s.size) 0) ++ (be8 (8 * s.size)).take (0 + 1)))) := Lib.hid (by rw [HE.out]; exact hg3)
          have HB3 : Hid (Below w.heap.size w w3) := Lib.hid ((hB.out.alloc hbs _).trans hb3)
          clear hg3 hb3 hG hB HL
          go_wp2
          go_roundw
          case rel => unfold ERel; exact ⟨1, g2, cap2, by omega, rfl, rfl, HG3, HB3⟩
          case measure => simp [intOf]
        · have HE : Hid (bv ((s.data.toList ++ 128 :: List.replicate (zerosOf s.size) 0) ++ (be8 (8 * s.size)).take (1 + 1)) = bv ((s.data.toList ++ 128 :: List.replicate (zerosOf s.size) 0) ++ (be8 (8 * s.size)).take 1) ++ [.int .u8 (8 * (s.size : Int) / 281474976710656)]) := Lib.hid (be_step _ _ 1 _ (by decide) (by simp [be8] <;> omega))
          have HL : Hid ((bv ((s.data.toList ++ 128 :: List.replicate (zerosOf s.size) 0) ++ (be8 (8 * s.size)).take 1)).length = (n + 1)) := Lib.hid (by rw [HN.out, HZ.out]; simp [bv, be8]; omega)
          go_wp2_with (at_builtin; refine wpList_append_grow1 _ rfl _ _ 77 rfl 5 i0 (.int .u8 0) 1 Tryd.underlying77 hi hz0 hz1 hz2 rfl w.heap.size g cap (n + 1) (bv ((s.data.toList ++ 128 :: List.replicate (zerosOf s.size) 0) ++ (be8 (8 * s.size)).take 1)) rfl HL.out (hG.out.alloc _) ⟨wr.heap.size, 0, none⟩ 1 (.int .u8 (8 * (s.size : Int) / 281474976710656)) rfl (by simp) rfl (by simp; omega) (by unfold maxLen; omega) (by omega) ?_; intro g2 cap2 w3 hg3 hb3)
          have HG3 : Hid (Grows w3 w.heap.size g2 cap2 (bv ((s.data.toList ++ 128 :: List.replicate (zerosOf s.size) 0) ++ (be8 (8 * s.size)).take (1 + 1)))) := Lib.hid (by rw [HE.out]; exact hg3)
          have HB3 : Hid (Below w.heap.size w w3) := Lib.hid ((hB.out.alloc hbs _).trans hb3)
          clear hg3 hb3 hG hB HL
          go_wp2
          go_roundw
          case rel => unfold ERel; exact ⟨2, g2, cap2, by omega, rfl, rfl, HG3, HB3⟩
          case measure => simp [intOf]
        · have HE : Hid (bv ((s.data.toList ++ 128 :: List.replicate (zerosOf s.size) 0) ++ (be8 (8 * s.size)).take (2 + 1)) = bv ((s.data.toList ++ 128 :: List.replicate (zerosOf s.size) 0) ++ (be8 (8 * s.size)).take 2) ++ [.int .u8 (8 * (s.size : Int) / 1099511627776)]) := Lib.hid (be_step _ _ 2 _ (by decide) (by simp [be8] <;> omega))
          have HL : Hid ((bv ((s.data.toList ++ 128 :: List.replicate (zerosOf s.size) 0) ++ (be8 (8 * s.size)).take 2)).length = (n + 2)) := Lib.hid (by rw [HN.out, HZ.out]; simp [bv, be8]; omega)
          go_wp2_with (at_builtin; refine wpList_append_grow1 _ rfl _ _ 77 rfl 5 i0 (.int .u8 0) 1 Tryd.underlying77 hi hz0 hz1 hz2 rfl w.heap.size g cap (n + 2) (bv ((s.data.toList ++ 128 :: List.replicate (zerosOf s.size) 0) ++ (be8 (8 * s.size)).take 2)) rfl HL.out (hG.out.alloc _) ⟨wr.heap.size, 0, none⟩ 1 (.int .u8 (8 * (s.size : Int) / 1099511627776)) rfl (by simp) rfl (by simp; omega) (by unfold maxLen; omega) (by omega) ?_; intro g2 cap2 w3 hg3 hb3)
          have HG3 : Hid (Grows w3 w.heap.size g2 cap2 (bv ((s.data.toList ++ 128 :: List.replicate (zerosOf s.size) 0) ++ (be8 (8 * s.size)).take (2 + 1)))) := Lib.hid (by rw [HE.out]; exact hg3)
          have HB3 : Hid (Below w.heap.size w w3) := Lib.hid ((hB.out.alloc hbs _).trans hb3)
          clear hg3 hb3 hG hB HL
          go_wp2
          go_roundw
          case rel => unfold ERel; exact ⟨3, g2, cap2, by omega, rfl, rfl, HG3, HB3⟩
          case measure => simp [intOf]
        · have HE : Hid (bv ((s.data.toList ++ 128 :: List.replicate (zerosOf s.size) 0) ++ (be8 (8 * s.size)).take (3 + 1)) = bv ((s.data.toList ++ 128 :: List.replicate (zerosOf s.size) 0) ++ (be8 (8 * s.size)).take 3) ++ [.int .u8 (8 * (s.size : Int) / 4294967296)]) := Lib.hid (be_step _ _ 3 _ (by decide) (by simp [be8] <;> omega))
          have HL : Hid ((bv ((s.data.toList ++ 128 :: List.replicate (zerosOf s.size) 0) ++ (be8 (8 * s.size)).take 3)).length = (n + 3)) := Lib.hid (by rw [HN.out, HZ.out]; simp [bv, be8]; omega)
          go_wp2_with (at_builtin; refine wpList_append_grow1 _ rfl _ _ 77 rfl 5 i0 (.int .u8 0) 1 Tryd.underlying77 hi hz0 hz1 hz2 rfl w.heap.size g cap (n + 3) (bv ((s.data.toList ++ 128 :: List.replicate (zerosOf s.size) 0) ++ (be8 (8 * s.size)).take 3)) rfl HL.out (hG.out.alloc _) ⟨wr.heap.size, 0, none⟩ 1 (.int .u8 (8 * (s.size : Int) / 4294967296)) rfl (by simp) rfl (by simp; omega) (by unfold maxLen; omega) (by omega) ?_; intro g2 cap2 w3 hg3 hb3)
          have HG3 : Hid (Grows w3 w.heap.size g2 cap2 (bv ((s.data.toList ++ 128 :: List.replicate (zerosOf s.size) 0) ++ (be8 (8 * s.size)).take (3 + 1)))) := Lib.hid (by rw [HE.out]; exact hg3)
          have HB3 : Hid (Below w.heap.size w w3) := Lib.hid ((hB.out.alloc hbs _).trans hb3)
          clear hg3 hb3 hG hB HL
          go_wp2
          go_roundw
          case rel => unfold ERel; exact ⟨4, g2, cap2, by omega, rfl, rfl, HG3, HB3⟩
          case measure => simp [intOf]
        · have HE : Hid (bv ((s.data.toList ++ 128 :: List.replicate (zerosOf s.size) 0) ++ (be8 (8 * s.size)).take (4 + 1)) = bv ((s.data.toList ++ 128 :: List.replicate (zerosOf s.size) 0) ++ (be8 (8 * s.size)).take 4) ++ [.int .u8 (8 * (s.size : Int) / 16777216)]) := Lib.hid (be_step _ _ 4 _ (by decide) (by simp [be8] <;> omega))
          have HL : Hid ((bv ((s.data.toList ++ 128 :: List.replicate (zerosOf s.size) 0) ++ (be8 (8 * s.size)).take 4)).length = (n + 4)) := Lib.hid (by rw [HN.out, HZ.out]; simp [bv, be8]; omega)
          go_wp2_with (at_builtin; refine wpList_append_grow1 _ rfl _ _ 77 rfl 5 i0 (.int .u8 0) 1 Tryd.underlying77 hi hz0 hz1 hz2 rfl w.heap.size g cap (n + 4) (bv ((s.data.toList ++ 128 :: List.replicate (zerosOf s.size) 0) ++ (be8 (8 * s.size)).take 4)) rfl HL.out (hG.out.alloc _) ⟨wr.heap.size, 0, none⟩ 1 (.int .u8 (8 * (s.size : Int) / 16777216)) rfl (by simp) rfl (by simp; omega) (by unfold maxLen; omega) (by omega) ?_; intro g2 cap2 w3 hg3 hb3)
          have HG3 : Hid (Grows w3 w.heap.size g2 cap2 (bv ((s.data.toList ++ 128 :: List.replicate (zerosOf s.size) 0) ++ (be8 (8 * s.size)).take (4 + 1)))) := Lib.hid (by rw [HE.out]; exact hg3)
          have HB3 : Hid (Below w.heap.size w w3) := Lib.hid ((hB.out.alloc hbs _).trans hb3)
          clear hg3 hb3 hG hB HL
          go_wp2
          go_roundw
          case rel => unfold ERel; exact ⟨5, g2, cap2, by omega, rfl, rfl, HG3, HB3⟩
          case measure => simp [intOf]
        · have HE : Hid (bv ((s.data.toList ++ 128 :: List.replicate (zerosOf s.size) 0) ++ (be8 (8 * s.size)).take (5 + 1)) = bv ((s.data.toList ++ 128 :: List.replicate (zerosOf s.size) 0) ++ (be8 (8 * s.size)).take 5) ++ [.int .u8 (8 * (s.size : Int) / 65536)]) := Lib.hid (be_step _ _ 5 _ (by decide) (by simp [be8] <;> omega))
          have HL : Hid ((bv ((s.data.toList ++ 128 :: List.replicate (zerosOf s.size) 0) ++ (be8 (8 * s.size)).take 5)).length = (n + 5)) := Lib.hid (by rw [HN.out, HZ.out]; simp [bv, be8]; omega)
          go_wp2_with (at_builtin; refine wpList_append_grow1 _ rfl _ _ 77 rfl 5 i0 (.int .u8 0) 1 Tryd.underlying77 hi hz0 hz1 hz2 rfl w.heap.size g cap (n + 5) (bv ((s.data.toList ++ 128 :: List.replicate (zerosOf s.size) 0) ++ (be8 (8 * s.size)).take 5)) rfl HL.out (hG.out.alloc _) ⟨wr.heap.size, 0, none⟩ 1 (.int .u8 (8 * (s.size : Int) / 65536)) rfl (by simp) rfl (by simp; omega) (by unfold maxLen; omega) (by omega) ?_; intro g2 cap2 w3 hg3 hb3)
          have HG3 : Hid (Grows w3 w.heap.size g2 cap2 (bv ((s.data.toList ++ 128 :: List.replicate (zerosOf s.size) 0) ++ (be8 (8 * s.size)).take (5 + 1)))) := Lib.hid (by rw [HE.out]; exact hg3)
          have HB3 : Hid (Below w.heap.size w w3) := Lib.hid ((hB.out.alloc hbs _).trans hb3)
          clear hg3 hb3 hG hB HL
          go_wp2
          go_roundw
          case rel => unfold ERel; exact ⟨6, g2, cap2, by omega, rfl, rfl, HG3, HB3⟩
          case measure => simp [intOf]
        · have HE : Hid (bv ((s.data.toList ++ 128 :: List.replicate (zerosOf s.size) 0) ++ (be8 (8 * s.size)).take (6 + 1)) = bv ((s.data.toList ++ 128 :: List.replicate (zerosOf s.size) 0) ++ (be8 (8 * s.size)).take 6) ++ [.int .u8 (8 * (s.size : Int) / 256)]) := Lib.hid (be_step _ _ 6 _ (by decide) (by simp [be8] <;> omega))
          have HL : Hid ((bv ((s.data.toList ++ 128 :: List.replicate (zerosOf s.size) 0) ++ (be8 (8 * s.size)).take 6)).length = (n + 6)) := Lib.hid (by rw [HN.out, HZ.out]; simp [bv, be8]; omega)
          go_wp2_with (at_builtin; refine wpList_append_grow1 _ rfl _ _ 77 rfl 5 i0 (.int .u8 0) 1 Tryd.underlying77 hi hz0 hz1 hz2 rfl w.heap.size g cap (n + 6) (bv ((s.data.toList ++ 128 :: List.replicate (zerosOf s.size) 0) ++ (be8 (8 * s.size)).take 6)) rfl HL.out (hG.out.alloc _) ⟨wr.heap.size, 0, none⟩ 1 (.int .u8 (8 * (s.size : Int) / 256)) rfl (by simp) rfl (by simp; omega) (by unfold maxLen; omega) (by omega) ?_; intro g2 cap2 w3 hg3 hb3)
          have HG3 : Hid (Grows w3 w.heap.size g2 cap2 (bv ((s.data.toList ++ 128 :: List.replicate (zerosOf s.size) 0) ++ (be8 (8 * s.size)).take (6 + 1)))) := Lib.hid (by rw [HE.out]; exact hg3)
          have HB3 : Hid (Below w.heap.size w w3) := Lib.hid ((hB.out.alloc hbs _).trans hb3)
          clear hg3 hb3 hG hB HL
          go_wp2
          go_roundw
          case rel => unfold ERel; exact ⟨7, g2, cap2, by omega, rfl, rfl, HG3, HB3⟩
          case measure => simp [intOf]
        · have HE : Hid (bv ((s.data.toList ++ 128 :: List.replicate (zerosOf s.size) 0) ++ (be8 (8 * s.size)).take (7 + 1)) = bv ((s.data.toList ++ 128 :: List.replicate (zerosOf s.size) 0) ++ (be8 (8 * s.size)).take 7) ++ [.int .u8 (8 * (s.size : Int) % 256)]) := Lib.hid (be_step _ _ 7 _ (by decide) (by simp [be8] <;> omega))
          have HL : Hid ((bv ((s.data.toList ++ 128 :: List.replicate (zerosOf s.size) 0) ++ (be8 (8 * s.size)).take 7)).length = (n + 7)) := Lib.hid (by rw [HN.out, HZ.out]; simp [bv, be8]; omega)
          go_wp2_with (at_builtin; refine wpList_append_grow1 _ rfl _ _ 77 rfl 5 i0 (.int .u8 0) 1 Tryd.underlying77 hi hz0 hz1 hz2 rfl w.heap.size g cap (n + 7) (bv ((s.data.toList ++ 128 :: List.replicate (zerosOf s.size) 0) ++ (be8 (8 * s.size)).take 7)) rfl HL.out (hG.out.alloc _) ⟨wr.heap.size, 0, none⟩ 1 (.int .u8 (8 * (s.size : Int) % 256)) rfl (by simp) rfl (by simp; omega) (by unfold maxLen; omega) (by omega) ?_; intro g2 cap2 w3 hg3 hb3)
          have HG3 : Hid (Grows w3 w.heap.size g2 cap2 (bv ((s.data.toList ++ 128 :: List.replicate (zerosOf s.size) 0) ++ (be8 (8 * s.size)).take (7 + 1)))) := Lib.hid (by rw [HE.out]; exact hg3)
          have HB3 : Hid (Below w.heap.size w w3) := Lib.hid ((hB.out.alloc hbs _).trans hb3)
          clear hg3 hb3 hG hB HL
          go_wp2
          go_roundw
          case rel => unfold ERel; exact ⟨8, g2, cap2, by omega, rfl, rfl, HG3, HB3⟩
          case measure => simp [intOf]
        · have hlen : (pad s.data.toList).length = n + 8 := by rw [HN.out, HZ.out]; simp [pad, endOf, be8]; omega
          have hpad : pad s.data.toList = (s.data.toList ++ 128 :: List.replicate (zerosOf s.size) 0) ++ (be8 (8 * s.size)).take 8 := by
            have : s.data.toList.length = s.size := by simp
            unfold pad endOf
            rw [this, List.append_assoc]; rfl
          have HL := Lib.hid hlen
          have HP := Lib.hid hpad
          clear hlen hpad
          go_wp2
          go_ret
          refine ⟨g, cap, by rw [HL.out]; rfl, hG.out.base, hG.out.lt, fun i hi => ?_, hB.out, ?_⟩
          · refine hG.out.cells i _ ?_
            rw [← HP.out]
            simp [bv, byteAt, List.getD, hi]
          · have := hG.out.le
            rw [← HP.out] at this
            simpa [bv] using this
    · have t1 : (((n : Nat) : Int) % 64 != 56) = true := by
        have : ¬ n % 64 = 56 := fun h => hlt (hst.1 h)
        simp; omega
      have HZ : z + 1 ≤ zerosOf s.size := by omega
      clear hst hlen hn hlt
      go_wp2_with (at_builtin; refine wpList_append_grow1 _ rfl _ _ 77 rfl 5 i0 (.int .u8 0) 1 Tryd.underlying77 hi hz0 hz1 hz2 rfl w.heap.size g cap n (bv (s.data.toList ++ 128 :: List.replicate z 0)) rfl HL.out (hG.out.alloc _) ⟨wr.heap.size, 0, none⟩ 1 (.int .u8 0) rfl (by simp) rfl (by simp; omega) (by unfold maxLen; omega) (by omega) ?_; intro g2 cap2 w3 hg3 hb3)
      have HG3 : Hid (Grows w3 w.heap.size g2 cap2 (bv (s.data.toList ++ 128 :: List.replicate (z + 1) 0))) := Lib.hid (by rw [zeros_more]; exact hg3)
      have HB3 : Hid (Below w.heap.size w w3) := Lib.hid ((hB.out.alloc hbs _).trans hb3)
      clear hg3 hb3 hG hB
      go_roundw
      case rel => unfold PRel; exact ⟨z + 1, g2, cap2, HZ, by rw [HN.out]; rfl, HG3, HB3⟩
      case measure => simp [lenOf]; omega

end Go.Proofs.YthddiijnomhpfaaDoor
