/- The walk of MacKeys: it returns true wherever the table of constants lies. No condition but that. -/
import Derived.Test.YtepipdikglabaaaDoorMaOfW
namespace Go.Proofs.YtepipdikglabaaaDoor
open Go.RowKit
attribute [local go_sem ↓] Go.wp_at_zero Go.wp_at_succ

theorem keyL_of_digest (k : List UInt8) (h : 64 < k.length) : keyL ((keyL k).take 32) = keyL k := by
  have e : (keyL k).take 32 = sha k := by
    unfold keyL short
    rw [if_pos h]
    exact List.take_left' (sha_length k)
  rw [e]
  unfold keyL short
  rw [if_neg (by rw [sha_length]; decide), if_pos h]

theorem keyL_padded (k : List UInt8) (j : Nat) (h : k.length + j ≤ 64) : keyL (k ++ List.replicate j 0) = keyL k := by
  unfold keyL short
  rw [if_neg (by simp; omega), if_neg (by omega), List.append_assoc, List.replicate_append_replicate]
  congr 2
  simp; omega

theorem macL_key {k k' : List UInt8} (h : keyL k = keyL k') (s : List UInt8) : macL k s = macL k' s := by unfold macL; rw [h]

theorem cut_eq (l : List UInt8) (n : Nat) : (strOf l).extract 0 n = strOf (l.take n) := by apply ByteArray.ext; simp [strOf]

/-- The table lies in W, and W is w but for new blocks. -/
def SK (w W : World) : Prop := HasK W ∧ Below w.heap.size w W
theorem SK.k {w W : World} (h : SK w W) : HasK W := h.1
theorem SK.later {w W W' : World} (hb : Below W.heap.size W W') (h : SK w W) : SK w W' := ⟨h.1.later hb, chain2 h.2 hb⟩

set_option maxHeartbeats 2000000 in
set_option maxRecDepth 100000 in
theorem macKeys_law (key : ByteArray) (_hk : key.size ≤ maxLen) (more : Int) (hm : (Lit.int .u8 more).wf = true) (s : ByteArray) (_hs : s.size ≤ maxLen) (w : World) (HK : HasK w) :
    Calls Tryd.prog 7 #[.string key, .int .u8 more, .string s] w fun e w' => e = .returned (.bool true) ∧ Below w.heap.size w w' := by
  have hm0 : 0 ≤ more ∧ more ≤ 255 := by simp [Lit.wf, IntKind.min, IntKind.max, IntKind.signed, IntKind.bits] at hm; omega
  obtain ⟨hm0, hm1⟩ := hm0
  have K0 := Lib.hid HK
  clear HK hm
  by_cases h1 : 300 < key.size
  · go_enter Tryd.func7, Tryd.ntmps7
    go_wp2_with fail
    refine (known3 _ K0.out).mono ?_
    rintro e w1 ⟨rfl, hb⟩
    have H1 := Lib.hid hb
    clear hb
    go_wp2
    go_ret
    exact ⟨rfl, H1.out⟩
  have t1 : decide ((300 : Int) < (key.size : Int)) = false := decide_eq_false (by omega)
  have t1' : decide (300 < key.size) = false := decide_eq_false (by omega)
  by_cases h2 : 1000 < s.size
  · go_enter Tryd.func7, Tryd.ntmps7
    go_wp2_with fail
    refine (known3 _ K0.out).mono ?_
    rintro e w1 ⟨rfl, hb⟩
    have H1 := Lib.hid hb
    clear hb
    go_wp2
    go_ret
    exact ⟨rfl, H1.out⟩
  have t2 : decide ((1000 : Int) < (s.size : Int)) = false := decide_eq_false (by omega)
  have t2' : decide (1000 < s.size) = false := decide_eq_false (by omega)
  obtain ⟨k, rfl, hkl⟩ := toS key
  obtain ⟨l, rfl, hl⟩ := toS s
  by_cases h3 : 64 < k.length
  · have C1 := fun (W : World) (h : HasK W) => macOf_s k l W h (by omega) (by omega)
    have C2 := fun (W : World) (h : HasK W) => macOf_s ((keyL k).take 32) l W h (by rw [List.length_take]; omega) (by omega)
    have C3 := fun (W : World) (h : HasK W) => key_s k W h (by omega)
    rw [macL_key (keyL_of_digest k h3)] at C2
    have hz64 : (strOf (keyL k)).size = 64 := by rw [strOf_size, keyL_length]
    have hks : 64 < (strOf k).size := by rw [strOf_size]; exact h3
    rw [← cut_eq] at C2
    generalize strOf (macL k l) = Y at C1 C2
    generalize strOf (keyL k) = Z at C2 C3 hz64
    generalize strOf k = key at *
    generalize strOf l = s at *
    have c1 := Lib.hid C1
    have c2 := Lib.hid C2
    have c3 := Lib.hid C3
    have t3 : ((Z.size : Int) != 64) = false := by rw [hz64]; rfl
    clear C1 C2 C3 hkl hl h1 h2 h3
    go_enter Tryd.func7, Tryd.ntmps7
    go_wp2_with fail
    refine (c3.out w K0.out).mono ?_
    rintro e w1 ⟨rfl, hb⟩
    have B1 := Lib.hid hb
    clear hb
    go_wp2_with fail
    have hS0 : SK w w1.drew := ⟨K0.out.later (B1.out.drew), B1.out.drew⟩
    have hS1 : SK w w1 := ⟨K0.out.later B1.out, B1.out⟩
    go_region_held3 (fun W => SK w W) (first | assumption | exact SK.later (by assumption) (by assumption)) (first
      | ((go_at_call 15; (with_reducible refine (c1.out _ (SK.k (by assumption))).mono ?_); rintro e W2 ⟨rfl, hb⟩))
      | ((go_at_call 15; (with_reducible refine (c2.out _ (SK.k (by assumption))).mono ?_); rintro e W2 ⟨rfl, hb⟩))
      | ((go_at_call 14; (with_reducible refine (known3 _ (SK.k (by assumption))).mono ?_); rintro e W2 ⟨rfl, hb⟩)))
    clear hS0 hS1
    have HF : Hid (∃ S : World, SK w S) := Lib.hid ⟨_, ‹SK w _›⟩
    go_wp2
    go_ret
    exact ⟨rfl, (‹SK w _› : SK w _).2⟩
  · have t3 : decide (64 < (strOf k).size) = false := decide_eq_false (by rw [strOf_size]; exact h3)
    have C1 := fun (W : World) (h : HasK W) => macOf_s k l W h (by omega) (by omega)
    have C3 := fun (W : World) (h : HasK W) => key_s k W h (by omega)
    have e2 : ∀ j, strOf (k ++ List.replicate j 0) = kz (strOf k) j := fun j => by unfold kz; rw [strOf_toList]; rfl
    have C2 : ∀ j, (strOf k).size + j ≤ 64 → ∀ (W : World), HasK W → _ := fun j hj W h => macOf_s (k ++ List.replicate j 0) l W h (by rw [List.length_append, List.length_replicate]; rw [strOf_size] at hj; omega) (by omega)
    have C4 : ∀ j, (strOf k).size + j ≤ 64 → ∀ (W : World), HasK W → _ := fun j hj W h => key_s (k ++ List.replicate j 0) W h (by rw [List.length_append, List.length_replicate]; rw [strOf_size] at hj; omega)
    have C2' : ∀ j, (strOf k).size + j ≤ 64 → ∀ (W : World), HasK W → Calls Tryd.prog 15 #[.string (kz (strOf k) j), .string (strOf l)] W fun e w' => e = .returned (.string (strOf (macL k l))) ∧ Below W.heap.size W w' := fun j hj W h => by
      have := C2 j hj W h
      rwa [e2, macL_key (keyL_padded k j (by rw [strOf_size] at hj; exact hj))] at this
    have C4' : ∀ j, (strOf k).size + j ≤ 64 → ∀ (W : World), HasK W → Calls Tryd.prog 17 #[.string (kz (strOf k) j)] W fun e w' => e = .returned (.string (strOf (keyL k))) ∧ Below W.heap.size W w' := fun j hj W h => by
      have := C4 j hj W h
      rwa [e2, keyL_padded k j (by rw [strOf_size] at hj; exact hj)] at this
    clear C2 C4 e2
    have hz64 : (strOf (keyL k)).size = 64 := by rw [strOf_size, keyL_length]
    have hks : (strOf k).size ≤ 64 := by rw [strOf_size]; omega
    generalize strOf (macL k l) = Y at C1 C2'
    generalize strOf (keyL k) = Z at C3 C4' hz64
    generalize strOf k = X at *
    generalize strOf l = s at *
    have c1 := Lib.hid C1
    have c2 := Lib.hid C2'
    have c3 := Lib.hid C3
    have c4 := Lib.hid C4'
    have t4 : ((Z.size : Int) != 64) = false := by rw [hz64]; rfl
    have t5 : ((Z.size : Int) == 64) = true := by rw [hz64]; rfl
    clear C1 C2' C3 C4' hkl hl h1 h2 h3 hz64
    go_enter Tryd.func7, Tryd.ntmps7
    go_wp2_with fail
    refine (c3.out w K0.out).mono ?_
    rintro e w1 ⟨rfl, hb⟩
    have B1 := Lib.hid hb
    clear hb
    go_wp2_with fail
    go_loop [8, 9] (fun vl vi => ∃ j : Nat, X.size + j ≤ 64 ∧ vl = .string (kz X j) ∧ vi = .int .i64 j) (fun _ vi => more.toNat - (intOf vi).toNat)
    case atStart => exact ⟨0, by omega, by rw [kz_zero], rfl⟩
    case round =>
      obtain ⟨j, hj, rfl, rfl⟩ := hrel
      have hsz := kz_size X j
      have had := fun W => kz_add X j (by omega) W
      have had2 := kz_app X j
      have C2 := c2.out j hj
      have C4 := c4.out j hj
      have d2 := Lib.hid C2
      have d4 := Lib.hid C4
      clear C2 C4
      by_cases hlt : (j : Int) < more
      · by_cases h64 : X.size + j < 64
        · have t6 : ((kz X j).size : Int) < 64 := by omega
          clear hsz
          go_wp2
          go_round
          case rel => exact ⟨j + 1, by omega, rfl, by go_num⟩
          case measure => simp [intOf]; omega
        · have t6 : decide (((kz X j).size : Int) < 64) = false := decide_eq_false (by omega)
          generalize kz X j = V at *
          clear hsz had had2
          go_wp2_with fail
          refine (c1.out w1 (K0.out.later B1.out)).mono ?_
          rintro e w2 ⟨rfl, hb⟩
          have B2 := Lib.hid (chain2 B1.out hb)
          clear hb
          go_wp2_with fail
          refine (d2.out w2 (K0.out.later B2.out)).mono ?_
          rintro e w3 ⟨rfl, hb⟩
          have B3 := Lib.hid (chain2 B2.out hb)
          clear hb
          go_wp2_with fail
          refine (d4.out w3 (K0.out.later B3.out)).mono ?_
          rintro e w4 ⟨rfl, hb⟩
          have B4 := Lib.hid (chain2 B3.out hb)
          clear hb
          go_wp2_with fail
          refine (c3.out w4 (K0.out.later B4.out)).mono ?_
          rintro e w5 ⟨rfl, hb⟩
          have B5 := Lib.hid (chain2 B4.out hb)
          clear hb
          go_wp2_with fail
          refine (c3.out w5 (K0.out.later B5.out)).mono ?_
          rintro e w6 ⟨rfl, hb⟩
          have B6 := Lib.hid (chain2 B5.out hb)
          clear hb
          go_wp2_with fail
          refine (known3 w6 (K0.out.later B6.out)).mono ?_
          rintro e w7 ⟨rfl, hb⟩
          have B7 := Lib.hid (chain2 B6.out hb)
          clear hb
          go_wp2
          go_ret
          exact ⟨rfl, B7.out⟩
      · have t6 : decide ((j : Int) < more) = false := decide_eq_false hlt
        generalize kz X j = V at *
        clear hsz had had2
        go_wp2_with fail
        refine (c1.out w1 (K0.out.later B1.out)).mono ?_
        rintro e w2 ⟨rfl, hb⟩
        have B2 := Lib.hid (chain2 B1.out hb)
        clear hb
        go_wp2_with fail
        refine (d2.out w2 (K0.out.later B2.out)).mono ?_
        rintro e w3 ⟨rfl, hb⟩
        have B3 := Lib.hid (chain2 B2.out hb)
        clear hb
        go_wp2_with fail
        refine (d4.out w3 (K0.out.later B3.out)).mono ?_
        rintro e w4 ⟨rfl, hb⟩
        have B4 := Lib.hid (chain2 B3.out hb)
        clear hb
        go_wp2_with fail
        refine (c3.out w4 (K0.out.later B4.out)).mono ?_
        rintro e w5 ⟨rfl, hb⟩
        have B5 := Lib.hid (chain2 B4.out hb)
        clear hb
        go_wp2_with fail
        refine (c3.out w5 (K0.out.later B5.out)).mono ?_
        rintro e w6 ⟨rfl, hb⟩
        have B6 := Lib.hid (chain2 B5.out hb)
        clear hb
        go_wp2_with fail
        refine (known3 w6 (K0.out.later B6.out)).mono ?_
        rintro e w7 ⟨rfl, hb⟩
        have B7 := Lib.hid (chain2 B6.out hb)
        clear hb
        go_wp2
        go_ret
        exact ⟨rfl, B7.out⟩

end Go.Proofs.YtepipdikglabaaaDoor
