/- The walks of the document's Name and small: their contracts. The walk of the document's Shape, an op each, the first half: its contract. No condition but those that each states. -/
import Derived.Test.YtmloljfnnkfkjaaDoorMgAD
namespace Go.Proofs.YtmloljfnnkfkjaaDoor.In
open Go.RowKit Dk

theorem row_strings (w : World) (ks : List (List UInt8)) (t : TypeId) (j : Nat) (k : List UInt8) (h : ks[j]? = some k) : (w.alloc (.cells (ks.map fun l => Value.string (strOf l)).toArray t)).cell? ⟨w.heap.size, j, none⟩ = some (.string (strOf k)) := by
  rw [World.cell?_alloc_mark]
  simp [h]
theorem names_row (w : World) : w.alloc (.cells #[.string ⟨#[116, 105, 99, 107]⟩, .string ⟨#[110, 105, 108]⟩, .string ⟨#[99, 111, 110, 115, 116]⟩, .string ⟨#[109, 111, 118, 101]⟩, .string ⟨#[98, 111, 120]⟩, .string ⟨#[103, 101, 116]⟩, .string ⟨#[115, 101, 116]⟩, .string ⟨#[117, 112]⟩, .string ⟨#[117, 112, 115, 101, 116]⟩, .string ⟨#[97, 100, 100]⟩, .string ⟨#[115, 117, 98]⟩, .string ⟨#[109, 117, 108]⟩, .string ⟨#[100, 105, 118]⟩, .string ⟨#[114, 101, 109]⟩, .string ⟨#[99, 97, 116]⟩, .string ⟨#[101, 113]⟩, .string ⟨#[110, 101]⟩, .string ⟨#[108, 116]⟩, .string ⟨#[108, 101]⟩, .string ⟨#[110, 101, 103]⟩, .string ⟨#[110, 111, 116]⟩, .string ⟨#[108, 101, 110]⟩, .string ⟨#[116, 97, 98, 108, 101]⟩, .string ⟨#[105, 110, 100, 101, 120]⟩, .string ⟨#[115, 116, 111, 114, 101]⟩, .string ⟨#[106, 117, 109, 112]⟩, .string ⟨#[102, 97, 108, 115, 101]⟩, .string ⟨#[116, 114, 117, 101]⟩, .string ⟨#[102, 110]⟩, .string ⟨#[99, 97, 108, 108]⟩, .string ⟨#[111, 119, 110]⟩, .string ⟨#[117, 115, 101]⟩, .string ⟨#[115, 112, 97, 119, 110]⟩, .string ⟨#[115, 116, 97, 116, 101]⟩, .string ⟨#[112, 117, 116]⟩, .string ⟨#[101, 109, 105, 116]⟩, .string ⟨#[121, 105, 101, 108, 100]⟩, .string ⟨#[114, 101, 116, 117, 114, 110]⟩] 9) = w.alloc (.cells ((ops.map (·.1)).map fun l => Value.string (strOf l)).toArray 9) := by kernel_rfl

set_option maxHeartbeats 1000000 in
set_option maxRecDepth 100000 in
theorem rname_any (op : Int) (w : World) : Calls Tryd.prog 104 #[.int .i64 op] w fun e w' => e = .returned (.string (strOf (nameL op))) ∧ Below w.heap.size w w' := by
  obtain ⟨W1, hW1⟩ : ∃ W1, W1 = w.alloc (.cells ((ops.map (·.1)).map fun l => Value.string (strOf l)).toArray 9) := ⟨_, rfl⟩
  have hW2 := (names_row w).trans hW1.symm
  have HB : Hid (Below w.heap.size w W1) := Lib.hid (by rw [hW1]; exact (Below.refl _ _).alloc (Nat.le_refl _) _)
  have HC : Hid (∀ j k, (ops.map (·.1))[j]? = some k → W1.cell? ⟨w.heap.size, j, none⟩ = some (.string (strOf k))) := Lib.hid (fun j k h => by rw [hW1]; exact row_strings w (ops.map (·.1)) 9 j k h)
  clear hW1
  by_cases h0 : op < 0
  · have hn := name_none (op := op) (by omega)
    rw [hn]
    go_enter Tryd.func104, Tryd.ntmps104
    go_wp2
    go_ret
    exact ⟨rfl, HB.out⟩
  · by_cases h1 : op ≥ 38
    · have hn := name_none (op := op) (by omega)
      rw [hn]
      go_enter Tryd.func104, Tryd.ntmps104
      go_wp2
      go_ret
      exact ⟨rfl, HB.out⟩
    · obtain ⟨k, hk, rfl⟩ := op_cases (op := op) ⟨by omega, by omega⟩
      rw [name_at hk]
      have hc := HC.out k _ (show (ops.map (·.1))[k]? = some (ops.getD k ([], [])).1 by
        have hl : k < ops.length := by rw [rows_len]; exact hk
        rw [List.getElem?_map, List.getD_eq_getElem?_getD, List.getElem?_eq_getElem hl]; rfl)
      have z0 : (0 : Int) ≤ (k : Int) := by omega
      have z1 : (k : Int) < 38 := by omega
      generalize strOf (ops.getD k ([], [])).1 = q at *
      clear HC hk
      go_enter Tryd.func104, Tryd.ntmps104
      go_wp2
      go_ret
      exact ⟨rfl, HB.out⟩

theorem small_any (n : Int) (c : UInt8) (w : World) : Calls Tryd.prog 94 #[.int .i64 n, .int .u8 (c.toNat : Int)] w fun e w' => e = .returned (.bool (fine c n)) ∧ w = w' := by
  by_cases h0 : n < 0
  · have v0 : ¬n ≥ 0 := by omega
    rw [fine_lo h0]
    go_enter Tryd.func94, Tryd.ntmps94
    go_wp2
    go_ret
    exact ⟨rfl, rfl⟩
  · have v0 : n ≥ 0 := by omega
    by_cases h1 : n > 255
    · have v1 : ¬n ≤ 255 := by omega
      rw [fine_hi h1]
      go_enter Tryd.func94, Tryd.ntmps94
      go_wp2
      go_ret
      exact ⟨rfl, rfl⟩
    · have v1 : n ≤ 255 := by omega
      have ec : (c == 45) = ((c.toNat : Int) == 45) := by
        rw [Bool.eq_iff_iff, beq_iff_eq, beq_iff_eq, ← UInt8.toNat_inj]
        constructor
        · intro e; rw [e]; rfl
        · intro e; have : (45 : UInt8).toNat = 45 := rfl; omega
      by_cases h2 : n = 0
      · rw [fine_zero h2]
        have v2 : (n == 0) = true := by simpa using h2
        clear h2 h0 h1
        cases hc : ((c.toNat : Int) == 45) with
        | true =>
          have v3 : ((c.toNat : Int) != 45) = false := by simpa using hc
          clear ec hc
          generalize (c.toNat : Int) = x at *
          go_enter Tryd.func94, Tryd.ntmps94
          go_wp2
          go_ret
          exact ⟨rfl, rfl⟩
        | false =>
          have v3 : ((c.toNat : Int) != 45) = true := by simpa using hc
          clear ec hc
          generalize (c.toNat : Int) = x at *
          go_enter Tryd.func94, Tryd.ntmps94
          go_wp2
          go_ret
          exact ⟨rfl, rfl⟩
      · rw [fine_else h0 h1 h2, ec]
        have v2 : (n == 0) = false := by simpa using h2
        clear h2 h0 h1
        cases hc : ((c.toNat : Int) == 45) with
        | true =>
          have v3 : ((c.toNat : Int) != 45) = false := by simpa using hc
          clear ec hc
          generalize (c.toNat : Int) = x at *
          go_enter Tryd.func94, Tryd.ntmps94
          go_wp2
          go_ret
          exact ⟨rfl, rfl⟩
        | false =>
          have v3 : ((c.toNat : Int) != 45) = true := by simpa using hc
          clear ec hc
          generalize (c.toNat : Int) = x at *
          go_enter Tryd.func94, Tryd.ntmps94
          go_wp2
          go_ret
          exact ⟨rfl, rfl⟩

end Go.Proofs.YtmloljfnnkfkjaaDoor.In

namespace Go.Proofs.YtmloljfnnkfkjaaDoor.In
open Go.RowKit Dk

theorem rs_0 (w : World) : Calls Tryd.prog 93 #[.int .i64 0] w fun e w' => e = .returned (.string ⟨#[110, 45, 45]⟩) ∧ Below w.heap.size w w' := by
  have NM : Hid (Calls Tryd.prog 104 #[.int .i64 0] w fun e w' => e = .returned (.string ⟨#[116, 105, 99, 107]⟩) ∧ Below w.heap.size w w') := Lib.hid (rname_any 0 w)
  go_enter Tryd.func93, Tryd.ntmps93
  go_wp2_with (go_at_call 104; refine NM.out.mono ?_; rintro e w1 ⟨rfl, hb⟩)
  go_ret
  exact ⟨rfl, hb⟩

theorem rs_1 (w : World) : Calls Tryd.prog 93 #[.int .i64 1] w fun e w' => e = .returned (.string ⟨#[114, 45, 45]⟩) ∧ Below w.heap.size w w' := by
  have NM : Hid (Calls Tryd.prog 104 #[.int .i64 1] w fun e w' => e = .returned (.string ⟨#[110, 105, 108]⟩) ∧ Below w.heap.size w w') := Lib.hid (rname_any 1 w)
  go_enter Tryd.func93, Tryd.ntmps93
  go_wp2_with (go_at_call 104; refine NM.out.mono ?_; rintro e w1 ⟨rfl, hb⟩)
  go_ret
  exact ⟨rfl, hb⟩

theorem rs_2 (w : World) : Calls Tryd.prog 93 #[.int .i64 2] w fun e w' => e = .returned (.string ⟨#[114, 119]⟩) ∧ Below w.heap.size w w' := by
  have NM : Hid (Calls Tryd.prog 104 #[.int .i64 2] w fun e w' => e = .returned (.string ⟨#[99, 111, 110, 115, 116]⟩) ∧ Below w.heap.size w w') := Lib.hid (rname_any 2 w)
  go_enter Tryd.func93, Tryd.ntmps93
  go_wp2_with (go_at_call 104; refine NM.out.mono ?_; rintro e w1 ⟨rfl, hb⟩)
  go_ret
  exact ⟨rfl, hb⟩

theorem rs_3 (w : World) : Calls Tryd.prog 93 #[.int .i64 3] w fun e w' => e = .returned (.string ⟨#[114, 114, 45]⟩) ∧ Below w.heap.size w w' := by
  have NM : Hid (Calls Tryd.prog 104 #[.int .i64 3] w fun e w' => e = .returned (.string ⟨#[109, 111, 118, 101]⟩) ∧ Below w.heap.size w w') := Lib.hid (rname_any 3 w)
  go_enter Tryd.func93, Tryd.ntmps93
  go_wp2_with (go_at_call 104; refine NM.out.mono ?_; rintro e w1 ⟨rfl, hb⟩)
  go_ret
  exact ⟨rfl, hb⟩

theorem rs_4 (w : World) : Calls Tryd.prog 93 #[.int .i64 4] w fun e w' => e = .returned (.string ⟨#[114, 45, 45]⟩) ∧ Below w.heap.size w w' := by
  have NM : Hid (Calls Tryd.prog 104 #[.int .i64 4] w fun e w' => e = .returned (.string ⟨#[98, 111, 120]⟩) ∧ Below w.heap.size w w') := Lib.hid (rname_any 4 w)
  go_enter Tryd.func93, Tryd.ntmps93
  go_wp2_with (go_at_call 104; refine NM.out.mono ?_; rintro e w1 ⟨rfl, hb⟩)
  go_ret
  exact ⟨rfl, hb⟩

theorem rs_5 (w : World) : Calls Tryd.prog 93 #[.int .i64 5] w fun e w' => e = .returned (.string ⟨#[114, 114, 45]⟩) ∧ Below w.heap.size w w' := by
  have NM : Hid (Calls Tryd.prog 104 #[.int .i64 5] w fun e w' => e = .returned (.string ⟨#[103, 101, 116]⟩) ∧ Below w.heap.size w w') := Lib.hid (rname_any 5 w)
  go_enter Tryd.func93, Tryd.ntmps93
  go_wp2_with (go_at_call 104; refine NM.out.mono ?_; rintro e w1 ⟨rfl, hb⟩)
  go_ret
  exact ⟨rfl, hb⟩

theorem rs_6 (w : World) : Calls Tryd.prog 93 #[.int .i64 6] w fun e w' => e = .returned (.string ⟨#[114, 114, 45]⟩) ∧ Below w.heap.size w w' := by
  have NM : Hid (Calls Tryd.prog 104 #[.int .i64 6] w fun e w' => e = .returned (.string ⟨#[115, 101, 116]⟩) ∧ Below w.heap.size w w') := Lib.hid (rname_any 6 w)
  go_enter Tryd.func93, Tryd.ntmps93
  go_wp2_with (go_at_call 104; refine NM.out.mono ?_; rintro e w1 ⟨rfl, hb⟩)
  go_ret
  exact ⟨rfl, hb⟩

theorem rs_7 (w : World) : Calls Tryd.prog 93 #[.int .i64 7] w fun e w' => e = .returned (.string ⟨#[114, 117, 45]⟩) ∧ Below w.heap.size w w' := by
  have NM : Hid (Calls Tryd.prog 104 #[.int .i64 7] w fun e w' => e = .returned (.string ⟨#[117, 112]⟩) ∧ Below w.heap.size w w') := Lib.hid (rname_any 7 w)
  go_enter Tryd.func93, Tryd.ntmps93
  go_wp2_with (go_at_call 104; refine NM.out.mono ?_; rintro e w1 ⟨rfl, hb⟩)
  go_ret
  exact ⟨rfl, hb⟩

theorem rs_8 (w : World) : Calls Tryd.prog 93 #[.int .i64 8] w fun e w' => e = .returned (.string ⟨#[117, 114, 45]⟩) ∧ Below w.heap.size w w' := by
  have NM : Hid (Calls Tryd.prog 104 #[.int .i64 8] w fun e w' => e = .returned (.string ⟨#[117, 112, 115, 101, 116]⟩) ∧ Below w.heap.size w w') := Lib.hid (rname_any 8 w)
  go_enter Tryd.func93, Tryd.ntmps93
  go_wp2_with (go_at_call 104; refine NM.out.mono ?_; rintro e w1 ⟨rfl, hb⟩)
  go_ret
  exact ⟨rfl, hb⟩

theorem rs_9 (w : World) : Calls Tryd.prog 93 #[.int .i64 9] w fun e w' => e = .returned (.string ⟨#[114, 114, 114]⟩) ∧ Below w.heap.size w w' := by
  have NM : Hid (Calls Tryd.prog 104 #[.int .i64 9] w fun e w' => e = .returned (.string ⟨#[97, 100, 100]⟩) ∧ Below w.heap.size w w') := Lib.hid (rname_any 9 w)
  go_enter Tryd.func93, Tryd.ntmps93
  go_wp2_with (go_at_call 104; refine NM.out.mono ?_; rintro e w1 ⟨rfl, hb⟩)
  go_ret
  exact ⟨rfl, hb⟩

theorem rs_10 (w : World) : Calls Tryd.prog 93 #[.int .i64 10] w fun e w' => e = .returned (.string ⟨#[114, 114, 114]⟩) ∧ Below w.heap.size w w' := by
  have NM : Hid (Calls Tryd.prog 104 #[.int .i64 10] w fun e w' => e = .returned (.string ⟨#[115, 117, 98]⟩) ∧ Below w.heap.size w w') := Lib.hid (rname_any 10 w)
  go_enter Tryd.func93, Tryd.ntmps93
  go_wp2_with (go_at_call 104; refine NM.out.mono ?_; rintro e w1 ⟨rfl, hb⟩)
  go_ret
  exact ⟨rfl, hb⟩

theorem rs_11 (w : World) : Calls Tryd.prog 93 #[.int .i64 11] w fun e w' => e = .returned (.string ⟨#[114, 114, 114]⟩) ∧ Below w.heap.size w w' := by
  have NM : Hid (Calls Tryd.prog 104 #[.int .i64 11] w fun e w' => e = .returned (.string ⟨#[109, 117, 108]⟩) ∧ Below w.heap.size w w') := Lib.hid (rname_any 11 w)
  go_enter Tryd.func93, Tryd.ntmps93
  go_wp2_with (go_at_call 104; refine NM.out.mono ?_; rintro e w1 ⟨rfl, hb⟩)
  go_ret
  exact ⟨rfl, hb⟩

theorem rs_12 (w : World) : Calls Tryd.prog 93 #[.int .i64 12] w fun e w' => e = .returned (.string ⟨#[114, 114, 114]⟩) ∧ Below w.heap.size w w' := by
  have NM : Hid (Calls Tryd.prog 104 #[.int .i64 12] w fun e w' => e = .returned (.string ⟨#[100, 105, 118]⟩) ∧ Below w.heap.size w w') := Lib.hid (rname_any 12 w)
  go_enter Tryd.func93, Tryd.ntmps93
  go_wp2_with (go_at_call 104; refine NM.out.mono ?_; rintro e w1 ⟨rfl, hb⟩)
  go_ret
  exact ⟨rfl, hb⟩

theorem rs_13 (w : World) : Calls Tryd.prog 93 #[.int .i64 13] w fun e w' => e = .returned (.string ⟨#[114, 114, 114]⟩) ∧ Below w.heap.size w w' := by
  have NM : Hid (Calls Tryd.prog 104 #[.int .i64 13] w fun e w' => e = .returned (.string ⟨#[114, 101, 109]⟩) ∧ Below w.heap.size w w') := Lib.hid (rname_any 13 w)
  go_enter Tryd.func93, Tryd.ntmps93
  go_wp2_with (go_at_call 104; refine NM.out.mono ?_; rintro e w1 ⟨rfl, hb⟩)
  go_ret
  exact ⟨rfl, hb⟩

theorem rs_14 (w : World) : Calls Tryd.prog 93 #[.int .i64 14] w fun e w' => e = .returned (.string ⟨#[114, 114, 114]⟩) ∧ Below w.heap.size w w' := by
  have NM : Hid (Calls Tryd.prog 104 #[.int .i64 14] w fun e w' => e = .returned (.string ⟨#[99, 97, 116]⟩) ∧ Below w.heap.size w w') := Lib.hid (rname_any 14 w)
  go_enter Tryd.func93, Tryd.ntmps93
  go_wp2_with (go_at_call 104; refine NM.out.mono ?_; rintro e w1 ⟨rfl, hb⟩)
  go_ret
  exact ⟨rfl, hb⟩

theorem rs_15 (w : World) : Calls Tryd.prog 93 #[.int .i64 15] w fun e w' => e = .returned (.string ⟨#[114, 114, 114]⟩) ∧ Below w.heap.size w w' := by
  have NM : Hid (Calls Tryd.prog 104 #[.int .i64 15] w fun e w' => e = .returned (.string ⟨#[101, 113]⟩) ∧ Below w.heap.size w w') := Lib.hid (rname_any 15 w)
  go_enter Tryd.func93, Tryd.ntmps93
  go_wp2_with (go_at_call 104; refine NM.out.mono ?_; rintro e w1 ⟨rfl, hb⟩)
  go_ret
  exact ⟨rfl, hb⟩

theorem rs_16 (w : World) : Calls Tryd.prog 93 #[.int .i64 16] w fun e w' => e = .returned (.string ⟨#[114, 114, 114]⟩) ∧ Below w.heap.size w w' := by
  have NM : Hid (Calls Tryd.prog 104 #[.int .i64 16] w fun e w' => e = .returned (.string ⟨#[110, 101]⟩) ∧ Below w.heap.size w w') := Lib.hid (rname_any 16 w)
  go_enter Tryd.func93, Tryd.ntmps93
  go_wp2_with (go_at_call 104; refine NM.out.mono ?_; rintro e w1 ⟨rfl, hb⟩)
  go_ret
  exact ⟨rfl, hb⟩

theorem rs_17 (w : World) : Calls Tryd.prog 93 #[.int .i64 17] w fun e w' => e = .returned (.string ⟨#[114, 114, 114]⟩) ∧ Below w.heap.size w w' := by
  have NM : Hid (Calls Tryd.prog 104 #[.int .i64 17] w fun e w' => e = .returned (.string ⟨#[108, 116]⟩) ∧ Below w.heap.size w w') := Lib.hid (rname_any 17 w)
  go_enter Tryd.func93, Tryd.ntmps93
  go_wp2_with (go_at_call 104; refine NM.out.mono ?_; rintro e w1 ⟨rfl, hb⟩)
  go_ret
  exact ⟨rfl, hb⟩

theorem rs_18 (w : World) : Calls Tryd.prog 93 #[.int .i64 18] w fun e w' => e = .returned (.string ⟨#[114, 114, 114]⟩) ∧ Below w.heap.size w w' := by
  have NM : Hid (Calls Tryd.prog 104 #[.int .i64 18] w fun e w' => e = .returned (.string ⟨#[108, 101]⟩) ∧ Below w.heap.size w w') := Lib.hid (rname_any 18 w)
  go_enter Tryd.func93, Tryd.ntmps93
  go_wp2_with (go_at_call 104; refine NM.out.mono ?_; rintro e w1 ⟨rfl, hb⟩)
  go_ret
  exact ⟨rfl, hb⟩

end Go.Proofs.YtmloljfnnkfkjaaDoor.In

