/- The walks of inst.Right, Wide, Build: their contracts. No condition but those that each states. -/
import Derived.Test.YtmloljfnnkfkjaaDoorMgAC
import Derived.Lib.SmallJoins
import Derived.IntWalk
import Derived.LoopTactic
import Derived.Deep.Cut
import Derived.Deep.CutRange
import Derived.Deep.DeepCutAuto
import Derived.Deep.CutBlock
import Derived.Deep.RegionHeld3
import Derived.Deep.AppendLies
import Derived.Deep.RegionLaw
namespace Go.Proofs.YtmloljfnnkfkjaaDoor.In
open Go.RowKit Dk

theorem strOf_tl (l : List UInt8) : (strOf l).toList = l := ByteArray.toList_mk l

/-! an instruction in a block of its own -/
structure IB (W : World) (b : Nat) (x : Ix) : Prop where
  cells : W.rangeAt b 0 x.cells
  room : W.there b 0 4
  lt : b < W.heap.size
theorem ib_new (w : World) (x : Ix) (t : TypeId) : IB (w.alloc (.cells x.cells.toArray t)) w.heap.size x := ⟨range_new w x.cells t, there_new w x.cells.toArray t, by simp⟩
theorem i_info (x : Ix) : (Tryd.prog.info? 89).map (·.size) = some x.cells.length := by kernel_rfl
theorem i_infoA (x : Ix) : (Tryd.prog.info? 89).map (·.size) = some x.cells.toArray.size := i_info x
theorem i_ones (x : Ix) : ∀ u ∈ x.cells, u.oneCell' = true := by
  intro u hu
  simp [Ix.cells] at hu
  rcases hu with rfl | rfl | rfl | rfl <;> rfl
theorem i_all (x : Ix) : x.cells.toArray.all (·.oneCell') = true := all_oneCell_toArray (i_ones x)
theorem IB.later {W W' : World} {b : Nat} {x : Ix} (h : IB W b x) (k : Below W.heap.size W W') : IB W' b x :=
  ⟨rangeAt_block h.cells (k.block b h.lt), there_block h.room (k.block b h.lt), Nat.lt_of_lt_of_le h.lt k.size⟩
theorem IB.at {W : World} {b : Nat} {x : Ix} (h : IB W b x) : W.cell? ⟨b, 0, none⟩ = some (.int .i64 x.op) ∧ W.cell? ⟨b, 1, none⟩ = some (.int .i64 x.a) ∧ W.cell? ⟨b, 2, none⟩ = some (.int .i64 x.b) ∧ W.cell? ⟨b, 3, none⟩ = some (.int .i64 x.c) := by
  have k : ∀ i u, x.cells[i]? = some u → W.cell? ⟨b, i, none⟩ = some u := fun i u hu => by have := h.cells i u hu; rwa [Nat.zero_add] at this
  exact ⟨k 0 _ rfl, k 1 _ rfl, k 2 _ rfl, k 3 _ rfl⟩

def nth (x : Ix) (i : Nat) : Int := [x.a, x.b, x.c].getD i 0
theorem right_no {x : Ix} (i : Nat) (hi : i < 3) (h : fine (letter (shapeL x.op) i) (nth x i) = false) : rightB x = false := by
  unfold rightB
  rcases (show i = 0 ∨ i = 1 ∨ i = 2 by omega) with rfl | rfl | rfl
  · have h' : fine (letter (shapeL x.op) 0) x.a = false := h
    simp [h']
  · have h' : fine (letter (shapeL x.op) 1) x.b = false := h
    simp [h']
  · have h' : fine (letter (shapeL x.op) 2) x.c = false := h
    simp [h']
theorem right_yes {x : Ix} (hs : shapeL x.op ≠ []) (h : ∀ j, j < 3 → fine (letter (shapeL x.op) j) (nth x j) = true) : rightB x = true := by
  unfold rightB
  have h0 : fine (letter (shapeL x.op) 0) x.a = true := h 0 (by decide)
  have h1 : fine (letter (shapeL x.op) 1) x.b = true := h 1 (by decide)
  have h2 : fine (letter (shapeL x.op) 2) x.c = true := h 2 (by decide)
  rw [h0, h1, h2]
  simpa using hs
theorem fine_lo {c : UInt8} {n : Int} (h : n < 0) : fine c n = false := by unfold fine; simp; omega
theorem fine_hi {c : UInt8} {n : Int} (h : n > 255) : fine c n = false := by unfold fine; simp; omega
theorem fine_zero {c : UInt8} {n : Int} (h : n = 0) : fine c n = true := by unfold fine; simp [h]
theorem fine_else {c : UInt8} {n : Int} (h0 : ¬n < 0) (h1 : ¬n > 255) (h : n ≠ 0) : fine c n = !(c == 45) := by
  unfold fine
  have e0 : decide (0 ≤ n) = true := decide_eq_true (by omega)
  have e1 : decide (n ≤ 255) = true := decide_eq_true (by omega)
  have e2 : decide (n = 0) = false := decide_eq_false h
  rw [e0, e1, e2]; rfl

set_option maxHeartbeats 1000000 in
set_option maxRecDepth 100000 in
theorem right_any (x : Ix) (w : World) (HF : HasF w) : Calls Tryd.prog 62 #[.agg x.cells.toArray] w fun e w' => e = .returned (.bool (rightB x)) ∧ Below w.heap.size w w' := by
  obtain ⟨W1, hW1⟩ : ∃ W1, W1 = w.alloc (.cells x.cells.toArray 89) := ⟨_, rfl⟩
  have HB1 : Hid (Below w.heap.size w W1) := Lib.hid (by rw [hW1]; exact (Below.refl _ _).alloc (Nat.le_refl _) _)
  have HX : IB W1 w.heap.size x := by rw [hW1]; exact ib_new w x _
  have SH := Lib.hid (shape_any x.op W1 (HF.later HB1.out))
  obtain ⟨c0, c1, c2, c3⟩ := HX.at
  have RN := Lib.hid (fun i hi h => right_no (x := x) i hi h)
  have RY := Lib.hid (fun hs h => right_yes (x := x) hs h)
  have UN := Lib.hid (fun i => unused_any (shapeL x.op) i W1 (shape_size x.op))
  have HE : Hid (shapeL x.op = [] → rightB x = false) := Lib.hid (fun h => by unfold rightB; rw [h]; rfl)
  have htl := strOf_tl (shapeL x.op)
  obtain ⟨op, a, b, c⟩ := x
  have hW2 : w.alloc (.cells #[.int .i64 op, .int .i64 a, .int .i64 b, .int .i64 c] 89) = W1 := hW1.symm
  show Calls _ _ #[.agg #[.int .i64 op, .int .i64 a, .int .i64 b, .int .i64 c]] w _
  generalize hr : rightB ⟨op, a, b, c⟩ = R at *
  have SH' : Hid (Calls Tryd.prog 89 #[.int .i64 op] W1 fun e w' => e = .returned (.string (strOf (shapeL op))) ∧ W1 = w') := Lib.hid SH.out
  replace c0 : W1.cell? ⟨w.heap.size, 0, none⟩ = some (.int .i64 op) := c0
  replace c1 : W1.cell? ⟨w.heap.size, 1, none⟩ = some (.int .i64 a) := c1
  replace c2 : W1.cell? ⟨w.heap.size, 2, none⟩ = some (.int .i64 b) := c2
  replace c3 : W1.cell? ⟨w.heap.size, 3, none⟩ = some (.int .i64 c) := c3
  replace UN : Hid (∀ i : Nat, Calls Tryd.prog 90 #[.string (strOf (shapeL op)), .int .i64 (i : Int)] W1 fun e w' => e = .returned (.bool (letter (shapeL op) i == 45)) ∧ W1 = w') := Lib.hid UN.out
  replace HE : Hid (shapeL op = [] → R = false) := Lib.hid HE.out
  replace RN : Hid (∀ i, i < 3 → fine (letter (shapeL op) i) ([a, b, c].getD i 0) = false → R = false) := Lib.hid (fun i hi h => RN.out i hi h)
  replace RY : Hid (shapeL op ≠ [] → (∀ j, j < 3 → fine (letter (shapeL op) j) ([a, b, c].getD j 0) = true) → R = true) := Lib.hid (fun hs h => RY.out hs h)
  replace htl : (strOf (shapeL op)).toList = shapeL op := htl
  generalize hsh : shapeL op = sh at *
  clear HF hW1 HX SH hr hsh
  by_cases hs : sh = []
  · have v0 : ((strOf sh).toList == []) = true := by rw [htl, hs]; rfl
    have hR := HE.out hs
    subst hR
    clear htl hs RN RY UN HE
    generalize strOf sh = q at *
    go_enter Tryd.func62, Tryd.ntmps62
    go_upto_region 1 with fail
    go_wp2_with (go_at_call 89; refine SH'.out.mono ?_; rintro e w2 ⟨rfl, rfl⟩)
    go_ret
    exact ⟨rfl, HB1.out⟩
  · have v0 : ((strOf sh).toList == []) = false := by rw [htl]; simpa using hs
    have HS := Lib.hid hs
    clear htl hs HE
    generalize strOf sh = q at *
    go_enter Tryd.func62, Tryd.ntmps62
    go_upto_region 1 with fail
    go_wp2_with (go_at_call 89; refine SH'.out.mono ?_; rintro e w2 ⟨rfl, rfl⟩)
    go_loopw [18] (fun vi wr => ∃ i : Nat, i ≤ 3 ∧ vi = .int .i64 (i : Int) ∧ Hid (∀ j, j < i → fine (letter sh j) ([a, b, c].getD j 0) = true) ∧ wr = W1) (fun vi _ => 3 - (intOf vi).toNat)
    case atStart => exact ⟨0, by decide, rfl, Lib.hid (fun j hj => absurd hj (Nat.not_lt_zero _)), rfl⟩
    case round =>
      obtain ⟨i, hi, rfl, HA, rfl⟩ := hrel
      by_cases hlt : i < 3
      · rcases (show i = 0 ∨ i = 1 ∨ i = 2 by omega) with rfl | rfl | rfl
        · have U := UN.out 0
          have ix : ∀ W : World, (Instr.index 117 (.agg #[.int .i64 a, .int .i64 b, .int .i64 c]) (.int .i64 0)).run Tryd.prog W = .ok (.int .i64 a) W := fun _ => by kernel_rfl
          have N1 := Lib.hid (RN.out 0 (by decide))
          have HA2 : Hid (fine (letter sh 0) a = true → ∀ j, j < 0 + 1 → fine (letter sh j) ([a, b, c].getD j 0) = true) := Lib.hid (fun h j hj => by
            rcases Nat.lt_succ_iff_lt_or_eq.1 hj with h1 | rfl
            · exact HA.out j h1
            · exact h)
          clear RN RY UN HA hlt
          by_cases h0 : a < 0
          · have hR := N1.out (fine_lo h0)
            subst hR
            go_wp2
            go_ret
            exact ⟨rfl, HB1.out⟩
          · by_cases h1 : a > 255
            · have hR := N1.out (fine_hi h1)
              subst hR
              go_wp2
              go_ret
              exact ⟨rfl, HB1.out⟩
            · by_cases h2 : a = 0
              · have HA3 := Lib.hid (HA2.out (fine_zero h2))
                have v2 : (a != 0) = false := by simpa using h2
                clear h2 N1 HA2
                go_wp2
                go_roundw
                case rel => exact ⟨0 + 1, by decide, by go_num, HA3, by first | rfl | trivial⟩
                case measure => simp [intOf]
              · have v2 : (a != 0) = true := by simpa using h2
                have HU : Hid (Calls Tryd.prog 90 #[.string q, .int .i64 0] wr fun e w' => e = .returned (.bool (letter sh 0 == 45)) ∧ wr = w') := Lib.hid U
                have hf := fine_else (c := letter sh 0) h0 h1 h2
                cases hL : (letter sh 0 == 45) with
                | true =>
                  rw [hL] at HU hf
                  have hR := N1.out hf
                  subst hR
                  clear hf h2 N1 HA2 U
                  go_wp2_with (go_at_call 90; refine HU.out.mono ?_; rintro e w2 ⟨rfl, rfl⟩)
                  go_ret
                  exact ⟨rfl, HB1.out⟩
                | false =>
                  rw [hL] at HU hf
                  have HA3 := Lib.hid (HA2.out hf)
                  clear hf h2 N1 HA2 U
                  go_wp2_with (go_at_call 90; refine HU.out.mono ?_; rintro e w2 ⟨rfl, rfl⟩)
                  go_roundw
                  case rel => exact ⟨0 + 1, by decide, by go_num, HA3, by first | rfl | trivial⟩
                  case measure => simp [intOf]
        · have U := UN.out 1
          have ix : ∀ W : World, (Instr.index 117 (.agg #[.int .i64 a, .int .i64 b, .int .i64 c]) (.int .i64 1)).run Tryd.prog W = .ok (.int .i64 b) W := fun _ => by kernel_rfl
          have N1 := Lib.hid (RN.out 1 (by decide))
          have HA2 : Hid (fine (letter sh 1) b = true → ∀ j, j < 1 + 1 → fine (letter sh j) ([a, b, c].getD j 0) = true) := Lib.hid (fun h j hj => by
            rcases Nat.lt_succ_iff_lt_or_eq.1 hj with h1 | rfl
            · exact HA.out j h1
            · exact h)
          clear RN RY UN HA hlt
          by_cases h0 : b < 0
          · have hR := N1.out (fine_lo h0)
            subst hR
            go_wp2
            go_ret
            exact ⟨rfl, HB1.out⟩
          · by_cases h1 : b > 255
            · have hR := N1.out (fine_hi h1)
              subst hR
              go_wp2
              go_ret
              exact ⟨rfl, HB1.out⟩
            · by_cases h2 : b = 0
              · have HA3 := Lib.hid (HA2.out (fine_zero h2))
                have v2 : (b != 0) = false := by simpa using h2
                clear h2 N1 HA2
                go_wp2
                go_roundw
                case rel => exact ⟨1 + 1, by decide, by go_num, HA3, by first | rfl | trivial⟩
                case measure => simp [intOf]
              · have v2 : (b != 0) = true := by simpa using h2
                have HU : Hid (Calls Tryd.prog 90 #[.string q, .int .i64 1] wr fun e w' => e = .returned (.bool (letter sh 1 == 45)) ∧ wr = w') := Lib.hid U
                have hf := fine_else (c := letter sh 1) h0 h1 h2
                cases hL : (letter sh 1 == 45) with
                | true =>
                  rw [hL] at HU hf
                  have hR := N1.out hf
                  subst hR
                  clear hf h2 N1 HA2 U
                  go_wp2_with (go_at_call 90; refine HU.out.mono ?_; rintro e w2 ⟨rfl, rfl⟩)
                  go_ret
                  exact ⟨rfl, HB1.out⟩
                | false =>
                  rw [hL] at HU hf
                  have HA3 := Lib.hid (HA2.out hf)
                  clear hf h2 N1 HA2 U
                  go_wp2_with (go_at_call 90; refine HU.out.mono ?_; rintro e w2 ⟨rfl, rfl⟩)
                  go_roundw
                  case rel => exact ⟨1 + 1, by decide, by go_num, HA3, by first | rfl | trivial⟩
                  case measure => simp [intOf]
        · have U := UN.out 2
          have ix : ∀ W : World, (Instr.index 117 (.agg #[.int .i64 a, .int .i64 b, .int .i64 c]) (.int .i64 2)).run Tryd.prog W = .ok (.int .i64 c) W := fun _ => by kernel_rfl
          have N1 := Lib.hid (RN.out 2 (by decide))
          have HA2 : Hid (fine (letter sh 2) c = true → ∀ j, j < 2 + 1 → fine (letter sh j) ([a, b, c].getD j 0) = true) := Lib.hid (fun h j hj => by
            rcases Nat.lt_succ_iff_lt_or_eq.1 hj with h1 | rfl
            · exact HA.out j h1
            · exact h)
          clear RN RY UN HA hlt
          by_cases h0 : c < 0
          · have hR := N1.out (fine_lo h0)
            subst hR
            go_wp2
            go_ret
            exact ⟨rfl, HB1.out⟩
          · by_cases h1 : c > 255
            · have hR := N1.out (fine_hi h1)
              subst hR
              go_wp2
              go_ret
              exact ⟨rfl, HB1.out⟩
            · by_cases h2 : c = 0
              · have HA3 := Lib.hid (HA2.out (fine_zero h2))
                have v2 : (c != 0) = false := by simpa using h2
                clear h2 N1 HA2
                go_wp2
                go_roundw
                case rel => exact ⟨2 + 1, by decide, by go_num, HA3, by first | rfl | trivial⟩
                case measure => simp [intOf]
              · have v2 : (c != 0) = true := by simpa using h2
                have HU : Hid (Calls Tryd.prog 90 #[.string q, .int .i64 2] wr fun e w' => e = .returned (.bool (letter sh 2 == 45)) ∧ wr = w') := Lib.hid U
                have hf := fine_else (c := letter sh 2) h0 h1 h2
                cases hL : (letter sh 2 == 45) with
                | true =>
                  rw [hL] at HU hf
                  have hR := N1.out hf
                  subst hR
                  clear hf h2 N1 HA2 U
                  go_wp2_with (go_at_call 90; refine HU.out.mono ?_; rintro e w2 ⟨rfl, rfl⟩)
                  go_ret
                  exact ⟨rfl, HB1.out⟩
                | false =>
                  rw [hL] at HU hf
                  have HA3 := Lib.hid (HA2.out hf)
                  clear hf h2 N1 HA2 U
                  go_wp2_with (go_at_call 90; refine HU.out.mono ?_; rintro e w2 ⟨rfl, rfl⟩)
                  go_roundw
                  case rel => exact ⟨2 + 1, by decide, by go_num, HA3, by first | rfl | trivial⟩
                  case measure => simp [intOf]
      · obtain rfl : i = 3 := by omega
        have hR := RY.out HS.out HA.out
        subst hR
        clear RN RY UN HA hlt
        go_wp2
        go_ret
        exact ⟨rfl, HB1.out⟩

end Go.Proofs.YtmloljfnnkfkjaaDoor.In

