/- The walks of inst.Right, Wide, Build: their contracts. Units in memory: rows of elements, some of which hold rows; as they were read. No condition but those that each states. -/
import Derived.Test.YtmloljfnnkfkjaaDoorMgAC
import Derived.Lib.SmallJoins
import Derived.IntWalk
import Derived.LoopTactic
import Derived.Deep.Cut
import Derived.Deep.CutRange
import Derived.Deep.DeepCutAuto
import Derived.Deep.CutBlock
import Derived.Deep.RegionHeld3
import Derived.Deep.AppendLies
import Derived.Deep.RegionLaw
import Derived.Test.YtmloljfnnkfkjaaDoorMgAB
import Derived.ChangeSlices
import Derived.Deep.Slices
import Derived.Deep.Fields
import Derived.ChangeSame
namespace Go.Proofs.YtmloljfnnkfkjaaDoor.In
open Go.RowKit Dk

theorem strOf_tl (l : List UInt8) : (strOf l).toList = l := ByteArray.toList_mk l

/-! an instruction in a block of its own -/
structure IB (W : World) (b : Nat) (x : Ix) : Prop where
  cells : W.rangeAt b 0 x.cells
  room : W.there b 0 4
  lt : b < W.heap.size
theorem ib_new (w : World) (x : Ix) (t : TypeId) : IB (w.alloc (.cells x.cells.toArray t)) w.heap.size x := ⟨range_new w x.cells t, there_new w x.cells.toArray t, by simp⟩
theorem i_info (x : Ix) : (Tryd.prog.info? 89).map (·.size) = some x.cells.length := by kernel_rfl
theorem i_infoA (x : Ix) : (Tryd.prog.info? 89).map (·.size) = some x.cells.toArray.size := i_info x
theorem i_ones (x : Ix) : ∀ u ∈ x.cells, u.oneCell' = true := by
  intro u hu
  simp [Ix.cells] at hu
  rcases hu with rfl | rfl | rfl | rfl <;> rfl
theorem i_all (x : Ix) : x.cells.toArray.all (·.oneCell') = true := all_oneCell_toArray (i_ones x)
theorem IB.later {W W' : World} {b : Nat} {x : Ix} (h : IB W b x) (k : Below W.heap.size W W') : IB W' b x :=
  ⟨rangeAt_block h.cells (k.block b h.lt), there_block h.room (k.block b h.lt), Nat.lt_of_lt_of_le h.lt k.size⟩
theorem IB.at {W : World} {b : Nat} {x : Ix} (h : IB W b x) : W.cell? ⟨b, 0, none⟩ = some (.int .i64 x.op) ∧ W.cell? ⟨b, 1, none⟩ = some (.int .i64 x.a) ∧ W.cell? ⟨b, 2, none⟩ = some (.int .i64 x.b) ∧ W.cell? ⟨b, 3, none⟩ = some (.int .i64 x.c) := by
  have k : ∀ i u, x.cells[i]? = some u → W.cell? ⟨b, i, none⟩ = some u := fun i u hu => by have := h.cells i u hu; rwa [Nat.zero_add] at this
  exact ⟨k 0 _ rfl, k 1 _ rfl, k 2 _ rfl, k 3 _ rfl⟩

def nth (x : Ix) (i : Nat) : Int := [x.a, x.b, x.c].getD i 0
theorem right_no {x : Ix} (i : Nat) (hi : i < 3) (h : fine (letter (shapeL x.op) i) (nth x i) = false) : rightB x = false := by
  unfold rightB
  rcases (show i = 0 ∨ i = 1 ∨ i = 2 by omega) with rfl | rfl | rfl
  · have h' : fine (letter (shapeL x.op) 0) x.a = false := h
    simp [h']
  · have h' : fine (letter (shapeL x.op) 1) x.b = false := h
    simp [h']
  · have h' : fine (letter (shapeL x.op) 2) x.c = false := h
    simp [h']
theorem right_yes {x : Ix} (hs : shapeL x.op ≠ []) (h : ∀ j, j < 3 → fine (letter (shapeL x.op) j) (nth x j) = true) : rightB x = true := by
  unfold rightB
  have h0 : fine (letter (shapeL x.op) 0) x.a = true := h 0 (by decide)
  have h1 : fine (letter (shapeL x.op) 1) x.b = true := h 1 (by decide)
  have h2 : fine (letter (shapeL x.op) 2) x.c = true := h 2 (by decide)
  rw [h0, h1, h2]
  simpa using hs
theorem fine_lo {c : UInt8} {n : Int} (h : n < 0) : fine c n = false := by unfold fine; simp; omega
theorem fine_hi {c : UInt8} {n : Int} (h : n > 255) : fine c n = false := by unfold fine; simp; omega
theorem fine_zero {c : UInt8} {n : Int} (h : n = 0) : fine c n = true := by unfold fine; simp [h]
theorem fine_else {c : UInt8} {n : Int} (h0 : ¬n < 0) (h1 : ¬n > 255) (h : n ≠ 0) : fine c n = !(c == 45) := by
  unfold fine
  have e0 : decide (0 ≤ n) = true := decide_eq_true (by omega)
  have e1 : decide (n ≤ 255) = true := decide_eq_true (by omega)
  have e2 : decide (n = 0) = false := decide_eq_false h
  rw [e0, e1, e2]; rfl

set_option maxHeartbeats 1000000 in
set_option maxRecDepth 100000 in
theorem right_any (x : Ix) (w : World) (HF : HasF w) : Calls Tryd.prog 62 #[.agg x.cells.toArray] w fun e w' => e = .returned (.bool (rightB x)) ∧ Below w.heap.size w w' := by
  obtain ⟨W1, hW1⟩ : ∃ W1, W1 = w.alloc (.cells x.cells.toArray 89) := ⟨_, rfl⟩
  have HB1 : Hid (Below w.heap.size w W1) := Lib.hid (by rw [hW1]; exact (Below.refl _ _).alloc (Nat.le_refl _) _)
  have HX : IB W1 w.heap.size x := by rw [hW1]; exact ib_new w x _
  have SH := Lib.hid (shape_any x.op W1 (HF.later HB1.out))
  obtain ⟨c0, c1, c2, c3⟩ := HX.at
  have RN := Lib.hid (fun i hi h => right_no (x := x) i hi h)
  have RY := Lib.hid (fun hs h => right_yes (x := x) hs h)
  have UN := Lib.hid (fun i => unused_any (shapeL x.op) i W1 (shape_size x.op))
  have HE : Hid (shapeL x.op = [] → rightB x = false) := Lib.hid (fun h => by unfold rightB; rw [h]; rfl)
  have htl := strOf_tl (shapeL x.op)
  obtain ⟨op, a, b, c⟩ := x
  have hW2 : w.alloc (.cells #[.int .i64 op, .int .i64 a, .int .i64 b, .int .i64 c] 89) = W1 := hW1.symm
  show Calls _ _ #[.agg #[.int .i64 op, .int .i64 a, .int .i64 b, .int .i64 c]] w _
  generalize hr : rightB ⟨op, a, b, c⟩ = R at *
  have SH' : Hid (Calls Tryd.prog 89 #[.int .i64 op] W1 fun e w' => e = .returned (.string (strOf (shapeL op))) ∧ W1 = w') := Lib.hid SH.out
  replace c0 : W1.cell? ⟨w.heap.size, 0, none⟩ = some (.int .i64 op) := c0
  replace c1 : W1.cell? ⟨w.heap.size, 1, none⟩ = some (.int .i64 a) := c1
  replace c2 : W1.cell? ⟨w.heap.size, 2, none⟩ = some (.int .i64 b) := c2
  replace c3 : W1.cell? ⟨w.heap.size, 3, none⟩ = some (.int .i64 c) := c3
  replace UN : Hid (∀ i : Nat, Calls Tryd.prog 90 #[.string (strOf (shapeL op)), .int .i64 (i : Int)] W1 fun e w' => e = .returned (.bool (letter (shapeL op) i == 45)) ∧ W1 = w') := Lib.hid UN.out
  replace HE : Hid (shapeL op = [] → R = false) := Lib.hid HE.out
  replace RN : Hid (∀ i, i < 3 → fine (letter (shapeL op) i) ([a, b, c].getD i 0) = false → R = false) := Lib.hid (fun i hi h => RN.out i hi h)
  replace RY : Hid (shapeL op ≠ [] → (∀ j, j < 3 → fine (letter (shapeL op) j) ([a, b, c].getD j 0) = true) → R = true) := Lib.hid (fun hs h => RY.out hs h)
  replace htl : (strOf (shapeL op)).toList = shapeL op := htl
  generalize hsh : shapeL op = sh at *
  clear HF hW1 HX SH hr hsh
  by_cases hs : sh = []
  · have v0 : ((strOf sh).toList == []) = true := by rw [htl, hs]; rfl
    have hR := HE.out hs
    subst hR
    clear htl hs RN RY UN HE
    generalize strOf sh = q at *
    go_enter Tryd.func62, Tryd.ntmps62
    go_upto_region 1 with fail
    go_wp2_with (go_at_call 89; refine SH'.out.mono ?_; rintro e w2 ⟨rfl, rfl⟩)
    go_ret
    exact ⟨rfl, HB1.out⟩
  · have v0 : ((strOf sh).toList == []) = false := by rw [htl]; simpa using hs
    have HS := Lib.hid hs
    clear htl hs HE
    generalize strOf sh = q at *
    go_enter Tryd.func62, Tryd.ntmps62
    go_upto_region 1 with fail
    go_wp2_with (go_at_call 89; refine SH'.out.mono ?_; rintro e w2 ⟨rfl, rfl⟩)
    go_loopw [18] (fun vi wr => ∃ i : Nat, i ≤ 3 ∧ vi = .int .i64 (i : Int) ∧ Hid (∀ j, j < i → fine (letter sh j) ([a, b, c].getD j 0) = true) ∧ wr = W1) (fun vi _ => 3 - (intOf vi).toNat)
    case atStart => exact ⟨0, by decide, rfl, Lib.hid (fun j hj => absurd hj (Nat.not_lt_zero _)), rfl⟩
    case round =>
      obtain ⟨i, hi, rfl, HA, rfl⟩ := hrel
      by_cases hlt : i < 3
      · rcases (show i = 0 ∨ i = 1 ∨ i = 2 by omega) with rfl | rfl | rfl
        · have U := UN.out 0
          have ix : ∀ W : World, (Instr.index 117 (.agg #[.int .i64 a, .int .i64 b, .int .i64 c]) (.int .i64 0)).run Tryd.prog W = .ok (.int .i64 a) W := fun _ => by kernel_rfl
          have N1 := Lib.hid (RN.out 0 (by decide))
          have HA2 : Hid (fine (letter sh 0) a = true → ∀ j, j < 0 + 1 → fine (letter sh j) ([a, b, c].getD j 0) = true) := Lib.hid (fun h j hj => by
            rcases Nat.lt_succ_iff_lt_or_eq.1 hj with h1 | rfl
            · exact HA.out j h1
            · exact h)
          clear RN RY UN HA hlt
          by_cases h0 : a < 0
          · have hR := N1.out (fine_lo h0)
            subst hR
            go_wp2
            go_ret
            exact ⟨rfl, HB1.out⟩
          · by_cases h1 : a > 255
            · have hR := N1.out (fine_hi h1)
              subst hR
              go_wp2
              go_ret
              exact ⟨rfl, HB1.out⟩
            · by_cases h2 : a = 0
              · have HA3 := Lib.hid (HA2.out (fine_zero h2))
                have v2 : (a != 0) = false := by simpa using h2
                clear h2 N1 HA2
                go_wp2
                go_roundw
                case rel => exact ⟨0 + 1, by decide, by go_num, HA3, by first | rfl | trivial⟩
                case measure => simp [intOf]
              · have v2 : (a != 0) = true := by simpa using h2
                have HU : Hid (Calls Tryd.prog 90 #[.string q, .int .i64 0] wr fun e w' => e = .returned (.bool (letter sh 0 == 45)) ∧ wr = w') := Lib.hid U
                have hf := fine_else (c := letter sh 0) h0 h1 h2
                cases hL : (letter sh 0 == 45) with
                | true =>
                  rw [hL] at HU hf
                  have hR := N1.out hf
                  subst hR
                  clear hf h2 N1 HA2 U
                  go_wp2_with (go_at_call 90; refine HU.out.mono ?_; rintro e w2 ⟨rfl, rfl⟩)
                  go_ret
                  exact ⟨rfl, HB1.out⟩
                | false =>
                  rw [hL] at HU hf
                  have HA3 := Lib.hid (HA2.out hf)
                  clear hf h2 N1 HA2 U
                  go_wp2_with (go_at_call 90; refine HU.out.mono ?_; rintro e w2 ⟨rfl, rfl⟩)
                  go_roundw
                  case rel => exact ⟨0 + 1, by decide, by go_num, HA3, by first | rfl | trivial⟩
                  case measure => simp [intOf]
        · have U := UN.out 1
          have ix : ∀ W : World, (Instr.index 117 (.agg #[.int .i64 a, .int .i64 b, .int .i64 c]) (.int .i64 1)).run Tryd.prog W = .ok (.int .i64 b) W := fun _ => by kernel_rfl
          have N1 := Lib.hid (RN.out 1 (by decide))
          have HA2 : Hid (fine (letter sh 1) b = true → ∀ j, j < 1 + 1 → fine (letter sh j) ([a, b, c].getD j 0) = true) := Lib.hid (fun h j hj => by
            rcases Nat.lt_succ_iff_lt_or_eq.1 hj with h1 | rfl
            · exact HA.out j h1
            · exact h)
          clear RN RY UN HA hlt
          by_cases h0 : b < 0
          · have hR := N1.out (fine_lo h0)
            subst hR
            go_wp2
            go_ret
            exact ⟨rfl, HB1.out⟩
          · by_cases h1 : b > 255
            · have hR := N1.out (fine_hi h1)
              subst hR
              go_wp2
              go_ret
              exact ⟨rfl, HB1.out⟩
            · by_cases h2 : b = 0
              · have HA3 := Lib.hid (HA2.out (fine_zero h2))
                have v2 : (b != 0) = false := by simpa using h2
                clear h2 N1 HA2
                go_wp2
                go_roundw
                case rel => exact ⟨1 + 1, by decide, by go_num, HA3, by first | rfl | trivial⟩
                case measure => simp [intOf]
              · have v2 : (b != 0) = true := by simpa using h2
                have HU : Hid (Calls Tryd.prog 90 #[.string q, .int .i64 1] wr fun e w' => e = .returned (.bool (letter sh 1 == 45)) ∧ wr = w') := Lib.hid U
                have hf := fine_else (c := letter sh 1) h0 h1 h2
                cases hL : (letter sh 1 == 45) with
                | true =>
                  rw [hL] at HU hf
                  have hR := N1.out hf
                  subst hR
                  clear hf h2 N1 HA2 U
                  go_wp2_with (go_at_call 90; refine HU.out.mono ?_; rintro e w2 ⟨rfl, rfl⟩)
                  go_ret
                  exact ⟨rfl, HB1.out⟩
                | false =>
                  rw [hL] at HU hf
                  have HA3 := Lib.hid (HA2.out hf)
                  clear hf h2 N1 HA2 U
                  go_wp2_with (go_at_call 90; refine HU.out.mono ?_; rintro e w2 ⟨rfl, rfl⟩)
                  go_roundw
                  case rel => exact ⟨1 + 1, by decide, by go_num, HA3, by first | rfl | trivial⟩
                  case measure => simp [intOf]
        · have U := UN.out 2
          have ix : ∀ W : World, (Instr.index 117 (.agg #[.int .i64 a, .int .i64 b, .int .i64 c]) (.int .i64 2)).run Tryd.prog W = .ok (.int .i64 c) W := fun _ => by kernel_rfl
          have N1 := Lib.hid (RN.out 2 (by decide))
          have HA2 : Hid (fine (letter sh 2) c = true → ∀ j, j < 2 + 1 → fine (letter sh j) ([a, b, c].getD j 0) = true) := Lib.hid (fun h j hj => by
            rcases Nat.lt_succ_iff_lt_or_eq.1 hj with h1 | rfl
            · exact HA.out j h1
            · exact h)
          clear RN RY UN HA hlt
          by_cases h0 : c < 0
          · have hR := N1.out (fine_lo h0)
            subst hR
            go_wp2
            go_ret
            exact ⟨rfl, HB1.out⟩
          · by_cases h1 : c > 255
            · have hR := N1.out (fine_hi h1)
              subst hR
              go_wp2
              go_ret
              exact ⟨rfl, HB1.out⟩
            · by_cases h2 : c = 0
              · have HA3 := Lib.hid (HA2.out (fine_zero h2))
                have v2 : (c != 0) = false := by simpa using h2
                clear h2 N1 HA2
                go_wp2
                go_roundw
                case rel => exact ⟨2 + 1, by decide, by go_num, HA3, by first | rfl | trivial⟩
                case measure => simp [intOf]
              · have v2 : (c != 0) = true := by simpa using h2
                have HU : Hid (Calls Tryd.prog 90 #[.string q, .int .i64 2] wr fun e w' => e = .returned (.bool (letter sh 2 == 45)) ∧ wr = w') := Lib.hid U
                have hf := fine_else (c := letter sh 2) h0 h1 h2
                cases hL : (letter sh 2 == 45) with
                | true =>
                  rw [hL] at HU hf
                  have hR := N1.out hf
                  subst hR
                  clear hf h2 N1 HA2 U
                  go_wp2_with (go_at_call 90; refine HU.out.mono ?_; rintro e w2 ⟨rfl, rfl⟩)
                  go_ret
                  exact ⟨rfl, HB1.out⟩
                | false =>
                  rw [hL] at HU hf
                  have HA3 := Lib.hid (HA2.out hf)
                  clear hf h2 N1 HA2 U
                  go_wp2_with (go_at_call 90; refine HU.out.mono ?_; rintro e w2 ⟨rfl, rfl⟩)
                  go_roundw
                  case rel => exact ⟨2 + 1, by decide, by go_num, HA3, by first | rfl | trivial⟩
                  case measure => simp [intOf]
      · obtain rfl : i = 3 := by omega
        have hR := RY.out HS.out HA.out
        subst hR
        clear RN RY UN HA hlt
        go_wp2
        go_ret
        exact ⟨rfl, HB1.out⟩

end Go.Proofs.YtmloljfnnkfkjaaDoor.In

namespace Go.Proofs.YtmloljfnnkfkjaaDoor.Im
open Go.RowKit Dk In

/-! rows -/
/-- A slice whose elements' cells are css, in a block of X. -/
def Row (X : Nat → Prop) (W : World) (v : Value) (css : List (List Value)) : Prop := ∃ p c, v = .slice p css.length c ∧ css.length ≤ c ∧ (css = [] ∨ ∃ g o, p = some ⟨g, o, none⟩ ∧ (X g ∧ g < W.heap.size) ∧ W.rangeAt g o css.flatten)
/-- The blocks of X are as they were. -/
structure Keeps (X : Nat → Prop) (W W' : World) : Prop where
  size : W.heap.size ≤ W'.heap.size
  block : ∀ g, X g → g < W.heap.size → W'.heap[g]? = W.heap[g]?
theorem Keeps.of {X : Nat → Prop} {W W' : World} (hb : Below W.heap.size W W') : Keeps X W W' := ⟨hb.size, fun g _ h => hb.block g h⟩
variable {X Y : Nat → Prop}
theorem Row.keep {W W' : World} {v : Value} {css : List (List Value)} (h : Row X W v css) (hb : Keeps X W W') : Row X W' v css := by
  obtain ⟨p, c, rfl, hc, h | ⟨g, o, rfl, hg, hr⟩⟩ := h
  · exact ⟨p, c, rfl, hc, .inl h⟩
  · exact ⟨_, c, rfl, hc, .inr ⟨g, o, rfl, ⟨hg.1, Nat.lt_of_lt_of_le hg.2 hb.size⟩, rangeAt_block hr (hb.block g hg.1 hg.2)⟩⟩
theorem Row.later {W W' : World} {v : Value} {css : List (List Value)} (h : Row X W v css) (hb : Below W.heap.size W W') : Row X W' v css := h.keep (.of hb)
theorem Row.weaken {W : World} {v : Value} {css : List (List Value)} (h : Row X W v css) (hx : ∀ g, X g → g < W.heap.size → Y g) : Row Y W v css := by
  obtain ⟨p, c, rfl, hc, h | ⟨g, o, rfl, hg, hr⟩⟩ := h
  · exact ⟨p, c, rfl, hc, .inl h⟩
  · exact ⟨_, c, rfl, hc, .inr ⟨g, o, rfl, ⟨hx g hg.1 hg.2, hg.2⟩, hr⟩⟩
theorem Row.nil (X : Nat → Prop) (W : World) : Row X W (.slice none 0 0) [] := ⟨none, 0, rfl, Nat.le_refl _, .inl rfl⟩
theorem flat_len {k : Nat} : ∀ {css : List (List Value)}, (∀ c ∈ css, c.length = k) → css.flatten.length = css.length * k
  | [], _ => by simp
  | c :: css, h => by
    rw [List.flatten_cons, List.length_append, h c (List.mem_cons_self ..), flat_len (fun c hc => h c (List.mem_cons_of_mem _ hc)), List.length_cons, Nat.succ_mul]
    omega
theorem flat_at {k : Nat} : ∀ {css : List (List Value)} {i j : Nat} (_ : ∀ c ∈ css, c.length = k) (hi : i < css.length) (_ : j < k), css.flatten[i * k + j]? = css[i][j]?
  | [], i, j, _, hi, _ => by simp at hi
  | c :: css, 0, j, h, hi, hj => by
    have := h c (List.mem_cons_self ..)
    rw [List.flatten_cons, Nat.zero_mul, Nat.zero_add, List.getElem?_append_left (by omega)]
    rfl
  | c :: css, i + 1, j, h, hi, hj => by
    have hc := h c (List.mem_cons_self ..)
    rw [List.flatten_cons, List.getElem?_append_right (by rw [hc, Nat.succ_mul]; omega), hc, show (i + 1) * k + j - k = i * k + j by rw [Nat.succ_mul]; omega]
    exact flat_at (fun c hc => h c (List.mem_cons_of_mem _ hc)) (by simpa using hi) hj
/-- What lies at a place. -/
theorem Row.at {W : World} {p : Option Addr} {m c k : Nat} {css : List (List Value)} (h : Row X W (.slice p m c) css) (hk : ∀ c ∈ css, c.length = k) (i : Nat) (hi : i < css.length) :
    ∃ g o, p = some ⟨g, o, none⟩ ∧ (X g ∧ g < W.heap.size) ∧ W.rangeAt g (o + i * k) css[i] := by
  obtain ⟨p', c', e, hc, h0 | ⟨g, o, hp, hg, hr⟩⟩ := h
  · subst h0; simp at hi
  · cases e
    refine ⟨g, o, hp, hg, fun j u hu => ?_⟩
    have hj : j < k := by
      have := (List.getElem?_eq_some_iff.1 hu).1
      have := hk _ (List.getElem_mem hi)
      omega
    have := hr (i * k + j) u (by rw [flat_at hk hi hj]; exact hu)
    rwa [← Nat.add_assoc] at this
theorem Row.len {W : World} {p : Option Addr} {m c : Nat} {css : List (List Value)} (h : Row X W (.slice p m c) css) : m = css.length := by
  obtain ⟨p', c', e, _⟩ := h
  cases e; rfl
theorem Row.form {W : World} {v : Value} {css : List (List Value)} (h : Row X W v css) : ∃ p c, v = .slice p css.length c := by
  obtain ⟨p, c, e, _⟩ := h
  exact ⟨p, c, e⟩
/-! elements -/
def Us.cells (x : Us) : List Value := [.string (strOf x.md), .string (strOf x.nm), .int .i64 x.ps]
def Cp.cells (x : Cp) : List Value := [.bool x.up, .int .i64 x.ix]
def Vl.cells (x : Vl) : List Value := [.int .i64 x.kind, .int .i64 x.n, .string (strOf x.s)]
/-- A row of plain elements. -/
def Rw {α : Type} (c : α → List Value) (X : Nat → Prop) (W : World) (v : Value) (l : List α) : Prop := Row X W v (l.map c)
/-- The cells of a proto. -/
def PC (X : Nat → Prop) (W : World) (cs : List Value) (p : Pr) : Prop := ∃ vc vk vp, cs = [.string (strOf p.nm), .int .i64 p.ps, .int .i64 p.rg, vc, vk, vp] ∧ Rw Ix.cells X W vc p.code ∧ Rw Vl.cells X W vk p.ks ∧ Rw Cp.cells X W vp p.caps
theorem PC.keep {W W' : World} {cs : List Value} {p : Pr} (h : PC X W cs p) (hb : Keeps X W W') : PC X W' cs p := by
  obtain ⟨a, b, c, e, h1, h2, h3⟩ := h
  exact ⟨a, b, c, e, h1.keep hb, h2.keep hb, h3.keep hb⟩
theorem PC.later {W W' : World} {cs : List Value} {p : Pr} (h : PC X W cs p) (hb : Below W.heap.size W W') : PC X W' cs p := h.keep (.of hb)
theorem PC.weaken {W : World} {cs : List Value} {p : Pr} (h : PC X W cs p) (hx : ∀ g, X g → g < W.heap.size → Y g) : PC Y W cs p := by
  obtain ⟨a, b, c, e, h1, h2, h3⟩ := h
  exact ⟨a, b, c, e, Row.weaken h1 hx, Row.weaken h2 hx, Row.weaken h3 hx⟩
theorem PC.len {W : World} {cs : List Value} {p : Pr} (h : PC X W cs p) : cs.length = 6 := by
  obtain ⟨a, b, c, e, _⟩ := h
  rw [e]; rfl
/-- One for each. -/
structure Each (X : Nat → Prop) (W : World) (css : List (List Value)) (l : List Pr) : Prop where
  len : css.length = l.length
  at' : ∀ (i : Nat) (cs : List Value) (p : Pr), css[i]? = some cs → l[i]? = some p → PC X W cs p
theorem Each.keep {W W' : World} {css : List (List Value)} {l : List Pr} (h : Each X W css l) (hb : Keeps X W W') : Each X W' css l := ⟨h.len, fun i cs p h1 h2 => (h.at' i cs p h1 h2).keep hb⟩
theorem Each.later {W W' : World} {css : List (List Value)} {l : List Pr} (h : Each X W css l) (hb : Below W.heap.size W W') : Each X W' css l := h.keep (.of hb)
theorem Each.weaken {W : World} {css : List (List Value)} {l : List Pr} (h : Each X W css l) (hx : ∀ g, X g → g < W.heap.size → Y g) : Each Y W css l := ⟨h.len, fun i cs p h1 h2 => (h.at' i cs p h1 h2).weaken hx⟩
theorem Each.six {W : World} {css : List (List Value)} {l : List Pr} (h : Each X W css l) : ∀ c ∈ css, c.length = 6 := by
  intro c hc
  obtain ⟨i, hi, rfl⟩ := List.getElem_of_mem hc
  exact (h.at' i _ _ (List.getElem?_eq_getElem hi) (List.getElem?_eq_getElem (by rw [← h.len]; exact hi))).len
theorem Each.part {W : World} {css : List (List Value)} {l : List Pr} (h : Each X W css l) (i n : Nat) : Each X W ((css.drop i).take n) ((l.drop i).take n) := by
  refine ⟨by simp [h.len], fun j cs p h1 h2 => ?_⟩
  rw [List.getElem?_take] at h1 h2
  split at h1
  · rename_i hj
    rw [if_pos hj] at h2
    rw [List.getElem?_drop] at h1 h2
    exact h.at' (i + j) cs p h1 h2
  · cases h1
theorem Each.nil (X : Nat → Prop) (W : World) : Each X W [] [] := ⟨rfl, fun i cs p h => by simp at h⟩
theorem Each.push {W : World} {css : List (List Value)} {l : List Pr} {cs : List Value} {p : Pr} (h : Each X W css l) (hp : PC X W cs p) : Each X W (css ++ [cs]) (l ++ [p]) := by
  refine ⟨by simp [h.len], fun i c q h1 h2 => ?_⟩
  have hl := h.len
  by_cases hi : i < css.length
  · rw [List.getElem?_append_left hi] at h1
    rw [List.getElem?_append_left (by omega)] at h2
    exact h.at' i c q h1 h2
  · have := (List.getElem?_eq_some_iff.1 h1).1
    rw [List.length_append, List.length_singleton] at this
    obtain rfl : i = css.length := by omega
    rw [List.getElem?_append_right (Nat.le_refl _), Nat.sub_self] at h1
    rw [List.getElem?_append_right (by omega), hl, Nat.sub_self] at h2
    cases h1; cases h2; exact hp
/-- A row of protos. -/
def PRow (X : Nat → Prop) (W : World) (v : Value) (l : List Pr) : Prop := ∃ css, Row X W v css ∧ Each X W css l
/-- The cells of a unit. -/
def UC (X : Nat → Prop) (W : World) (cs : List Value) (u : Un) : Prop := ∃ vu vp, cs = [.string (strOf u.nm), .int .i64 u.ver, vu, .int .i64 u.funs, vp] ∧ Rw Us.cells X W vu u.uses ∧ PRow X W vp u.prs
theorem UC.keep {W W' : World} {cs : List Value} {u : Un} (h : UC X W cs u) (hb : Keeps X W W') : UC X W' cs u := by
  obtain ⟨a, b, e, h1, css, h2, h3⟩ := h
  exact ⟨a, b, e, Row.keep h1 hb, css, h2.keep hb, h3.keep hb⟩
theorem UC.later {W W' : World} {cs : List Value} {u : Un} (h : UC X W cs u) (hb : Below W.heap.size W W') : UC X W' cs u := h.keep (.of hb)
theorem UC.weaken {W : World} {cs : List Value} {u : Un} (h : UC X W cs u) (hx : ∀ g, X g → g < W.heap.size → Y g) : UC Y W cs u := by
  obtain ⟨a, b, e, h1, css, h2, h3⟩ := h
  exact ⟨a, b, e, Row.weaken h1 hx, css, h2.weaken hx, h3.weaken hx⟩
theorem Rw.keep {α : Type} {c : α → List Value} {W W' : World} {v : Value} {l : List α} (h : Rw c X W v l) (hb : Keeps X W W') : Rw c X W' v l := Row.keep h hb
theorem Rw.weaken {α : Type} {c : α → List Value} {W : World} {v : Value} {l : List α} (h : Rw c X W v l) (hx : ∀ g, X g → g < W.heap.size → Y g) : Rw c Y W v l := Row.weaken h hx
theorem Rw.nil {α : Type} (c : α → List Value) (X : Nat → Prop) (W : World) : Rw c X W (.slice none 0 0) [] := Row.nil X W
theorem us_three : ∀ l : List Us, ∀ c ∈ l.map Us.cells, c.length = 3 := fun l c hc => by obtain ⟨x, _, rfl⟩ := List.mem_map.1 hc; rfl
theorem cp_two : ∀ l : List Cp, ∀ c ∈ l.map Cp.cells, c.length = 2 := fun l c hc => by obtain ⟨x, _, rfl⟩ := List.mem_map.1 hc; rfl
theorem vl_three : ∀ l : List Vl, ∀ c ∈ l.map Vl.cells, c.length = 3 := fun l c hc => by obtain ⟨x, _, rfl⟩ := List.mem_map.1 hc; rfl
theorem ix_four : ∀ l : List Ix, ∀ c ∈ l.map Ix.cells, c.length = 4 := fun l c hc => by obtain ⟨x, _, rfl⟩ := List.mem_map.1 hc; rfl
theorem uc_zero (X : Nat → Prop) (W : World) : UC X W [.string ByteArray.empty, .int .i64 0, .slice none 0 0, .int .i64 0, .slice none 0 0] Un.zero := ⟨_, _, rfl, Rw.nil _ X W, ⟨[], Row.nil X W, Each.nil X W⟩⟩

/-! as they were read -/
section
open Go.ChangeShapes Go.WideShapes Go.Deep
variable {H : Type} {enc : TypeId × Value → H} {w : World}

theorem strOf_self' (s : ByteArray) : Dk.strOf s.data.toList = s := by unfold Dk.strOf; simp

end

end Go.Proofs.YtmloljfnnkfkjaaDoor.Im

