/- The walks of what image.Right asks of protos, and of Right: their contracts. The walk of octet.isWidth, octet.fits, octet.encode, octet.decode and chrysalisref01.wide: their contracts. No condition but those that each states. -/
import Derived.Test.YtmloljfnnkfkjaaDoorMgAG
import Derived.Test.YtmloljfnnkfkjaaDoorRows
import Derived.WalkKit
import Derived.WalkLawsBesides
import Derived.WalkSpells
import Derived.Lib.Hide
import Derived.Deep.OwnRows
import Derived.Laws.IdiomStrings
import Derived.Lib.Endian
import Derived.Lib.EndianBits
import Derived.Test.YtmloljfnnkfkjaaDoorMgAA
namespace Go.Proofs.YtmloljfnnkfkjaaDoor.Im
open Go.RowKit Dk In
variable {X : Nat → Prop}

theorem enters_rightUse : Enters 30 := fun a W => by kernel_rfl
theorem enters_rightCap : Enters 64 := fun a W => by kernel_rfl
theorem enters_rightConst : Enters 60 := fun a W => by kernel_rfl
theorem enters_rightFun : Enters 33 := fun a W => by kernel_rfl
theorem enters_rightInner : Enters 34 := fun a W => by kernel_rfl
theorem enters_rightProto : Enters 32 := fun a W => by kernel_rfl
theorem enters_right : Enters 62 := fun a W => by kernel_rfl
/-- Sizes that a call can take. -/
structure SmP (p : Pr) : Prop where
  nm : p.nm.length ≤ 1099511627776
  code : p.code.length ≤ 1099511627776
  ks : p.ks.length ≤ 1099511627776
  caps : p.caps.length ≤ 1099511627776
structure SmU (u : Un) : Prop where
  nm : u.nm.length ≤ 1099511627776
  uses : u.uses.length ≤ 1099511627776
  use : ∀ x ∈ u.uses, x.md.length ≤ 1099511627776 ∧ x.nm.length ≤ 1099511627776
  prs : u.prs.length ≤ 1099511627776
  pr : ∀ p ∈ u.prs, SmP p

set_option maxHeartbeats 1000000 in
set_option maxRecDepth 100000 in
theorem rightFun_any {cs : List Value} {p : Pr} (w : World) (hp : PC X w cs p) (hs : SmP p) : Calls Tryd.prog 33 #[.agg cs.toArray] w fun e w' => e = .returned (.bool (funB p)) ∧ Below w.heap.size w w' := by
  have NM := Lib.hid (fun W => Lx.name_any p.nm W hs.nm)
  obtain ⟨vc, vk, vp, rfl, h1, h2, h3⟩ := hp
  obtain ⟨W1, hW1⟩ : ∃ W1, W1 = w.alloc (.cells #[.string (strOf p.nm), .int .i64 p.ps, .int .i64 p.rg, vc, vk, vp] 38) := ⟨_, rfl⟩
  have HB1 : Hid (Below w.heap.size w W1) := Lib.hid (by rw [hW1]; exact (Below.refl _ _).alloc (Nat.le_refl _) _)
  have HX1 : Hid (El W1 w.heap.size [.string (strOf p.nm), .int .i64 p.ps, .int .i64 p.rg, vc, vk, vp]) := Lib.hid (by rw [hW1]; exact el_new w _ _)
  have hW2 := hW1.symm
  obtain ⟨pp, c, rfl⟩ := Row.form h3
  have en : decide (p.caps.length = 0) = (((p.caps.map Cp.cells).length : Int) == 0) := by
    rw [List.length_map, Bool.eq_iff_iff, decide_eq_true_eq, beq_iff_eq]
    omega
  show Calls _ _ #[.agg #[.string (strOf p.nm), .int .i64 p.ps, .int .i64 p.rg, vc, vk, .slice pp (p.caps.map Cp.cells).length c]] w fun e w' => e = .returned (.bool (Lx.isName p.nm && decide (p.caps.length = 0))) ∧ Below w.heap.size w w'
  rw [en]
  generalize (p.caps.map Cp.cells).length = n at *
  generalize Lx.isName p.nm = A at *
  generalize strOf p.nm = sn at *
  generalize p.ps = ps at *
  generalize p.rg = rg at *
  have c0_1 : W1.cell? ⟨w.heap.size, 0, none⟩ = some (.string sn) := HX1.out.at 0 _ rfl
  clear hW1 h1 h2 h3 en hs
  cases A with
  | false =>
    go_enter Tryd.func33, Tryd.ntmps33
    go_wp2_with fail
    refine (NM.out _).mono ?_
    rintro e W2 ⟨rfl, hb⟩
    have HX2 := Lib.hid (HX1.out.later hb)
    have HB2 := Lib.hid (chain2 HB1.out hb)
    have c5_2 : W2.cell? ⟨w.heap.size, 5, none⟩ = some (.slice pp n c) := HX2.out.at 5 _ rfl
    clear hb
    go_wp2
    go_ret
    exact ⟨rfl, HB2.out⟩
  | true =>
    go_enter Tryd.func33, Tryd.ntmps33
    go_wp2_with fail
    refine (NM.out _).mono ?_
    rintro e W2 ⟨rfl, hb⟩
    have HX2 := Lib.hid (HX1.out.later hb)
    have HB2 := Lib.hid (chain2 HB1.out hb)
    have c5_2 : W2.cell? ⟨w.heap.size, 5, none⟩ = some (.slice pp n c) := HX2.out.at 5 _ rfl
    clear hb
    go_wp2
    go_ret
    exact ⟨rfl, HB2.out⟩

set_option maxHeartbeats 1000000 in
set_option maxRecDepth 100000 in
theorem rightInner_any {cs : List Value} {p : Pr} (w : World) (hp : PC X w cs p) (hs : SmP p) : Calls Tryd.prog 34 #[.agg cs.toArray] w fun e w' => e = .returned (.bool (innerB p)) ∧ Below w.heap.size w w' := by
  obtain ⟨vc, vk, vp, rfl, h1, h2, h3⟩ := hp
  obtain ⟨W1, hW1⟩ : ∃ W1, W1 = w.alloc (.cells #[.string (strOf p.nm), .int .i64 p.ps, .int .i64 p.rg, vc, vk, vp] 38) := ⟨_, rfl⟩
  have HB1 : Hid (Below w.heap.size w W1) := Lib.hid (by rw [hW1]; exact (Below.refl _ _).alloc (Nat.le_refl _) _)
  have HX1 : Hid (El W1 w.heap.size [.string (strOf p.nm), .int .i64 p.ps, .int .i64 p.rg, vc, vk, vp]) := Lib.hid (by rw [hW1]; exact el_new w _ _)
  have hW2 := hW1.symm
  have AC := Lib.hid (fun (W : World) (hb : Below w.heap.size w W) => row_cp (l := p.caps) capB 255 255 rfl enters_rightCap (Row.later h3 hb) (cp_two _) (cp_ones _) (List.length_map _) hs.caps (fun i cs x e1 e2 W' _ => by rw [map_at e1 e2]; exact rightCap_any x W'))
  have es : (strOf p.nm).toList.isEmpty = decide (p.nm = []) := by
    rw [strOf_tl]
    cases p.nm <;> rfl
  show Calls _ _ #[.agg #[.string (strOf p.nm), .int .i64 p.ps, .int .i64 p.rg, vc, vk, vp]] w fun e w' => e = .returned (.bool (decide (p.nm = []) && allB capB 255 p.caps)) ∧ Below w.heap.size w w'
  rw [← es]
  generalize allB capB 255 p.caps = B at *
  generalize strOf p.nm = sn at *
  generalize p.ps = ps at *
  generalize p.rg = rg at *
  have c0_1 : W1.cell? ⟨w.heap.size, 0, none⟩ = some (.string sn) := HX1.out.at 0 _ rfl
  have c5_1 : W1.cell? ⟨w.heap.size, 5, none⟩ = some vp := HX1.out.at 5 _ rfl
  clear hW1 h1 h2 h3 es hs
  cases hA : sn.toList.isEmpty with
  | false =>
    go_enter Tryd.func34, Tryd.ntmps34
    go_wp2
    go_ret
    exact ⟨rfl, HB1.out⟩
  | true =>
    go_enter Tryd.func34, Tryd.ntmps34
    go_wp2_with fail
    refine (AC.out _ HB1.out).mono ?_
    rintro e W2 ⟨rfl, hb⟩
    have HX2 := Lib.hid (HX1.out.later hb)
    have HB2 := Lib.hid (chain2 HB1.out hb)
    clear hb
    go_wp2
    go_ret
    exact ⟨rfl, HB2.out⟩

set_option maxHeartbeats 1000000 in
set_option maxRecDepth 100000 in
theorem rightProto_any {cs : List Value} {p : Pr} (w : World) (hp : PC X w cs p) (hs : SmP p) (HF : HasF w) : Calls Tryd.prog 32 #[.agg cs.toArray] w fun e w' => e = .returned (.bool (prB p)) ∧ Below w.heap.size w w' := by
  obtain ⟨vc, vk, vp, rfl, h1, h2, h3⟩ := hp
  obtain ⟨W1, hW1⟩ : ∃ W1, W1 = w.alloc (.cells #[.string (strOf p.nm), .int .i64 p.ps, .int .i64 p.rg, vc, vk, vp] 38) := ⟨_, rfl⟩
  have HB1 : Hid (Below w.heap.size w W1) := Lib.hid (by rw [hW1]; exact (Below.refl _ _).alloc (Nat.le_refl _) _)
  have HX1 : Hid (El W1 w.heap.size [.string (strOf p.nm), .int .i64 p.ps, .int .i64 p.rg, vc, vk, vp]) := Lib.hid (by rw [hW1]; exact el_new w _ _)
  have hW2 := hW1.symm
  have AK := Lib.hid (fun (W : World) (hb : Below w.heap.size w W) => row_vl (l := p.ks) valB 200 200 rfl enters_rightConst (Row.later h2 hb) (vl_three _) (vl_ones _) (List.length_map _) hs.ks (fun i cs x e1 e2 W' _ => by rw [map_at e1 e2]; exact rightConst_any x W'))
  have AI := Lib.hid (fun (W : World) (hb : Below w.heap.size w W) => row_ix (l := p.code) rightB 8000 8000 rfl enters_right (Row.later h1 hb) (ix_four _) (ix_ones _) (List.length_map _) hs.code (fun i cs x e1 e2 W' hb' => by rw [map_at e1 e2]; exact right_any x W' (HF.later (chain2 hb hb'))))
  have W_a := Lib.hid (fun W => within_any p.ps 0 8 W)
  have W_b := Lib.hid (fun W => within_any p.rg (max 1 p.ps) 100 W)
  show Calls _ _ #[.agg #[.string (strOf p.nm), .int .i64 p.ps, .int .i64 p.rg, vc, vk, vp]] w fun e w' => e = .returned (.bool (inB p.ps 0 8 && inB p.rg (max 1 p.ps) 100 && allB valB 200 p.ks && allB rightB 8000 p.code)) ∧ Below w.heap.size w w'
  generalize allB valB 200 p.ks = C at *
  generalize allB rightB 8000 p.code = D at *
  generalize inB p.ps 0 8 = A at *
  generalize inB p.rg (max 1 p.ps) 100 = B at *
  generalize strOf p.nm = sn at *
  generalize p.ps = ps at *
  generalize p.rg = rg at *
  have c2_1 : W1.cell? ⟨w.heap.size, 2, none⟩ = some (.int .i64 rg) := HX1.out.at 2 _ rfl
  have c1_1 : W1.cell? ⟨w.heap.size, 1, none⟩ = some (.int .i64 ps) := HX1.out.at 1 _ rfl
  have c4_1 : W1.cell? ⟨w.heap.size, 4, none⟩ = some (vk) := HX1.out.at 4 _ rfl
  have c3_1 : W1.cell? ⟨w.heap.size, 3, none⟩ = some (vc) := HX1.out.at 3 _ rfl
  clear hW1 h1 h2 h3 hs HF
  cases A with
  | false =>
    go_enter Tryd.func32, Tryd.ntmps32
    go_wp2_with fail
    refine (W_a.out _).mono ?_
    rintro e W2 ⟨rfl, rfl⟩
    go_wp2
    go_ret
    exact ⟨rfl, HB1.out⟩
  | true =>
    cases B with
    | false =>
      go_enter Tryd.func32, Tryd.ntmps32
      go_wp2_with fail
      refine (W_a.out _).mono ?_
      rintro e W2 ⟨rfl, rfl⟩
      go_wp2_with fail
      refine (W_b.out _).mono ?_
      rintro e W2 ⟨rfl, rfl⟩
      go_wp2
      go_ret
      exact ⟨rfl, HB1.out⟩
    | true =>
      cases C with
      | false =>
        go_enter Tryd.func32, Tryd.ntmps32
        go_wp2_with fail
        refine (W_a.out _).mono ?_
        rintro e W2 ⟨rfl, rfl⟩
        go_wp2_with fail
        refine (W_b.out _).mono ?_
        rintro e W2 ⟨rfl, rfl⟩
        go_wp2_with fail
        refine (AK.out _ HB1.out).mono ?_
        rintro e W2 ⟨rfl, hb⟩
        have HX2 := Lib.hid (HX1.out.later hb)
        have HB2 := Lib.hid (chain2 HB1.out hb)
        have c2_2 : W2.cell? ⟨w.heap.size, 2, none⟩ = some (.int .i64 rg) := HX2.out.at 2 _ rfl
        have c1_2 : W2.cell? ⟨w.heap.size, 1, none⟩ = some (.int .i64 ps) := HX2.out.at 1 _ rfl
        have c4_2 : W2.cell? ⟨w.heap.size, 4, none⟩ = some (vk) := HX2.out.at 4 _ rfl
        have c3_2 : W2.cell? ⟨w.heap.size, 3, none⟩ = some (vc) := HX2.out.at 3 _ rfl
        clear hb
        go_wp2
        go_ret
        exact ⟨rfl, HB2.out⟩
      | true =>
        go_enter Tryd.func32, Tryd.ntmps32
        go_wp2_with fail
        refine (W_a.out _).mono ?_
        rintro e W2 ⟨rfl, rfl⟩
        go_wp2_with fail
        refine (W_b.out _).mono ?_
        rintro e W2 ⟨rfl, rfl⟩
        go_wp2_with fail
        refine (AK.out _ HB1.out).mono ?_
        rintro e W2 ⟨rfl, hb⟩
        have HX2 := Lib.hid (HX1.out.later hb)
        have HB2 := Lib.hid (chain2 HB1.out hb)
        have c2_2 : W2.cell? ⟨w.heap.size, 2, none⟩ = some (.int .i64 rg) := HX2.out.at 2 _ rfl
        have c1_2 : W2.cell? ⟨w.heap.size, 1, none⟩ = some (.int .i64 ps) := HX2.out.at 1 _ rfl
        have c4_2 : W2.cell? ⟨w.heap.size, 4, none⟩ = some (vk) := HX2.out.at 4 _ rfl
        have c3_2 : W2.cell? ⟨w.heap.size, 3, none⟩ = some (vc) := HX2.out.at 3 _ rfl
        clear hb
        go_wp2_with fail
        refine (AI.out _ HB2.out).mono ?_
        rintro e W3 ⟨rfl, hb⟩
        have HX3 := Lib.hid (HX2.out.later hb)
        have HB3 := Lib.hid (chain2 HB2.out hb)
        have c2_3 : W3.cell? ⟨w.heap.size, 2, none⟩ = some (.int .i64 rg) := HX3.out.at 2 _ rfl
        have c1_3 : W3.cell? ⟨w.heap.size, 1, none⟩ = some (.int .i64 ps) := HX3.out.at 1 _ rfl
        have c4_3 : W3.cell? ⟨w.heap.size, 4, none⟩ = some (vk) := HX3.out.at 4 _ rfl
        have c3_3 : W3.cell? ⟨w.heap.size, 3, none⟩ = some (vc) := HX3.out.at 3 _ rfl
        clear hb
        go_wp2
        go_ret
        exact ⟨rfl, HB3.out⟩

end Go.Proofs.YtmloljfnnkfkjaaDoor.Im

namespace Go.Proofs.YtmloljfnnkfkjaaDoor
open Go.RowKit

def wideB (n : Int) : Bool := n == 1 || n == 2 || n == 4 || n == 8

set_option maxHeartbeats 400000 in
theorem isWidth_any (n : Int) (w : World) : Calls Tryd.prog 83 #[.int .i64 n] w fun e w' => e = .returned (.bool (wideB n)) ∧ w = w' := by
  by_cases h1 : n = 1
  · subst h1
    go_enter Tryd.func83, Tryd.ntmps83
    go_wp2
    go_ret
    exact ⟨rfl, rfl⟩
  by_cases h2 : n = 2
  · subst h2
    go_enter Tryd.func83, Tryd.ntmps83
    go_wp2
    go_ret
    exact ⟨rfl, rfl⟩
  by_cases h4 : n = 4
  · subst h4
    go_enter Tryd.func83, Tryd.ntmps83
    go_wp2
    go_ret
    exact ⟨rfl, rfl⟩
  by_cases h8 : n = 8
  · subst h8
    go_enter Tryd.func83, Tryd.ntmps83
    go_wp2
    go_ret
    exact ⟨rfl, rfl⟩
  have e1 : (n == 1) = false := beq_eq_false_iff_ne.2 h1
  have e2 : (n == 2) = false := beq_eq_false_iff_ne.2 h2
  have e4 : (n == 4) = false := beq_eq_false_iff_ne.2 h4
  have e8 : (n == 8) = false := beq_eq_false_iff_ne.2 h8
  have hw : wideB n = false := by simp [wideB, e1, e2, e4, e8]
  rw [hw]
  clear h1 h2 h4 h8 hw
  go_enter Tryd.func83, Tryd.ntmps83
  go_wp2
  go_ret
  exact ⟨rfl, rfl⟩

theorem Tryd.info5 : (Tryd.prog.info? 5).map (fun i => (i.zero, i.size, i.bytes)) = some (some (.int .u8 0), 1, 1) := by kernel_rfl

/-- What the row of encode holds behind j rounds. -/
def encRow (u j : Nat) : Nat → Value := fun i => if i < j then .int .u8 ((u / 256 ^ i % 256 : Nat) : Int) else .int .u8 0

theorem cast_div (u j : Nat) : ((u / 256 ^ j : Nat) : Int) = (u : Int) / 256 ^ j := by
  rw [Int.natCast_ediv, Int.natCast_pow]; rfl

theorem encRow_set (u j : Nat) (i : Nat) : (if i = j then Value.int .u8 ((u : Int) / 256 ^ j % 256) else encRow u j i) = encRow u (j + 1) i := by
  unfold encRow
  by_cases h1 : i = j
  · subst h1; rw [if_pos rfl, if_pos (by omega), Int.natCast_emod, cast_div]; rfl
  · rw [if_neg h1]
    by_cases h2 : i < j
    · rw [if_pos h2, if_pos (by omega)]
    · rw [if_neg h2, if_neg (by omega)]

set_option maxHeartbeats 400000 in
theorem encode_any (u k : Nat) (w : World) (_hu : u < 2 ^ 64) (hk : k ≤ 8) :
    Calls Tryd.prog 44 #[.int .u64 u, .int .i64 k] w fun e w' => e = .returned (.string ⟨(Lib.leBytes k u).toArray⟩) ∧ Below w.heap.size w w' := by
  have hmk := fun w : World => run_make_row' (P := Tryd.prog) 74 5 (.int .u8 0) 1 Tryd.underlying74 Tryd.info5 rfl .i64 .i64 k (by omega) (by omega) w
  go_enter Tryd.func44, Tryd.ntmps44
  go_wp2
  clear hmk
  go_loopw [0, 11] (fun vn vi wr => ∃ j : Nat, j ≤ k ∧ vi = .int .i64 j ∧ vn = .int .u64 ((u : Int) / 256 ^ j) ∧ Hid (wr.rowIs w.heap.size 5 k (encRow u j)) ∧ Hid (Below w.heap.size w wr)) (fun _ vi _ => k - (intOf vi).toNat)
  case atStart => exact ⟨0, Nat.zero_le _, rfl, by simp, (World.rowIs_made w _ _ _).congr (fun i _ => by simp [encRow]), (Below.refl _ _).alloc (Nat.le_refl _) _⟩
  case round =>
    obtain ⟨j, hj, rfl, rfl, hrow, hbel⟩ := hrel
    have hf : wr.frozen? ⟨w.heap.size, j, none⟩ = false := hrow.out.frozen _
    have hc : j < k → wr.cell? ⟨w.heap.size, j, none⟩ = some (encRow u j j) := fun h => hrow.out.cell h
    by_cases hlt : j < k
    · have hc' := hc hlt
      clear hc
      go_wp2
      go_roundw
      case rel =>
        refine ⟨j + 1, by omega, by go_num, ?_, (hrow.out.set _ _).congr (fun i _ => encRow_set u j i), hbel.out.setCell (by simp) _⟩
        rw [← cast_div, ← cast_div, Nat.pow_succ, ← Nat.div_div_eq_div_mul]; rfl
      case measure => simp [intOf]; omega
    · obtain rfl : j = k := by omega
      have g := run_convert_bytes_back (P := Tryd.prog) wr 74 9 5 ⟨w.heap.size, 0, none⟩ j (Lib.leBytes j u) Tryd.underlying74 Tryd.underlying5 Tryd.underlying9 (fun i hi => by
        have hi' : i < j := by simpa [Lib.leBytes_length] using hi
        rw [show (⟨w.heap.size, 0, none⟩ : Addr).add i = ⟨w.heap.size, i, none⟩ by rw [Addr.add_lit, Nat.zero_add], hrow.out.cell hi', leBytes_at]
        simp [encRow, hi'])
      rw [Lib.leBytes_length] at g
      clear hc hf
      go_wp2
      go_ret
      exact ⟨rfl, hbel.out⟩

/-- What octet.fits answers. -/
def fitsB (n k : Int) : Bool := k == 8 || (decide (0 ≤ n) && decide (n < 2 ^ (8 * k).toNat))

set_option maxHeartbeats 400000 in
theorem fits_any (n k : Int) (w : World) (hk : k = 1 ∨ k = 2 ∨ k = 4 ∨ k = 8) : Calls Tryd.prog 84 #[.int .i64 n, .int .i64 k] w fun e w' => e = .returned (.bool (fitsB n k)) ∧ w = w' := by
  rcases hk with rfl | rfl | rfl | rfl
  all_goals
    by_cases h0 : 0 ≤ n
    all_goals
      go_enter Tryd.func84, Tryd.ntmps84
      go_wp2
      go_ret
      exact ⟨by first | (simp [fitsB, h0]; done) | (simp [fitsB]; omega), rfl⟩

theorem encode_int (x k : Int) (w : World) (h0 : 0 ≤ x) (h1 : x < 2 ^ 64) (k0 : 0 ≤ k) (k8 : k ≤ 8) :
    Calls Tryd.prog 44 #[.int .u64 x, .int .i64 k] w fun e w' => e = .returned (.string ⟨(Lib.leBytes k.toNat x.toNat).toArray⟩) ∧ Below w.heap.size w w' := by
  obtain ⟨u, rfl⟩ := Int.eq_ofNat_of_zero_le h0
  obtain ⟨j, rfl⟩ := Int.eq_ofNat_of_zero_le k0
  exact encode_any u j w (by omega) (by omega)

end Go.Proofs.YtmloljfnnkfkjaaDoor

