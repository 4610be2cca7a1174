/- The walk of chrysalisref01.Count: its contract. What the laws of units ask of the walks: their contracts at a unit that came in, at one that was read. The walk of ImageBuilds. What the listed variable gives: the table of formats lies where the walks want it; the world that the program's own start leaves. No condition but those that each states. -/
import Derived.Test.YtmloljfnnkfkjaaDoorMgAQ
import Derived.Test.YtmloljfnnkfkjaaDoorMgBF
import Derived.Test.YtmloljfnnkfkjaaDoorMgBH
import Derived.Test.YtmloljfnnkfkjaaDoorMgAC
import Derived.Test.YtmloljfnnkfkjaaDoorRows
import Derived.ProofKit
import Derived.LaidMore
namespace Go.Proofs.YtmloljfnnkfkjaaDoor.Im
open Go.RowKit Dk In

theorem wf_i64 {n : Int} (h : (Lit.int .i64 n).wf = true) : -9223372036854775808 ≤ n ∧ n ≤ 9223372036854775807 := by
  simp [Lit.wf, IntKind.min, IntKind.max, IntKind.signed, IntKind.bits] at h; omega
def cntI (n : Int) (m : Nat) : Int := if n < 0 then (-(n + 1)) % (m : Int) else n % (m : Int)
set_option maxHeartbeats 1000000 in
theorem cntI_any (n : Int) (m : Nat) (w : World) (hn : (Lit.int .i64 n).wf = true) (hm : 0 < m) (hm2 : m ≤ 1099511627776) :
    Calls Tryd.prog 17 #[.int .i64 n, .int .i64 (m : Int)] w fun e w' => e = .returned (.int .i64 (cntI n m)) ∧ w = w' := by
  obtain ⟨h1, h2⟩ := wf_i64 hn
  have g0 : (0 : Int) < (m : Int) := by omega
  have g1 : (m : Int) ≤ 1099511627776 := by omega
  by_cases h0 : n < 0
  · have e : Hid (cntI n m = (-(n + 1)) % (m : Int)) := Lib.hid (by unfold cntI; rw [if_pos h0])
    have t0 : decide (n < 0) = true := decide_eq_true h0
    go_enter Tryd.func17, Tryd.ntmps17
    go_wp2
    go_ret
    exact ⟨by rw [e.out, ← Int.tmod_eq_emod_of_nonneg (by omega), Int.neg_tmod]; rfl, rfl⟩
  · have e : Hid (cntI n m = n % (m : Int)) := Lib.hid (by unfold cntI; rw [if_neg h0])
    have t0 : decide (n < 0) = false := decide_eq_false h0
    have h3 : 0 ≤ n := by omega
    go_enter Tryd.func17, Tryd.ntmps17
    go_wp2
    go_ret
    exact ⟨by rw [e.out]; rfl, rfl⟩
theorem cntI_nat (n : Int) (m : Nat) (hm : 0 < m) : ∃ k : Nat, cntI n m = (k : Int) ∧ k < m := by
  have h1 := Int.emod_nonneg n (show (m : Int) ≠ 0 by omega)
  have h2 := Int.emod_lt_of_pos n (show (0 : Int) < (m : Int) by omega)
  have h3 := Int.emod_nonneg (-(n + 1)) (show (m : Int) ≠ 0 by omega)
  have h4 := Int.emod_lt_of_pos (-(n + 1)) (show (0 : Int) < (m : Int) by omega)
  unfold cntI
  split
  · exact ⟨((-(n + 1)) % (m : Int)).toNat, by omega, by omega⟩
  · exact ⟨(n % (m : Int)).toNat, by omega, by omega⟩


end Go.Proofs.YtmloljfnnkfkjaaDoor.Im

namespace Go.Proofs.YtmloljfnnkfkjaaDoor.Im
open Go.RowKit Dk In
open Go.ChangeShapes Go.WideShapes


theorem parse_cases (g : Ix → Ix) (s : List UInt8) : (∃ u t, rdUn g s = some (u, t) ∧ unB u = true ∧ encUn u = s ∧ parseU g s = (u, 0)) ∨ ∃ k : Int, (k = 2 ∨ k = 4) ∧ parseU g s = (Un.zero, k) := by
  unfold parseU
  cases hr : rdUn g s with
  | none => exact .inr ⟨2, .inl rfl, rfl⟩
  | some p =>
    obtain ⟨u, t⟩ := p
    by_cases h : unB u = true ∧ encUn u = s
    · exact .inl ⟨u, t, rfl, h.1, h.2, by simp only; rw [if_pos h]⟩
    · exact .inr ⟨4, .inr rfl, by simp only; rw [if_neg h]⟩
theorem smU_zero : SmU Un.zero := ⟨by decide, by decide, (fun x h => by cases h), by decide, (fun x h => by cases h)⟩
theorem build_yes {u : Un} (h : unB u = true) : buildU u = (encUn u, 0) := by unfold buildU; rw [if_pos h]
theorem build_no {u : Un} (h : unB u = false) : buildU u = ([], 4) := by unfold buildU; rw [if_neg (by rw [h]; decide)]
variable {X : Nat → Prop}
theorem conK (w : World) (HF : HasF w) : Hid (∀ W, Below w.heap.size w W → Calls Tryd.prog 9 #[] W fun e w' => e = .returned (.bool true) ∧ Below W.heap.size W w') := Lib.hid (fun W hb => known14 W (HF.later hb))
theorem conL {cs : List Value} {u : Un} (w : World) (hu : UC X w cs u) : Hid (∀ W, Below w.heap.size w W → Calls Tryd.prog 8 #[.agg cs.toArray] W (LightAns u W)) := Lib.hid (fun W hb => light_un W (hu.later hb))
theorem conB {cs : List Value} {u : Un} (w : World) (hu : UC X w cs u) (hs : SmU u) (HF : HasF w) {bs : List UInt8} {be : Int} (hb : buildU u = (bs, be)) : Hid (∀ W, Below w.heap.size w W → Calls Tryd.prog 10 #[.agg cs.toArray] W fun e w' => e = .returned (.tuple #[.string (Dk.strOf bs), .int .i64 be]) ∧ Below W.heap.size W w') :=
  Lib.hid (fun W hw => by have := ubuild_any W (hu.later hw) hs (HF.later hw); rw [hb] at this; exact this)
theorem conRB {cs : List Value} {u : Un} (w : World) (hu : UC X w cs u) (hs : SmU u) {bs : List UInt8} {be : Int} (hb : buildU u = (bs, be)) : Hid (∀ W, Below w.heap.size w W → Calls Tryd.prog 11 #[.agg cs.toArray] W fun e w' => e = .returned (.tuple #[.string (Dk.strOf bs), .int .i64 be]) ∧ Below W.heap.size W w') :=
  Lib.hid (fun W hw => by have := rbuild_un W (hu.later hw) hs; rw [hb] at this; exact this)
theorem conR {cs : List Value} {u : Un} (w : World) (hu : UC X w cs u) (hs : SmU u) (HF : HasF w) : Hid (∀ W, Below w.heap.size w W → Calls Tryd.prog 12 #[.agg cs.toArray] W fun e w' => e = .returned (.bool (unB u)) ∧ Below W.heap.size W w') :=
  Lib.hid (fun W hw => uright_any W (hu.later hw) hs (HF.later hw))
theorem conRR {cs : List Value} {u : Un} (w : World) (hu : UC X w cs u) (hs : SmU u) : Hid (∀ W, Below w.heap.size w W → Calls Tryd.prog 13 #[.agg cs.toArray] W fun e w' => e = .returned (.bool (unB u)) ∧ Below W.heap.size W w') :=
  Lib.hid (fun W hw => rright_un W (hu.later hw) hs)
theorem conP (s : List UInt8) (w : World) (hs : s.length ≤ 1099511627776) (HF : HasF w) {u : Un} {k : Int} (hp : parseU fixI s = (u, k)) : Hid (∀ W, Below w.heap.size w W → Calls Tryd.prog 14 #[.string (Dk.strOf s)] W (ParseAny (u, k) W)) :=
  Lib.hid (fun W hw => by have := uparse_any s W hs (HF.later hw); rw [hp] at this; exact this)
theorem five_cells {a : ByteArray} {ver fu : Int} {x y : Value} {w W : World} {b : Nat} (h : SE w W b [.string a, .int .i64 ver, x, .int .i64 fu, y]) : W.cell? ⟨b, 0, none⟩ = some (.string a) ∧ W.cell? ⟨b, 1, none⟩ = some (.int .i64 ver) ∧ W.cell? ⟨b, 2, none⟩ = some x ∧ W.cell? ⟨b, 3, none⟩ = some (.int .i64 fu) ∧ W.cell? ⟨b, 4, none⟩ = some y :=
  ⟨h.el.at 0 _ rfl, h.el.at 1 _ rfl, h.el.at 2 _ rfl, h.el.at 3 _ rfl, h.el.at 4 _ rfl⟩
theorem uc_len {X : Nat → Prop} {W : World} {cs : List Value} {u : Un} (h : UC X W cs u) : cs.length = 5 := (uc_ones h).1

end Go.Proofs.YtmloljfnnkfkjaaDoor.Im

namespace Go.Proofs.YtmloljfnnkfkjaaDoor.Im
open Go.RowKit Dk In
open Go.ChangeShapes Go.WideShapes

set_option maxHeartbeats 4000000 in
set_option maxRecDepth 100000 in
theorem imageBuilds_raw {H : Type} {enc : TypeId × Value → H} {b0 : Nat} {v : Value} {d : DataW H} {p : List MemPlace} {w : World} (hv : Value.okWide Tryd.prog w .any b0 25 v) (h : DataW.Trod enc Tryd.prog w 0 (fun _ => true) true 25 v d p) (HF : HasF w) :
    Calls Tryd.prog 3 #[v] w fun e w' => e = .returned (.bool true) ∧ Below w.heap.size w w' := by
  obtain ⟨cs, u, rfl, huc, hfit⟩ := open_un hv h
  clear hv h
  have HCSX : ∃ (a2 a4 : Option Addr) (n2 n4 c2 c4 : Nat), cs = [.string (Dk.strOf u.nm), .int .i64 u.ver, .slice a2 n2 c2, .int .i64 u.funs, .slice a4 n4 c4] := by
    obtain ⟨vu, vp, e, h1, css, h2, -⟩ := huc
    obtain ⟨p1, c1, e1⟩ := Row.form h1
    obtain ⟨p2, c2, e2⟩ := Row.form h2
    exact ⟨p1, p2, _, _, c1, c2, by rw [e, e1, e2]⟩
  obtain ⟨a2, a4, n2, n4, c2, c4, hcs⟩ := HCSX
  have HCS := Lib.hid hcs
  clear hcs
  obtain ⟨W1, hW1⟩ : ∃ W1, W1 = w.alloc (.cells cs.toArray 25) := ⟨_, rfl⟩
  have HX1 : Hid (El W1 w.heap.size cs) := Lib.hid (by rw [hW1]; exact el_new w cs _)
  have HB1 : Hid (Below w.heap.size w W1) := Lib.hid (by rw [hW1]; exact (Below.refl _ _).alloc (Nat.le_refl _) _)
  have hW2 := hW1.symm
  have HI := Lib.hid (u_info cs (uc_len huc))
  clear hW1
  have K := conK w HF
  have LI := conL w huc
  obtain ⟨bs, be, hbu⟩ : ∃ a b, buildU u = (a, b) := ⟨_, _, rfl⟩
  have BU := fun hs => conB w huc hs HF hbu
  have RB := fun hs => conRB w huc hs hbu
  have RI := fun hs => conR w huc hs HF
  have RR := fun hs => conRR w huc hs
  clear hbu HF huc hfit
  go_enter Tryd.func3, Tryd.ntmps3
  go_wp2_with (first | (refine wpList_load_mid rfl 25 (.tmp 1) rfl w.heap.size 0 rfl cs _ HX1.out.cells Tryd.underlying25 rfl HI.out ?_) | (refine wpList_load_want (by rfl) 25 (.tmp 1) rfl w.heap.size 0 rfl cs _ HX1.out.cells Tryd.underlying25 rfl HI.out ?_))
  refine (LI.out _ HB1.out).mono ?_
  rintro e W2 ⟨bl, rfl, hsm, hb⟩
  have HX2 := Lib.hid (HX1.out.later hb)
  have HB2 := Lib.hid (chain2 HB1.out hb)
  clear hb
  cases bl with
  | false =>
    clear BU RB RI RR LI hsm
    go_wp2_with (first | (refine wpList_load_mid rfl 25 (.tmp 1) rfl w.heap.size 0 rfl cs _ HX2.out.cells Tryd.underlying25 rfl HI.out ?_) | (refine wpList_load_want (by rfl) 25 (.tmp 1) rfl w.heap.size 0 rfl cs _ HX2.out.cells Tryd.underlying25 rfl HI.out ?_))
    refine (K.out _ HB2.out).mono ?_
    rintro e W3 ⟨rfl, hb⟩
    have HX3 := Lib.hid (HX2.out.later hb)
    have HB3 := Lib.hid (chain2 HB2.out hb)
    clear hb
    go_wp2
    go_ret
    exact ⟨by first | rfl | trivial, HB3.out⟩
  | true =>
    have hs := hsm rfl
    replace BU := BU hs
    replace RB := RB hs
    replace RI := RI hs
    replace RR := RR hs
    clear hsm LI hs
    go_wp2_with (first | (refine wpList_load_mid rfl 25 (.tmp 1) rfl w.heap.size 0 rfl cs _ HX2.out.cells Tryd.underlying25 rfl HI.out ?_) | (refine wpList_load_want (by rfl) 25 (.tmp 1) rfl w.heap.size 0 rfl cs _ HX2.out.cells Tryd.underlying25 rfl HI.out ?_))
    refine (BU.out _ HB2.out).mono ?_
    rintro e W3 ⟨rfl, hb⟩
    have HX3 := Lib.hid (HX2.out.later hb)
    have HB3 := Lib.hid (chain2 HB2.out hb)
    clear hb
    go_wp2_with (first | (refine wpList_load_mid rfl 25 (.tmp 1) rfl w.heap.size 0 rfl cs _ HX3.out.cells Tryd.underlying25 rfl HI.out ?_) | (refine wpList_load_want (by rfl) 25 (.tmp 1) rfl w.heap.size 0 rfl cs _ HX3.out.cells Tryd.underlying25 rfl HI.out ?_))
    refine (RB.out _ HB3.out).mono ?_
    rintro e W4 ⟨rfl, hb⟩
    have HX4 := Lib.hid (HX3.out.later hb)
    have HB4 := Lib.hid (chain2 HB3.out hb)
    clear hb
    have e0 : ((Dk.strOf bs).toList == (Dk.strOf bs).toList) = true := by simp
    have e1 : ((be == be) : Bool) = true := by simp
    have e2 : ((unB u == unB u) : Bool) = true := by simp
    generalize Dk.strOf bs = ss at *
    generalize unB u = ub at *
    have HSE : Hid (SE w W4 w.heap.size [.string (Dk.strOf u.nm), .int .i64 u.ver, .slice a2 n2 c2, .int .i64 u.funs, .slice a4 n4 c4]) := Lib.hid ⟨by have := HX4.out; rw [HCS.out] at this; exact this, HB4.out⟩
    have RI2 : Hid (∀ W, SE w W w.heap.size [.string (Dk.strOf u.nm), .int .i64 u.ver, .slice a2 n2 c2, .int .i64 u.funs, .slice a4 n4 c4] → Calls Tryd.prog 12 #[.agg #[.string (Dk.strOf u.nm), .int .i64 u.ver, .slice a2 n2 c2, .int .i64 u.funs, .slice a4 n4 c4]] W fun e w' => e = .returned (.bool ub) ∧ Below W.heap.size W w') := Lib.hid (fun W h => by have := RI.out W h.below; rw [HCS.out] at this; exact this)
    have RR2 : Hid (∀ W, SE w W w.heap.size [.string (Dk.strOf u.nm), .int .i64 u.ver, .slice a2 n2 c2, .int .i64 u.funs, .slice a4 n4 c4] → Calls Tryd.prog 13 #[.agg #[.string (Dk.strOf u.nm), .int .i64 u.ver, .slice a2 n2 c2, .int .i64 u.funs, .slice a4 n4 c4]] W fun e w' => e = .returned (.bool ub) ∧ Below W.heap.size W w') := Lib.hid (fun W h => by have := RR.out W h.below; rw [HCS.out] at this; exact this)
    have K2 : Hid (∀ W, SE w W w.heap.size [.string (Dk.strOf u.nm), .int .i64 u.ver, .slice a2 n2 c2, .int .i64 u.funs, .slice a4 n4 c4] → Calls Tryd.prog 9 #[] W fun e w' => e = .returned (.bool true) ∧ Below W.heap.size W w') := Lib.hid (fun W h => K.out W h.below)
    clear RI RR K HX4 HB4 HI
    have h0 := SE.drew HSE.out
    have h1 := HSE.out
    generalize Dk.strOf u.nm = sn at *
    generalize u.ver = sv at *
    generalize u.funs = sf at *
    go_wp2_with fail
    go_region_held3 (fun W => W.cell? ⟨w.heap.size, 0, none⟩ = some (.string sn) ∧ W.cell? ⟨w.heap.size, 1, none⟩ = some (.int .i64 sv) ∧ W.cell? ⟨w.heap.size, 2, none⟩ = some (.slice a2 n2 c2) ∧ W.cell? ⟨w.heap.size, 3, none⟩ = some (.int .i64 sf) ∧ W.cell? ⟨w.heap.size, 4, none⟩ = some (.slice a4 n4 c4)) (first | exact five_cells (by assumption) | go_keep) (first
      | (go_at_call 12; (with_reducible refine (RI2.out _ (by assumption)).mono ?_); rintro e V4 ⟨rfl, hb⟩; have hq := SE.later (b := w.heap.size) (cs := [.string sn, .int .i64 sv, .slice a2 n2 c2, .int .i64 sf, .slice a4 n4 c4]) (by assumption) hb; clear hb)
      | (go_at_call 13; (with_reducible refine (RR2.out _ (by assumption)).mono ?_); rintro e V4 ⟨rfl, hb⟩; have hq := SE.later (b := w.heap.size) (cs := [.string sn, .int .i64 sv, .slice a2 n2 c2, .int .i64 sf, .slice a4 n4 c4]) (by assumption) hb; clear hb)
      | (go_at_call 9; (with_reducible refine (K2.out _ (by assumption)).mono ?_); rintro e V4 ⟨rfl, hb⟩; have hq := SE.later (b := w.heap.size) (cs := [.string sn, .int .i64 sv, .slice a2 n2 c2, .int .i64 sf, .slice a4 n4 c4]) (by assumption) hb; clear hb))
    have HXF := Lib.hid (‹SE w V4 w.heap.size [.string sn, .int .i64 sv, .slice a2 n2 c2, .int .i64 sf, .slice a4 n4 c4]›)
    go_wp2
    go_ret
    exact ⟨by first | rfl | trivial, HXF.out.below⟩
end Go.Proofs.YtmloljfnnkfkjaaDoor.Im

namespace Go.Proofs.YtmloljfnnkfkjaaDoor.In
open Go.RowKit Lib

/-- The list of the seat's rows. -/
abbrev laidF : List (String × DataW Unit) := Rows.imageBuildsRow.laid

theorem door_met (os : Os) (args : Array Value) : laidMetH Tryd.prog laidF ((World.doorLaid Tryd.prog 52 os).forCall (fun _ _ => 0) ⟨#[], args, []⟩).memory :=
  laidMetH_of_parts3 (fuel := 8) (laidMet_of_run' 8 (by kernel_rfl) (by kernel_rfl)) (by kernel_rfl) (by kernel_rfl)

set_option maxRecDepth 100000 in
theorem laid_is : laidF = [("chrysalis/inst.formats", .agg (ops.map fun r => .agg [.lit (.string r.1), .lit (.string r.2)]))] := rfl

set_option maxRecDepth 100000 in
theorem hasF_of_laid {W : World} (h : laidMetH Tryd.prog laidF W) : HasF W := by
  rw [MakeChecks.laidMetH_plain _ _ _ (by kernel_rfl), laid_is] at h
  have hg : Tryd.prog.globalNamed "chrysalis/inst.formats" = some 0 := by kernel_rfl
  obtain ⟨ps, ⟨g', t', cs, fuel, p, q, hg', ht', hvar, hd, _, _⟩, _⟩ := h
  obtain rfl := Option.some.inj (hg.symm.trans hg')
  obtain rfl := Option.some.inj ((show (Tryd.prog.globals[0]?).map (·.type) = some 133 by kernel_rfl).symm.trans ht')
  have key := cells_of_pairs Tryd.underlying133 Tryd.underlying132 Tryd.underlying9 ⟨rfl, rfl⟩ ⟨rfl, rfl⟩ (by kernel_rfl) (by kernel_rfl) (by kernel_rfl) hd
  have hc := World.var?_cell hg hvar
  have hrow : ∀ k, k < 38 → ops[k]? = some (ops.getD k ([], [])) := fun k hk => by
    have hl : k < ops.length := by rw [rows_len]; exact hk
    rw [List.getD_eq_getElem?_getD, List.getElem?_eq_getElem hl]; rfl
  refine ⟨?_, fun k hk => ?_, fun k hk => ?_⟩
  · have h0 := hc 0
    rcases Nat.lt_or_ge 0 W.heap.size with h1 | h1
    · exact h1
    · have hn : W.heap[0]? = none := Array.getElem?_eq_none h1
      have := (key 0 _ (hrow 0 (by decide))).1
      simp [World.cell?, hn] at h0
      simp [h0] at this
  · have := (key k _ (hrow k hk)).1
    rw [hc (k * 2)]
    simpa using this
  · have := (key k _ (hrow k hk)).2
    rw [hc (k * 2 + 1)]
    simpa using this

end Go.Proofs.YtmloljfnnkfkjaaDoor.In

