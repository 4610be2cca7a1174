/- The walk of the document's Right: its contract. No condition but those that each states. -/
import Derived.Test.YtmloljfnnkfkjaaDoorMgBB
namespace Go.Proofs.YtmloljfnnkfkjaaDoor.Im
open Go.RowKit Dk In
variable {X : Nat → Prop}

theorem un_iff (u : Un) : unB u = true ↔ Lx.isName u.nm = true ∧ inB u.ver 1 2147483647 = true ∧ u.uses.length ≤ 16 ∧ inB u.funs 0 32 = true ∧ u.funs ≤ (u.prs.length : Int) ∧ u.prs.length ≤ 64 ∧ (∀ x ∈ u.uses, useB x = true) ∧ ∀ (i : Nat) (p : Pr), u.prs[i]? = some p → topB (decide ((i : Int) < u.funs)) p = true := by
  have hm : (0 ≤ u.funs ∧ u.funs ≤ min 32 (u.prs.length : Int)) ↔ ((0 ≤ u.funs ∧ u.funs ≤ 32) ∧ u.funs ≤ (u.prs.length : Int)) := by omega
  unfold unB
  simp only [Bool.and_eq_true, inB_iff, allB_iff, hm]
  constructor
  · rintro ⟨⟨⟨⟨⟨⟨h1, h2⟩, h3⟩, h4⟩, h5⟩, h6⟩, h7⟩
    refine ⟨h1, h2, h3.1, h5.1, h5.2, h4.1, h3.2, fun i p hp => ?_⟩
    obtain ⟨hi, he⟩ := List.getElem?_eq_some_iff.1 hp
    have h8 := h4.2 p (List.mem_of_getElem? hp)
    unfold topB
    rw [h8, Bool.true_and]
    by_cases hf : (i : Int) < u.funs
    · rw [decide_eq_true hf, if_pos rfl]
      exact h6.2 p (List.mem_take_iff_getElem.2 ⟨i, by omega, he⟩)
    · rw [decide_eq_false hf, if_neg Bool.false_ne_true]
      refine h7.2 p (List.mem_drop_iff_getElem.2 ⟨i - u.funs.toNat, by omega, ?_⟩)
      simp only [show u.funs.toNat + (i - u.funs.toNat) = i by omega]
      exact he
  · rintro ⟨h1, h2, h3, h4, h5, h6, h7, h8⟩
    refine ⟨⟨⟨⟨⟨⟨h1, h2⟩, h3, h7⟩, h6, fun p hp => ?_⟩, h4, h5⟩, by rw [List.length_take]; omega, fun p hp => ?_⟩, by rw [List.length_drop]; omega, fun p hp => ?_⟩
    · obtain ⟨i, hi, rfl⟩ := List.getElem_of_mem hp
      have := h8 i _ (List.getElem?_eq_getElem hi)
      unfold topB at this
      rw [Bool.and_eq_true] at this
      exact this.1
    · obtain ⟨i, hi, rfl⟩ := List.mem_take_iff_getElem.1 hp
      have := h8 i _ (List.getElem?_eq_getElem (by omega))
      unfold topB at this
      rw [decide_eq_true (show (i : Int) < u.funs by omega), Bool.and_eq_true, if_pos rfl] at this
      exact this.2
    · obtain ⟨i, hi, rfl⟩ := List.mem_drop_iff_getElem.1 hp
      have := h8 (u.funs.toNat + i) _ (List.getElem?_eq_getElem (by omega))
      unfold topB at this
      rw [decide_eq_false (show ¬((u.funs.toNat + i : Nat) : Int) < u.funs by omega), Bool.and_eq_true, if_neg Bool.false_ne_true] at this
      exact this.2
theorem exec_load_mid {P : Program} {o : Oper} {a : Act} {W : World} (ty : TypeId) (x : Operand) (ho : o.op = .load ty x) (b p : Nat) (hx : a.eval x = .pointer (some ⟨b, p, none⟩)) (cs : List Value) (d : TypeDesc) (hc : W.rangeAt b p cs)
    (hu : P.underlying ty = some d) (hd : d.isRow = true) (hi : (P.info? ty).map (·.size) = some cs.length) : (execOp a.eval o).run P W = .ok (.value (.agg cs.toArray)) W := by
  have hl := run_loadVar_mid (P := P) W b p ty cs d hc hu hd hi
  unfold execOp
  simp only [ho, hx, Instr.loadAt, Instr.sureAddr, Sem.run_bind, Sem.run_pure, Result.andThen_ok, hl]
theorem still_load {P : Program} {ops : Array Oper} {w : World} {Q : Act → Prop} {rest : List Oper} {op : Oper} {a : Act} (hw : Region.wanted op (yielded ops a.tmps) = true) (ty : TypeId) (x : Operand) (ho : op.op = .load ty x)
    (b o : Nat) (hx : a.eval x = .pointer (some ⟨b, o, none⟩)) (cs : List Value) (d : TypeDesc) (hc : w.rangeAt b o cs)
    (hu : P.underlying ty = some d) (hd : d.isRow = true) (hi : (P.info? ty).map (·.size) = some cs.length)
    (h : wpStill P ops w Q rest (a.put op.dst (.agg cs.toArray))) : wpStill P ops w Q (op :: rest) a := by
  unfold wpStill
  rw [if_pos hw]
  unfold Oper.still
  rw [exec_load_mid ty x ho b o hx cs d hc hu hd hi, Oper.stillUpon_value]
  exact h
theorem us_info (x : Us) : (Tryd.prog.info? 43).map (·.size) = some x.cells.length := by kernel_rfl
theorem pc_info (cs : List Value) (h : cs.length = 6) : (Tryd.prog.info? 38).map (·.size) = some cs.length := by rw [h]; kernel_rfl
theorem PRow.el {W : World} {p : Option Addr} {n k : Nat} {l : List Pr} (h : PRow X W (.slice p n k) l) :
    n = l.length ∧ ∀ (i : Nat) (x : Pr), l[i]? = some x → ∃ g o cs, p = some ⟨g, o, none⟩ ∧ g < W.heap.size ∧ W.rangeAt g (o + i * 6) cs ∧ PC X W cs x := by
  obtain ⟨css, h1, h2⟩ := h
  have hl := h2.len
  have hn := Row.len h1
  refine ⟨by omega, fun i x hx => ?_⟩
  obtain ⟨hi, he⟩ := List.getElem?_eq_some_iff.1 hx
  obtain ⟨g, o, hp, hg, hr⟩ := h1.at h2.six i (by omega)
  exact ⟨g, o, _, hp, hg.2, hr, h2.at' i _ x (List.getElem?_eq_getElem (by omega)) hx⟩

set_option maxHeartbeats 4000000 in
set_option maxRecDepth 100000 in
theorem rright_un {cs : List Value} {u : Un} (w : World) (hu : UC X w cs u) (hs : SmU u) : Calls Tryd.prog 13 #[.agg cs.toArray] w fun e w' => e = .returned (.bool (unB u)) ∧ Below w.heap.size w w' := by
  obtain ⟨vu, vp, rfl, h1, h2⟩ := hu
  obtain ⟨pu, ku, hv1⟩ := Row.form h1
  obtain ⟨pp, np, kp, hv2⟩ : ∃ pp np kp, vp = .slice pp np kp := by
    obtain ⟨css, h3, -⟩ := h2
    obtain ⟨a, b, e⟩ := Row.form h3
    exact ⟨a, _, b, e⟩
  rw [List.length_map] at hv1
  subst hv1 hv2
  have V1 := Lib.hid (Rw.el (Z := 3) h1 (fun _ => rfl)).2
  obtain ⟨hnp, hV2⟩ := PRow.el h2
  have V2 := Lib.hid hV2
  have NM := Lib.hid (fun W => Lx.rname_any u.nm W hs.nm)
  have HT := Lib.hid ((un_iff u).2)
  have HB := Lib.hid ((un_iff u).1)
  have I1 := Lib.hid (fun W => in_any u.ver 1 2147483647 W)
  have I2 := Lib.hid (fun W => in_any u.funs 0 32 W)
  have HNU := Lib.hid (fun (x : Us) (hx : x ∈ u.uses) => hs.use x hx)
  have HNP := Lib.hid (fun (x : Pr) (hx : x ∈ u.prs) => hs.pr x hx)
  have hlu := hs.uses
  have hlp := hs.prs
  obtain ⟨nm, ver, uses, fu, prs⟩ := u
  simp only at HT HB V1 V2 hlu hlp hnp HNU HNP
  replace NM : Hid (∀ W, Calls Tryd.prog 35 #[.string (strOf nm)] W fun e w' => e = .returned (.bool (Lx.isName nm)) ∧ Below W.heap.size W w') := NM
  replace I1 : Hid (∀ W, Calls Tryd.prog 36 #[.int .i64 ver, .int .i64 1, .int .i64 2147483647] W fun e w' => e = .returned (.bool (inB ver 1 2147483647)) ∧ W = w') := I1
  replace I2 : Hid (∀ W, Calls Tryd.prog 36 #[.int .i64 fu, .int .i64 0, .int .i64 32] W fun e w' => e = .returned (.bool (inB fu 0 32)) ∧ W = w') := I2
  show Calls _ _ #[.agg #[.string (strOf nm), .int .i64 ver, .slice pu uses.length ku, .int .i64 fu, .slice pp np kp]] w _
  obtain ⟨nu, hnu⟩ : ∃ n, n = uses.length := ⟨_, rfl⟩
  rw [← hnu] at HT HB hlu ⊢
  rw [← hnp] at HT HB hlp
  have HNU2 := Lib.hid hnu
  have HNP2 := Lib.hid hnp
  generalize hR : unB ⟨nm, ver, uses, fu, prs⟩ = R at *
  obtain ⟨W1, hW1⟩ : ∃ W1, W1 = w.alloc (.cells #[.string (strOf nm), .int .i64 ver, .slice pu nu ku, .int .i64 fu, .slice pp np kp] 25) := ⟨_, rfl⟩
  have HX1 : Hid (SE w W1 w.heap.size [.string (strOf nm), .int .i64 ver, .slice pu nu ku, .int .i64 fu, .slice pp np kp]) := Lib.hid (by rw [hW1]; exact se_new w [.string (strOf nm), .int .i64 ver, .slice pu nu ku, .int .i64 fu, .slice pp np kp] _)
  have hW2 := hW1.symm
  generalize strOf nm = sn at *
  generalize hA : Lx.isName nm = A at *
  generalize hB : inB ver 1 2147483647 = B at *
  generalize hC : inB fu 0 32 = C at *
  have HF : Hid (R ≠ true → R = false) := Lib.hid (by cases R <;> simp)
  have c0_1 : W1.cell? ⟨w.heap.size, 0, none⟩ = some (.string sn) := HX1.out.el.at 0 _ rfl
  clear hW1 h1 h2 hs hnu hnp hR hA hB hC hV2
  cases A with
  | false =>
    have hR : R = false := HF.out (fun k => by have := HB.out k; simp at this)
    subst hR
    go_enter Tryd.func13, Tryd.ntmps13
    go_wp2_with fail
    refine (NM.out _).mono ?_
    rintro e W2 ⟨rfl, hb⟩
    have HX2 := Lib.hid (HX1.out.later hb)
    clear hb NM
    have c1_2 : W2.cell? ⟨w.heap.size, 1, none⟩ = some (.int .i64 ver) := HX2.out.el.at 1 _ rfl
    have c2_2 : W2.cell? ⟨w.heap.size, 2, none⟩ = some (.slice pu nu ku) := HX2.out.el.at 2 _ rfl
    have c3_2 : W2.cell? ⟨w.heap.size, 3, none⟩ = some (.int .i64 fu) := HX2.out.el.at 3 _ rfl
    have c4_2 : W2.cell? ⟨w.heap.size, 4, none⟩ = some (.slice pp np kp) := HX2.out.el.at 4 _ rfl
    go_wp2
    go_ret
    exact ⟨rfl, HX2.out.below⟩
  | true =>
    cases B with
    | false =>
      have hR : R = false := HF.out (fun k => by have := HB.out k; simp at this)
      subst hR
      go_enter Tryd.func13, Tryd.ntmps13
      go_wp2_with fail
      refine (NM.out _).mono ?_
      rintro e W2 ⟨rfl, hb⟩
      have HX2 := Lib.hid (HX1.out.later hb)
      clear hb NM
      have c1_2 : W2.cell? ⟨w.heap.size, 1, none⟩ = some (.int .i64 ver) := HX2.out.el.at 1 _ rfl
      have c2_2 : W2.cell? ⟨w.heap.size, 2, none⟩ = some (.slice pu nu ku) := HX2.out.el.at 2 _ rfl
      have c3_2 : W2.cell? ⟨w.heap.size, 3, none⟩ = some (.int .i64 fu) := HX2.out.el.at 3 _ rfl
      have c4_2 : W2.cell? ⟨w.heap.size, 4, none⟩ = some (.slice pp np kp) := HX2.out.el.at 4 _ rfl
      go_wp2_with fail
      refine (I1.out _).mono ?_
      rintro e W9 ⟨rfl, rfl⟩
      go_wp2
      go_ret
      exact ⟨rfl, HX2.out.below⟩
    | true =>
      by_cases g0 : (nu : Int) > 16
      · have hR : R = false := HF.out (fun k => by have := HB.out k; omega)
        subst hR
        go_enter Tryd.func13, Tryd.ntmps13
        go_wp2_with fail
        refine (NM.out _).mono ?_
        rintro e W2 ⟨rfl, hb⟩
        have HX2 := Lib.hid (HX1.out.later hb)
        clear hb NM
        have c1_2 : W2.cell? ⟨w.heap.size, 1, none⟩ = some (.int .i64 ver) := HX2.out.el.at 1 _ rfl
        have c2_2 : W2.cell? ⟨w.heap.size, 2, none⟩ = some (.slice pu nu ku) := HX2.out.el.at 2 _ rfl
        have c3_2 : W2.cell? ⟨w.heap.size, 3, none⟩ = some (.int .i64 fu) := HX2.out.el.at 3 _ rfl
        have c4_2 : W2.cell? ⟨w.heap.size, 4, none⟩ = some (.slice pp np kp) := HX2.out.el.at 4 _ rfl
        go_wp2_with fail
        refine (I1.out _).mono ?_
        rintro e W9 ⟨rfl, rfl⟩
        go_wp2
        go_ret
        exact ⟨rfl, HX2.out.below⟩
      cases C with
      | false =>
        have hR : R = false := HF.out (fun k => by have := HB.out k; simp at this)
        subst hR
        go_enter Tryd.func13, Tryd.ntmps13
        go_wp2_with fail
        refine (NM.out _).mono ?_
        rintro e W2 ⟨rfl, hb⟩
        have HX2 := Lib.hid (HX1.out.later hb)
        clear hb NM
        have c1_2 : W2.cell? ⟨w.heap.size, 1, none⟩ = some (.int .i64 ver) := HX2.out.el.at 1 _ rfl
        have c2_2 : W2.cell? ⟨w.heap.size, 2, none⟩ = some (.slice pu nu ku) := HX2.out.el.at 2 _ rfl
        have c3_2 : W2.cell? ⟨w.heap.size, 3, none⟩ = some (.int .i64 fu) := HX2.out.el.at 3 _ rfl
        have c4_2 : W2.cell? ⟨w.heap.size, 4, none⟩ = some (.slice pp np kp) := HX2.out.el.at 4 _ rfl
        go_wp2_with fail
        refine (I1.out _).mono ?_
        rintro e W9 ⟨rfl, rfl⟩
        go_wp2_with fail
        refine (I2.out _).mono ?_
        rintro e W9 ⟨rfl, rfl⟩
        go_wp2
        go_ret
        exact ⟨rfl, HX2.out.below⟩
      | true =>
        by_cases g1 : fu > (np : Int)
        · have hR : R = false := HF.out (fun k => by have := HB.out k; omega)
          subst hR
          go_enter Tryd.func13, Tryd.ntmps13
          go_wp2_with fail
          refine (NM.out _).mono ?_
          rintro e W2 ⟨rfl, hb⟩
          have HX2 := Lib.hid (HX1.out.later hb)
          clear hb NM
          have c1_2 : W2.cell? ⟨w.heap.size, 1, none⟩ = some (.int .i64 ver) := HX2.out.el.at 1 _ rfl
          have c2_2 : W2.cell? ⟨w.heap.size, 2, none⟩ = some (.slice pu nu ku) := HX2.out.el.at 2 _ rfl
          have c3_2 : W2.cell? ⟨w.heap.size, 3, none⟩ = some (.int .i64 fu) := HX2.out.el.at 3 _ rfl
          have c4_2 : W2.cell? ⟨w.heap.size, 4, none⟩ = some (.slice pp np kp) := HX2.out.el.at 4 _ rfl
          go_wp2_with fail
          refine (I1.out _).mono ?_
          rintro e W9 ⟨rfl, rfl⟩
          go_wp2_with fail
          refine (I2.out _).mono ?_
          rintro e W9 ⟨rfl, rfl⟩
          go_wp2
          go_ret
          exact ⟨rfl, HX2.out.below⟩
        by_cases g2 : (np : Int) > 64
        · have hR : R = false := HF.out (fun k => by have := HB.out k; omega)
          subst hR
          go_enter Tryd.func13, Tryd.ntmps13
          go_wp2_with fail
          refine (NM.out _).mono ?_
          rintro e W2 ⟨rfl, hb⟩
          have HX2 := Lib.hid (HX1.out.later hb)
          clear hb NM
          have c1_2 : W2.cell? ⟨w.heap.size, 1, none⟩ = some (.int .i64 ver) := HX2.out.el.at 1 _ rfl
          have c2_2 : W2.cell? ⟨w.heap.size, 2, none⟩ = some (.slice pu nu ku) := HX2.out.el.at 2 _ rfl
          have c3_2 : W2.cell? ⟨w.heap.size, 3, none⟩ = some (.int .i64 fu) := HX2.out.el.at 3 _ rfl
          have c4_2 : W2.cell? ⟨w.heap.size, 4, none⟩ = some (.slice pp np kp) := HX2.out.el.at 4 _ rfl
          go_wp2_with fail
          refine (I1.out _).mono ?_
          rintro e W9 ⟨rfl, rfl⟩
          go_wp2_with fail
          refine (I2.out _).mono ?_
          rintro e W9 ⟨rfl, rfl⟩
          go_wp2
          go_ret
          exact ⟨rfl, HX2.out.below⟩
        have HR0 : Hid ((∀ x ∈ uses, useB x = true) → (∀ (i : Nat) (p : Pr), prs[i]? = some p → topB (decide ((i : Int) < fu)) p = true) → R = true) := Lib.hid (fun a b => HT.out ⟨rfl, rfl, by omega, rfl, by omega, by omega, a, b⟩)
        have HB1 : Hid (∀ x ∈ uses, useB x = false → R = false) := Lib.hid (fun x hx hq => HF.out (fun k => by have := (HB.out k).2.2.2.2.2.2.1 x hx; rw [hq] at this; cases this))
        have HB2 : Hid (∀ (i : Nat) (p : Pr), prs[i]? = some p → topB (decide ((i : Int) < fu)) p = false → R = false) := Lib.hid (fun i x hx hq => HF.out (fun k => by have := (HB.out k).2.2.2.2.2.2.2 i x hx; rw [hq] at this; cases this))
        clear HT HB
        go_enter Tryd.func13, Tryd.ntmps13
        go_wp2_with fail
        refine (NM.out _).mono ?_
        rintro e W2 ⟨rfl, hb⟩
        have HX2 := Lib.hid (HX1.out.later hb)
        clear hb NM
        have c1_2 : W2.cell? ⟨w.heap.size, 1, none⟩ = some (.int .i64 ver) := HX2.out.el.at 1 _ rfl
        have c2_2 : W2.cell? ⟨w.heap.size, 2, none⟩ = some (.slice pu nu ku) := HX2.out.el.at 2 _ rfl
        have c3_2 : W2.cell? ⟨w.heap.size, 3, none⟩ = some (.int .i64 fu) := HX2.out.el.at 3 _ rfl
        have c4_2 : W2.cell? ⟨w.heap.size, 4, none⟩ = some (.slice pp np kp) := HX2.out.el.at 4 _ rfl
        go_wp2_with fail
        refine (I1.out _).mono ?_
        rintro e W9 ⟨rfl, rfl⟩
        go_wp2_with fail
        refine (I2.out _).mono ?_
        rintro e W9 ⟨rfl, rfl⟩
        go_wp2
        clear g0 g1 g2 c0_1 c1_2 c2_2 c3_2 c4_2 I1 I2
        go_loopw [3] (fun vi wr => ∃ i : Nat, i ≤ nu ∧ vi = .int .i64 (i : Int) ∧ Hid (SE w wr w.heap.size [.string sn, .int .i64 ver, .slice pu nu ku, .int .i64 fu, .slice pp np kp]) ∧ Hid (∀ (j : Nat) x, j < i → uses[j]? = some x → useB x = true)) (fun vi _ => nu - (intOf vi).toNat)
        case atStart => exact ⟨0, Nat.zero_le _, rfl, HX2, Lib.hid (fun j x hj => absurd hj (Nat.not_lt_zero _))⟩
        case round =>
          obtain ⟨i, hi, rfl, HX, HA⟩ := hrel
          have ck : wr.cell? ⟨w.heap.size, 2, none⟩ = some (.slice pu nu ku) := HX.out.el.at 2 _ rfl
          by_cases hlt : i < nu
          · obtain ⟨x, hx⟩ : ∃ x, uses[i]? = some x := ⟨_, List.getElem?_eq_getElem (by rw [← HNU2.out]; exact hlt)⟩
            obtain ⟨g, o, hq, hg, hr0⟩ := V1.out i x hx
            subst hq
            have HRG := Lib.hid (Dk.rangeAt_block hr0 (HX.out.below.block g hg))
            have z0 : (0 : Int) ≤ (i : Int) := by omega
            have z1 : (i : Int) < (nu : Int) := by omega
            have HXX := Lib.hid hx
            have HS := HNU.out x (mem_at hx)
            have N1 := Lib.hid (fun W => Lx.rname_any x.md W HS.1)
            have N2 := Lib.hid (fun W => Lx.rname_any x.nm W HS.2)
            have I3 := Lib.hid (fun W => in_any x.ps 0 8 W)
            have HBX := Lib.hid (HB1.out x (mem_at hx))
            have HUE : Hid (useB x = (Lx.isName x.md && Lx.isName x.nm && inB x.ps 0 8)) := Lib.hid rfl
            have HI := Lib.hid (us_info x)
            have HIA : Hid ((Tryd.prog.info? 43).map (·.size) = some x.cells.toArray.size) := Lib.hid HI.out
            have HO := Lib.hid (all_oneCell_toArray (us_ones [x] x.cells (by simp)))
            have HP := Lib.hid (put_new wr #[.string ⟨#[]⟩, .string ⟨#[]⟩, .int .i64 0] 43 x.cells rfl)
            have HT1 := Lib.hid HP.out.1
            have HP2 := Lib.hid HP.out.2
            have HCE : Hid (x.cells = [.string (strOf x.md), .string (strOf x.nm), .int .i64 x.ps]) := Lib.hid rfl
            have HA2 : Hid (useB x = true → ∀ (j : Nat) y, j < i + 1 → uses[j]? = some y → useB y = true) := Lib.hid (fun hq j y hj hy => by
              rcases Nat.lt_succ_iff_lt_or_eq.1 hj with h1 | rfl
              · exact HA.out j y h1 hy
              · rw [HXX.out] at hy; cases hy; exact hq)
            clear hx hr0 HP HS HA HXX
            generalize Lx.isName x.md = a at *
            generalize Lx.isName x.nm = b at *
            generalize inB x.ps 0 8 = c at *
            generalize strOf x.md = sm at *
            generalize strOf x.nm = sq at *
            generalize x.ps = ps at *
            generalize useB x = ub at *
            generalize x.cells = pc at *
            cases a with
            | false =>
              have hR := HBX.out (by rw [HUE.out]; rfl)
              subst hR
              go_wp2_with (first
                | (refine wpList_load_mid rfl 43 (.tmp 52) rfl g (o + i * 3) rfl pc _ HRG.out Tryd.underlying43 rfl HI.out ?_)
                | (refine wpList_store_mid rfl 43 (.tmp 4) (.tmp 53) rfl wr.heap.size 0 pc.toArray rfl rfl HT1.out HIA.out HO.out ?_; generalize World.setCells _ _ _ _ = W8 at HP2 ⊢; have HE8 := Lib.hid (show El W8 wr.heap.size [.string sm, .string sq, .int .i64 ps] by rw [← HCE.out]; exact ⟨HP2.out.cells, HP2.out.lt⟩); have HX8 := Lib.hid (HX.out.later HP2.out.below); have d0 : W8.cell? ⟨wr.heap.size, 0, none⟩ = some (.string sm) := HE8.out.at 0 _ rfl; clear HP2))
              refine (N1.out _).mono ?_
              rintro e W9 ⟨rfl, hb⟩
              have HE9 := Lib.hid (HE8.out.later hb)
              have HX9 := Lib.hid (HX8.out.later hb)
              have d1 : W9.cell? ⟨wr.heap.size, 1, none⟩ = some (.string sq) := HE9.out.at 1 _ rfl
              clear hb d0 N1
              go_wp2
              go_ret
              exact ⟨rfl, HX9.out.below⟩
            | true =>
              cases b with
              | false =>
                have hR := HBX.out (by rw [HUE.out]; rfl)
                subst hR
                go_wp2_with (first
                  | (refine wpList_load_mid rfl 43 (.tmp 52) rfl g (o + i * 3) rfl pc _ HRG.out Tryd.underlying43 rfl HI.out ?_)
                  | (refine wpList_store_mid rfl 43 (.tmp 4) (.tmp 53) rfl wr.heap.size 0 pc.toArray rfl rfl HT1.out HIA.out HO.out ?_; generalize World.setCells _ _ _ _ = W8 at HP2 ⊢; have HE8 := Lib.hid (show El W8 wr.heap.size [.string sm, .string sq, .int .i64 ps] by rw [← HCE.out]; exact ⟨HP2.out.cells, HP2.out.lt⟩); have HX8 := Lib.hid (HX.out.later HP2.out.below); have d0 : W8.cell? ⟨wr.heap.size, 0, none⟩ = some (.string sm) := HE8.out.at 0 _ rfl; clear HP2))
                refine (N1.out _).mono ?_
                rintro e W9 ⟨rfl, hb⟩
                have HE9 := Lib.hid (HE8.out.later hb)
                have HX9 := Lib.hid (HX8.out.later hb)
                have d1 : W9.cell? ⟨wr.heap.size, 1, none⟩ = some (.string sq) := HE9.out.at 1 _ rfl
                clear hb d0 N1
                go_wp2_with fail
                refine (N2.out _).mono ?_
                rintro e W10 ⟨rfl, hb⟩
                have HE10 := Lib.hid (HE9.out.later hb)
                have HX10 := Lib.hid (HX9.out.later hb)
                have d2 : W10.cell? ⟨wr.heap.size, 2, none⟩ = some (.int .i64 ps) := HE10.out.at 2 _ rfl
                clear hb d1 N2
                go_wp2
                go_ret
                exact ⟨rfl, HX10.out.below⟩
              | true =>
                cases c with
                | false =>
                  have hR := HBX.out (by rw [HUE.out]; rfl)
                  subst hR
                  go_wp2_with (first
                    | (refine wpList_load_mid rfl 43 (.tmp 52) rfl g (o + i * 3) rfl pc _ HRG.out Tryd.underlying43 rfl HI.out ?_)
                    | (refine wpList_store_mid rfl 43 (.tmp 4) (.tmp 53) rfl wr.heap.size 0 pc.toArray rfl rfl HT1.out HIA.out HO.out ?_; generalize World.setCells _ _ _ _ = W8 at HP2 ⊢; have HE8 := Lib.hid (show El W8 wr.heap.size [.string sm, .string sq, .int .i64 ps] by rw [← HCE.out]; exact ⟨HP2.out.cells, HP2.out.lt⟩); have HX8 := Lib.hid (HX.out.later HP2.out.below); have d0 : W8.cell? ⟨wr.heap.size, 0, none⟩ = some (.string sm) := HE8.out.at 0 _ rfl; clear HP2))
                  refine (N1.out _).mono ?_
                  rintro e W9 ⟨rfl, hb⟩
                  have HE9 := Lib.hid (HE8.out.later hb)
                  have HX9 := Lib.hid (HX8.out.later hb)
                  have d1 : W9.cell? ⟨wr.heap.size, 1, none⟩ = some (.string sq) := HE9.out.at 1 _ rfl
                  clear hb d0 N1
                  go_wp2_with fail
                  refine (N2.out _).mono ?_
                  rintro e W10 ⟨rfl, hb⟩
                  have HE10 := Lib.hid (HE9.out.later hb)
                  have HX10 := Lib.hid (HX9.out.later hb)
                  have d2 : W10.cell? ⟨wr.heap.size, 2, none⟩ = some (.int .i64 ps) := HE10.out.at 2 _ rfl
                  clear hb d1 N2
                  go_wp2_with fail
                  refine (I3.out _).mono ?_
                  rintro e W11 ⟨rfl, rfl⟩
                  go_wp2
                  go_ret
                  exact ⟨rfl, HX10.out.below⟩
                | true =>
                  have HA3 := Lib.hid (HA2.out (by rw [HUE.out]; rfl))
                  go_wp2_with (first
                    | (refine wpList_load_mid rfl 43 (.tmp 52) rfl g (o + i * 3) rfl pc _ HRG.out Tryd.underlying43 rfl HI.out ?_)
                    | (refine wpList_store_mid rfl 43 (.tmp 4) (.tmp 53) rfl wr.heap.size 0 pc.toArray rfl rfl HT1.out HIA.out HO.out ?_; generalize World.setCells _ _ _ _ = W8 at HP2 ⊢; have HE8 := Lib.hid (show El W8 wr.heap.size [.string sm, .string sq, .int .i64 ps] by rw [← HCE.out]; exact ⟨HP2.out.cells, HP2.out.lt⟩); have HX8 := Lib.hid (HX.out.later HP2.out.below); have d0 : W8.cell? ⟨wr.heap.size, 0, none⟩ = some (.string sm) := HE8.out.at 0 _ rfl; clear HP2))
                  refine (N1.out _).mono ?_
                  rintro e W9 ⟨rfl, hb⟩
                  have HE9 := Lib.hid (HE8.out.later hb)
                  have HX9 := Lib.hid (HX8.out.later hb)
                  have d1 : W9.cell? ⟨wr.heap.size, 1, none⟩ = some (.string sq) := HE9.out.at 1 _ rfl
                  clear hb d0 N1
                  go_wp2_with fail
                  refine (N2.out _).mono ?_
                  rintro e W10 ⟨rfl, hb⟩
                  have HE10 := Lib.hid (HE9.out.later hb)
                  have HX10 := Lib.hid (HX9.out.later hb)
                  have d2 : W10.cell? ⟨wr.heap.size, 2, none⟩ = some (.int .i64 ps) := HE10.out.at 2 _ rfl
                  clear hb d1 N2
                  go_wp2_with fail
                  refine (I3.out _).mono ?_
                  rintro e W11 ⟨rfl, rfl⟩
                  go_wp2
                  go_roundw
                  case rel => exact ⟨i + 1, by omega, by go_num, HX10, HA3⟩
                  case measure => simp [intOf]; omega
          · obtain rfl : nu = i := by omega
            have HA1 : Hid (∀ x ∈ uses, useB x = true) := Lib.hid (fun x hx => by obtain ⟨j, hj, rfl⟩ := List.getElem_of_mem hx; exact HA.out j _ (by rw [HNU2.out]; exact hj) (List.getElem?_eq_getElem hj))
            have HX20 := Lib.hid HX.out
            clear HA hi
            go_wp2
            go_loopw [5] (fun vi wr => ∃ i : Nat, i ≤ np ∧ vi = .int .i64 (i : Int) ∧ Hid (SE w wr w.heap.size [.string sn, .int .i64 ver, .slice pu nu ku, .int .i64 fu, .slice pp np kp]) ∧ Hid (∀ (j : Nat) x, j < i → prs[j]? = some x → topB (decide ((j : Int) < fu)) x = true)) (fun vi _ => np - (intOf vi).toNat)
            case atStart => exact ⟨0, Nat.zero_le _, rfl, HX20, Lib.hid (fun j x hj => absurd hj (Nat.not_lt_zero _))⟩
            case round =>
              obtain ⟨i, hi, rfl, HX, HA⟩ := hrel
              have ck : wr.cell? ⟨w.heap.size, 4, none⟩ = some (.slice pp np kp) := HX.out.el.at 4 _ rfl
              by_cases hlt : i < np
              · obtain ⟨x, hx⟩ : ∃ x, prs[i]? = some x := ⟨_, List.getElem?_eq_getElem (by rw [← HNP2.out]; exact hlt)⟩
                obtain ⟨g, o, qs, hq, hg, hr0, hpc⟩ := V2.out i x hx
                subst hq
                have z0 : (0 : Int) ≤ (i : Int) := by omega
                have z1 : (i : Int) < (np : Int) := by omega
                have HXX := Lib.hid hx
                have RP := Lib.hid (fun (W : World) (h : SE w W w.heap.size [.string sn, .int .i64 ver, .slice pu nu ku, .int .i64 fu, .slice (some ⟨g, o, none⟩) np kp]) => rproto_any (decide ((i : Int) < fu)) W (hpc.later h.below) (HNP.out x (mem_at hx)))
                obtain ⟨vc, vk, vp, hcs, -⟩ := hpc
                have PCS : Hid (∀ W, SE w W w.heap.size [.string sn, .int .i64 ver, .slice pu nu ku, .int .i64 fu, .slice (some ⟨g, o, none⟩) np kp] → (W.cell? ⟨w.heap.size, 4, none⟩ = some (.slice (some ⟨g, o, none⟩) np kp) ∧ W.cell? ⟨w.heap.size, 3, none⟩ = some (.int .i64 fu)) ∧ W.rangeAt g (o + i * 6) qs) := Lib.hid (fun W h => ⟨⟨h.el.at 4 _ rfl, h.el.at 3 _ rfl⟩, Dk.rangeAt_block hr0 (h.below.block g hg)⟩)
                have HI := Lib.hid (pc_info qs (by rw [hcs]; rfl))
                have HBX : Hid (topB (decide ((i : Int) < fu)) x = false → R = false) := Lib.hid (HB2.out i x hx)
                have HA2 : Hid (topB (decide ((i : Int) < fu)) x = true → ∀ (j : Nat) y, j < i + 1 → prs[j]? = some y → topB (decide ((j : Int) < fu)) y = true) := Lib.hid (fun hq j y hj hy => by
                  rcases Nat.lt_succ_iff_lt_or_eq.1 hj with h1 | rfl
                  · exact HA.out j y h1 hy
                  · rw [HXX.out] at hy; cases hy; exact hq)
                clear hx hr0 hcs HA HXX
                replace RP : Hid (∀ W, SE w W w.heap.size [.string sn, .int .i64 ver, .slice pu nu ku, .int .i64 fu, .slice (some ⟨g, o, none⟩) np kp] → Calls Tryd.prog 37 #[.agg qs.toArray, .bool (decide ((i : Int) < fu))] W fun e w' => e = .returned (.bool (topB (decide ((i : Int) < fu)) x)) ∧ Below W.heap.size W w') := RP
                generalize topB (decide ((i : Int) < fu)) x = tb at *
                obtain ⟨W2, hw2, -, -, -, hbel⟩ := drawn_world wr
                have HX2 := Lib.hid (HX.out.later hbel.out)
                clear hbel
                have ck2 := (PCS.out W2 HX2.out).1.1
                have ck3 := (PCS.out W2 HX2.out).1.2
                have HRG := Lib.hid (PCS.out W2 HX2.out).2
                have RP2 := Lib.hid (RP.out W2 HX2.out)
                clear RP PCS
                cases tb with
                | false =>
                  have hR := HBX.out rfl
                  subst hR
                  go_wp2
                  refine region_still_tail 9 (by kernel_rfl) (by kernel_rfl) W2 hw2.out ?_
                  simp only [List.take_succ_cons, List.take_zero, List.drop_succ_cons, List.drop_zero]
                  iterate 4 still_step
                  refine still_load (by kernel_rfl) 38 (.tmp 80) rfl g (o + i * 6) rfl qs _ HRG.out Tryd.underlying38 rfl HI.out ?_
                  iterate 4 still_step
                  refine wpStill_nil ?_
                  go_wp2_with fail
                  refine RP2.out.mono ?_
                  rintro e W3 ⟨rfl, hb⟩
                  have HX3 := Lib.hid (HX2.out.later hb)
                  clear hb
                  go_wp2
                  go_ret
                  exact ⟨rfl, HX3.out.below⟩
                | true =>
                  have HA3 := Lib.hid (HA2.out rfl)
                  go_wp2
                  refine region_still_tail 9 (by kernel_rfl) (by kernel_rfl) W2 hw2.out ?_
                  simp only [List.take_succ_cons, List.take_zero, List.drop_succ_cons, List.drop_zero]
                  iterate 4 still_step
                  refine still_load (by kernel_rfl) 38 (.tmp 80) rfl g (o + i * 6) rfl qs _ HRG.out Tryd.underlying38 rfl HI.out ?_
                  iterate 4 still_step
                  refine wpStill_nil ?_
                  go_wp2_with fail
                  refine RP2.out.mono ?_
                  rintro e W3 ⟨rfl, hb⟩
                  have HX3 := Lib.hid (HX2.out.later hb)
                  clear hb
                  go_wp2
                  go_roundw
                  case rel => exact ⟨i + 1, by omega, by go_num, HX3, HA3⟩
                  case measure => simp [intOf]; omega
              · obtain rfl : np = i := by omega
                have hR := HR0.out HA1.out (fun j x hx => HA.out j x (by rw [HNP2.out]; exact (List.getElem?_eq_some_iff.1 hx).1) hx)
                subst hR
                clear HA
                go_wp2
                go_ret
                exact ⟨rfl, HX.out.below⟩

end Go.Proofs.YtmloljfnnkfkjaaDoor.Im

