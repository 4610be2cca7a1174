/- The walk of the document's Build: its contract. No condition but those that each states. -/
import Derived.Test.YtmloljfnnkfkjaaDoorMgBD
namespace Go.Proofs.YtmloljfnnkfkjaaDoor.Im
open Go.RowKit Dk In
variable {X : Nat → Prop}

theorem lu_cells {sn : ByteArray} {ver fu : Int} {pu pp : Option Addr} {nu ku np kp : Nat} {w W : World} {b : Nat} (h : SE w W b [.string sn, .int .i64 ver, .slice pu nu ku, .int .i64 fu, .slice pp np kp]) : W.cell? ⟨b, 0, none⟩ = some (.string sn) ∧ W.cell? ⟨b, 1, none⟩ = some (.int .i64 ver) ∧ W.cell? ⟨b, 2, none⟩ = some (.slice pu nu ku) := ⟨h.el.at 0 _ rfl, h.el.at 1 _ rfl, h.el.at 2 _ rfl⟩
theorem lv_cells {sn : ByteArray} {ver fu : Int} {pu pp : Option Addr} {nu ku np kp : Nat} {w W : World} {b : Nat} (h : SE w W b [.string sn, .int .i64 ver, .slice pu nu ku, .int .i64 fu, .slice pp np kp]) : W.cell? ⟨b, 3, none⟩ = some (.int .i64 fu) ∧ W.cell? ⟨b, 4, none⟩ = some (.slice pp np kp) := ⟨h.el.at 3 _ rfl, h.el.at 4 _ rfl⟩
set_option maxHeartbeats 4000000 in
set_option maxRecDepth 100000 in
theorem rbuild_un {cs : List Value} {u : Un} (w : World) (hu : UC X w cs u) (hs : SmU u) : Calls Tryd.prog 11 #[.agg cs.toArray] w fun e w' => e = .returned (ansB (buildU u)) ∧ Below w.heap.size w w' := by
  obtain ⟨W1, hW1⟩ : ∃ W1, W1 = w.alloc (.cells cs.toArray 25) := ⟨_, rfl⟩
  have HB1 : Hid (Below w.heap.size w W1) := Lib.hid (by rw [hW1]; exact (Below.refl _ _).alloc (Nat.le_refl _) _)
  have RT := Lib.hid (rright_un W1 (hu.later HB1.out) hs)
  have HX1 : Hid (SE w W1 w.heap.size cs) := Lib.hid (by rw [hW1]; exact se_new w cs _)
  have hW2 := hW1.symm
  obtain ⟨vu, vp, hcs, h1, h2⟩ := hu
  have HI := Lib.hid (u_info cs (by rw [hcs]; rfl))
  cases hr : unB u with
  | false =>
    rw [hr] at RT
    rw [show buildU u = ([], 4) by unfold buildU; rw [hr]; rfl]
    show Calls _ _ _ w fun e w' => e = .returned (.tuple #[.string ⟨#[]⟩, .int .i64 4]) ∧ _
    clear hW1 hs hcs h1 h2 hr
    go_enter Tryd.func11, Tryd.ntmps11
    go_wp2_with (refine wpList_load_mid rfl 25 (.tmp 1) rfl w.heap.size 0 rfl cs _ HX1.out.el.cells Tryd.underlying25 rfl HI.out ?_)
    refine RT.out.mono ?_
    rintro e W2 ⟨rfl, hb⟩
    have HB2 := Lib.hid (chain2 HB1.out hb)
    clear hb RT
    go_wp2
    go_ret2
    exact ⟨rfl, HB2.out⟩
  | true =>
    rw [hr] at RT
    obtain ⟨pu, ku, hv1⟩ := Row.form h1
    obtain ⟨pp, np, kp, hv2⟩ : ∃ pp np kp, vp = .slice pp np kp := by
      obtain ⟨css, h3, -⟩ := h2
      obtain ⟨a, b, e⟩ := Row.form h3
      exact ⟨a, _, b, e⟩
    rw [List.length_map] at hv1
    subst hv1 hv2
    have V1 := Lib.hid (Rw.el (Z := 3) h1 (fun _ => rfl)).2
    obtain ⟨hnp, hV2⟩ := PRow.el h2
    have V2 := Lib.hid hV2
    obtain ⟨k1, k2, k3, k4, k5⟩ := un_parts hr
    have l1 := name_len k1
    have HUS := Lib.hid k3.2
    have HOK := Lib.hid (un_ok hr)
    have hBU : buildU u = (encUn u, 0) := by unfold buildU; rw [hr]; rfl
    rw [hBU]
    obtain ⟨nm, ver, uses, fu, prs⟩ := u
    simp only at k1 k2 k3 k4 k5 l1 HUS HOK V1 V2 hnp
    have T1 := Lib.hid (fun W => rtext_row nm W (by omega))
    have N4 := Lib.hid (fun W => rnum4 ver (by omega) (by omega) W)
    have NL := Lib.hid (fun W => rnum2 (uses.length : Int) (by omega) (by omega) W)
    have NF := Lib.hid (fun W => rnum1 fu (by omega) (by omega) W)
    have NP := Lib.hid (fun W => rnum2 (prs.length : Int) (by omega) (by omega) W)
    have lm : magic.length = 4 := rfl
    obtain ⟨A0, hA0⟩ : ∃ A0, A0 = magic ++ txt nm ++ le 4 ver ++ le 2 (uses.length : Int) := ⟨_, rfl⟩
    have hA0l : A0.length ≤ 30 := by rw [hA0]; simp only [List.length_append, txt_len, le_length, lm]; omega
    have p1 := add_up magic (txt nm) (by rw [lm]; omega) (by rw [txt_len]; omega)
    have p2 := add_up (magic ++ txt nm) (le 4 ver) (by simp only [List.length_append, txt_len, lm]; omega) (by rw [le_length]; omega)
    have p3 := add_up (magic ++ txt nm ++ le 4 ver) (le 2 (uses.length : Int)) (by simp only [List.length_append, txt_len, le_length, lm]; omega) (by rw [le_length]; omega)
    rw [← hA0] at p3
    have L1 := Lib.hid (fun i hi => upto_len A0 encUse (l := uses) (K := 41) (fun x hx => encUse_len (k3.2 x hx)) i hi)
    have hB : (A0 ++ uses.flatMap encUse).length ≤ 700 := by
      have := flatMap_len (f := encUse) (l := uses) (fun x hx => encUse_len (k3.2 x hx))
      rw [List.length_append]; omega
    obtain ⟨B0, hB0⟩ : ∃ B0, B0 = A0 ++ uses.flatMap encUse ++ le 1 fu := ⟨_, rfl⟩
    have hB0l : B0.length ≤ 701 := by rw [hB0, List.length_append, le_length]; omega
    obtain ⟨A1, hA1⟩ : ∃ A1, A1 = B0 ++ le 2 (prs.length : Int) := ⟨_, rfl⟩
    have hA1l : A1.length ≤ 703 := by rw [hA1, List.length_append, le_length]; omega
    have HP1 : Hid (∀ W : World, (Op.stringOp .add (strOf (upto A0 encUse uses uses.length)) (strOf (le 1 fu))).run Tryd.prog W = .ok (.string (strOf B0)) W) := Lib.hid (by rw [upto_all, hB0]; exact add_up _ _ (by omega) (by rw [le_length]; omega))
    have HP2 : Hid (∀ W : World, (Op.stringOp .add (strOf B0) (strOf (le 2 (prs.length : Int)))).run Tryd.prog W = .ok (.string (strOf A1)) W) := Lib.hid (by rw [hA1]; exact add_up _ _ (by omega) (by rw [le_length]; omega))
    have L2 := Lib.hid (fun i hi => upto_len A1 encPr (l := prs) (K := 238338) (fun x hx => encPr_len (HOK.out x hx)) i hi)
    have HE : Hid (encUn ⟨nm, ver, uses, fu, prs⟩ = upto A1 encPr prs prs.length) := Lib.hid (by
      rw [upto_all, hA1, hB0, hA0]
      unfold encUn encL
      simp only [List.append_assoc])
    have HL1 : Hid (∀ i, i ≤ uses.length → (upto A0 encUse uses i).length ≤ 700) := Lib.hid (fun i hi => by have := L1.out i hi; omega)
    have HL2 : Hid (∀ i, i ≤ prs.length → (upto A1 encPr prs i).length ≤ 20000000) := Lib.hid (fun i hi => by have := L2.out i hi; omega)
    have HZ0 : Hid (upto A0 encUse uses 0 = A0) := Lib.hid (upto_zero _ _ _)
    have HZ1 : Hid (upto A1 encPr prs 0 = A1) := Lib.hid (upto_zero _ _ _)
    have hmg : strOf magic = ⟨#[67, 72, 82, 89]⟩ := rfl
    rw [hmg] at p1
    obtain ⟨E, hEE⟩ : ∃ E, E = encUn ⟨nm, ver, uses, fu, prs⟩ := ⟨_, rfl⟩
    show Calls _ _ _ w fun e w' => e = .returned (.tuple #[.string (strOf (encUn ⟨nm, ver, uses, fu, prs⟩)), .int .i64 0]) ∧ _
    rw [← hEE]
    rw [← hEE] at HE
    have HBU : Hid (uses.length ≤ 16) := Lib.hid k3.1
    have HBP : Hid (prs.length ≤ 64) := Lib.hid k4.1
    obtain ⟨nu, hnu⟩ : ∃ n, n = uses.length := ⟨_, rfl⟩
    rw [← hnu] at p3 HL1 NL HP1 HBU hcs
    rw [← hnp] at HE HL2 NP HP2 HBP
    have HNU2 := Lib.hid hnu
    have HNP2 := Lib.hid hnp
    have HX1' : Hid (SE w W1 w.heap.size [.string (strOf nm), .int .i64 ver, .slice pu nu ku, .int .i64 fu, .slice pp np kp]) := Lib.hid (by rw [← hcs]; exact HX1.out)
    generalize strOf (magic ++ txt nm ++ le 4 ver) = s2 at *
    generalize strOf (magic ++ txt nm) = s1 at *
    generalize strOf (txt nm) = t0 at *
    generalize strOf (le 4 ver) = t1 at *
    generalize strOf (le 2 (nu : Int)) = t2 at *
    generalize strOf (le 1 fu) = t3 at *
    generalize strOf (le 2 (np : Int)) = t4 at *
    generalize strOf B0 = sb at *
    generalize strOf nm = sn at *
    clear hW1 h1 h2 hs hnu hnp hV2 hr k1 k2 k3 k4 k5 l1 hA0 hA1 hB0 hA0l hA1l hB0l hB hEE L1 L2 hcs hmg lm hBU
    go_enter Tryd.func11, Tryd.ntmps11
    go_wp2_with (refine wpList_load_mid rfl 25 (.tmp 1) rfl w.heap.size 0 rfl cs _ HX1.out.el.cells Tryd.underlying25 rfl HI.out ?_)
    refine RT.out.mono ?_
    rintro e W2 ⟨rfl, hb⟩
    have HX2 := Lib.hid (HX1'.out.later hb)
    clear hb RT HX1 HX1' HI
    have h0 := SE.drew HX2.out
    have h1 := HX2.out
    go_wp2_with fail
    go_region_held3 (fun W => W.cell? ⟨w.heap.size, 0, none⟩ = some (.string sn) ∧ W.cell? ⟨w.heap.size, 1, none⟩ = some (.int .i64 ver) ∧ W.cell? ⟨w.heap.size, 2, none⟩ = some (.slice pu nu ku)) (first | exact lu_cells (by assumption) | go_keep) (first
      | (go_at_call 24; (with_reducible refine (T1.out _).mono ?_); rintro e W4 ⟨rfl, hb⟩; have hq := SE.later (b := w.heap.size) (cs := [.string sn, .int .i64 ver, .slice pu nu ku, .int .i64 fu, .slice pp np kp]) (by assumption) hb; clear hb)
      | (go_at_call 25; (with_reducible refine (N4.out _).mono ?_); rintro e W4 ⟨rfl, hb⟩; have hq := SE.later (b := w.heap.size) (cs := [.string sn, .int .i64 ver, .slice pu nu ku, .int .i64 fu, .slice pp np kp]) (by assumption) hb; clear hb)
      | (go_at_call 25; (with_reducible refine (NL.out _).mono ?_); rintro e W4 ⟨rfl, hb⟩; have hq := SE.later (b := w.heap.size) (cs := [.string sn, .int .i64 ver, .slice pu nu ku, .int .i64 fu, .slice pp np kp]) (by assumption) hb; clear hb))
    have HX30 := Lib.hid (‹SE w W4 w.heap.size [.string sn, .int .i64 ver, .slice pu nu ku, .int .i64 fu, .slice pp np kp]›)
    clear h0 h1 p1 p2 p3 T1 N4 NL
    go_wp2
    go_loopw [4, 5] (fun vs vi wr => ∃ i : Nat, i ≤ nu ∧ vi = .int .i64 (i : Int) ∧ vs = .string (strOf (upto A0 encUse uses i)) ∧ Hid (SE w wr w.heap.size [.string sn, .int .i64 ver, .slice pu nu ku, .int .i64 fu, .slice pp np kp])) (fun _ vi _ => nu - (intOf vi).toNat)
    case atStart => exact ⟨0, Nat.zero_le _, rfl, by rw [HZ0.out], HX30⟩
    case round =>
      clear HX30
      obtain ⟨i, hi, rfl, rfl, HX⟩ := hrel
      have ck : wr.cell? ⟨w.heap.size, 2, none⟩ = some (.slice pu nu ku) := HX.out.el.at 2 _ rfl
      by_cases hlt : i < nu
      · obtain ⟨x, hx⟩ : ∃ x, uses[i]? = some x := ⟨_, List.getElem?_eq_getElem (by rw [← HNU2.out]; exact hlt)⟩
        obtain ⟨g, o, hq, hg, hr0⟩ := V1.out i x hx
        subst hq
        have z0 : (0 : Int) ≤ (i : Int) := by omega
        have z1 : (i : Int) < (nu : Int) := by omega
        have HU := Lib.hid (upto_succ A0 encUse hx)
        have hla := HL1.out i hi
        have hnb := HBU.out
        have hub := use_parts (HUS.out x (mem_at hx))
        have N1 := Lib.hid (fun W => rtext_row x.md W (by omega))
        have N2 := Lib.hid (fun W => rtext_row x.nm W (by omega))
        have N3 := Lib.hid (fun W => rnum1 x.ps hub.2.2.1 (by omega) W)
        have HKP : Hid (∀ W, SE w W w.heap.size [.string sn, .int .i64 ver, .slice (some ⟨g, o, none⟩) nu ku, .int .i64 fu, .slice pp np kp] → W.cell? ⟨w.heap.size, 2, none⟩ = some (.slice (some ⟨g, o, none⟩) nu ku) ∧ W.cell? ⟨g, o + i * 3, none⟩ = some (.string (strOf x.md)) ∧ W.cell? ⟨g, o + i * 3 + 1, none⟩ = some (.string (strOf x.nm)) ∧ W.cell? ⟨g, o + i * 3 + 2, none⟩ = some (.int .i64 x.ps)) := Lib.hid (fun W h => by
          have hr := Dk.rangeAt_block hr0 (h.below.block g hg)
          exact ⟨h.el.at 2 _ rfl, hr 0 _ rfl, hr 1 _ rfl, hr 2 _ rfl⟩)
        have pa := add_up (upto A0 encUse uses i) (txt x.md) (by omega) (by rw [txt_len]; omega)
        have pb := add_up (upto A0 encUse uses i ++ txt x.md) (txt x.nm) (by rw [List.length_append, txt_len]; omega) (by rw [txt_len]; omega)
        have pc := add_up (upto A0 encUse uses i ++ txt x.md ++ txt x.nm) (le 1 x.ps) (by simp only [List.length_append, txt_len]; omega) (by rw [le_length]; omega)
        have HU2 : Hid (upto A0 encUse uses i ++ txt x.md ++ txt x.nm ++ le 1 x.ps = upto A0 encUse uses (i + 1)) := Lib.hid (by rw [HU.out]; unfold encUse; simp only [List.append_assoc])
        rw [HU2.out] at pc
        clear HU HU2 hx hr0 hub hla
        generalize strOf (upto A0 encUse uses i ++ txt x.md ++ txt x.nm) = m2 at *
        generalize strOf (upto A0 encUse uses i ++ txt x.md) = m1 at *
        generalize strOf (txt x.md) = u0 at *
        generalize strOf (txt x.nm) = u1 at *
        generalize strOf (le 1 x.ps) = u2 at *
        generalize strOf x.md = sm at *
        generalize strOf x.nm = sq at *
        generalize x.ps = ps at *
        go_wp2_with fail
        have h0 := SE.drew HX.out
        have h1 := HX.out
        go_region_held3 (fun W => W.cell? ⟨w.heap.size, 2, none⟩ = some (.slice (some ⟨g, o, none⟩) nu ku) ∧ W.cell? ⟨g, o + i * 3, none⟩ = some (.string sm) ∧ W.cell? ⟨g, o + i * 3 + 1, none⟩ = some (.string sq) ∧ W.cell? ⟨g, o + i * 3 + 2, none⟩ = some (.int .i64 ps)) (first | exact HKP.out _ (by assumption) | go_keep) (first
          | (go_at_call 24; (with_reducible refine (N1.out _).mono ?_); rintro e W4 ⟨rfl, hb⟩; have hq := SE.later (b := w.heap.size) (cs := [.string sn, .int .i64 ver, .slice (some ⟨g, o, none⟩) nu ku, .int .i64 fu, .slice pp np kp]) (by assumption) hb; clear hb)
          | (go_at_call 24; (with_reducible refine (N2.out _).mono ?_); rintro e W4 ⟨rfl, hb⟩; have hq := SE.later (b := w.heap.size) (cs := [.string sn, .int .i64 ver, .slice (some ⟨g, o, none⟩) nu ku, .int .i64 fu, .slice pp np kp]) (by assumption) hb; clear hb)
          | (go_at_call 25; (with_reducible refine (N3.out _).mono ?_); rintro e W4 ⟨rfl, hb⟩; have hq := SE.later (b := w.heap.size) (cs := [.string sn, .int .i64 ver, .slice (some ⟨g, o, none⟩) nu ku, .int .i64 fu, .slice pp np kp]) (by assumption) hb; clear hb))
        have HX9 := Lib.hid (‹SE w W4 w.heap.size [.string sn, .int .i64 ver, .slice (some ⟨g, o, none⟩) nu ku, .int .i64 fu, .slice pp np kp]›)
        clear h0 h1
        go_wp2
        go_roundw
        case rel => exact ⟨i + 1, by omega, by go_num, rfl, HX9⟩
        case measure => simp [intOf]; omega
      · obtain rfl : nu = i := by omega
        have HX92 := Lib.hid HX.out
        clear hi
        have pz := HP1.out
        have py := HP2.out
        have h0 := SE.drew HX92.out
        have h1 := HX92.out
        go_wp2_with fail
        go_region_held3 (fun W => W.cell? ⟨w.heap.size, 3, none⟩ = some (.int .i64 fu) ∧ W.cell? ⟨w.heap.size, 4, none⟩ = some (.slice pp np kp)) (first | exact lv_cells (by assumption) | go_keep) (first
          | (go_at_call 25; (with_reducible refine (NF.out _).mono ?_); rintro e W4 ⟨rfl, hb⟩; have hq := SE.later (b := w.heap.size) (cs := [.string sn, .int .i64 ver, .slice pu nu ku, .int .i64 fu, .slice pp np kp]) (by assumption) hb; clear hb)
          | (go_at_call 25; (with_reducible refine (NP.out _).mono ?_); rintro e W4 ⟨rfl, hb⟩; have hq := SE.later (b := w.heap.size) (cs := [.string sn, .int .i64 ver, .slice pu nu ku, .int .i64 fu, .slice pp np kp]) (by assumption) hb; clear hb))
        have HX40 := Lib.hid (‹SE w W4 w.heap.size [.string sn, .int .i64 ver, .slice pu nu ku, .int .i64 fu, .slice pp np kp]›)
        clear h0 h1 pz py
        go_wp2
        go_loopw [4, 6] (fun vs vi wr => ∃ i : Nat, i ≤ np ∧ vi = .int .i64 (i : Int) ∧ vs = .string (strOf (upto A1 encPr prs i)) ∧ Hid (SE w wr w.heap.size [.string sn, .int .i64 ver, .slice pu nu ku, .int .i64 fu, .slice pp np kp])) (fun _ vi _ => np - (intOf vi).toNat)
        case atStart => exact ⟨0, Nat.zero_le _, rfl, by rw [HZ1.out], HX40⟩
        case round =>
          clear HX40
          obtain ⟨i, hi, rfl, rfl, HX⟩ := hrel
          have ck : wr.cell? ⟨w.heap.size, 4, none⟩ = some (.slice pp np kp) := HX.out.el.at 4 _ rfl
          by_cases hlt : i < np
          · obtain ⟨x, hx⟩ : ∃ x, prs[i]? = some x := ⟨_, List.getElem?_eq_getElem (by rw [← HNP2.out]; exact hlt)⟩
            obtain ⟨g, o, qs, hq, hg, hr0, hpc⟩ := V2.out i x hx
            subst hq
            have z0 : (0 : Int) ≤ (i : Int) := by omega
            have z1 : (i : Int) < (np : Int) := by omega
            have HU := Lib.hid (upto_succ A1 encPr hx)
            have hla := HL2.out i hi
            have hnb := HBP.out
            have HRG := Lib.hid (Dk.rangeAt_block hr0 (HX.out.below.block g hg))
            have LA := Lib.hid (laid_any wr (hpc.later HX.out.below) (HOK.out x (mem_at hx)))
            obtain ⟨vc, vk, vp, hqs, -⟩ := hpc
            have HI := Lib.hid (pc_info qs (by rw [hqs]; rfl))
            have hxl := encPr_len (HOK.out x (mem_at hx))
            have pa := add_up (upto A1 encPr prs i) (encPr x) (by omega) (by omega)
            rw [← HU.out] at pa
            clear hx hr0 hqs HU hla hxl
            generalize strOf (encPr x) = tb at *
            go_wp2_with (refine wpList_load_mid rfl 38 (.tmp 76) rfl g (o + i * 6) rfl qs _ HRG.out Tryd.underlying38 rfl HI.out ?_)
            refine LA.out.mono ?_
            rintro e W9 ⟨rfl, hb⟩
            have HX9 := Lib.hid (HX.out.later hb)
            clear hb LA
            go_wp2
            go_roundw
            case rel => exact ⟨i + 1, by omega, by go_num, rfl, HX9⟩
            case measure => simp [intOf]; omega
          · obtain rfl : np = i := by omega
            have HX94 := Lib.hid HX.out
            clear hi
            go_wp2
            go_ret2
            exact ⟨by rw [HE.out]; rfl, HX94.out.below⟩

end Go.Proofs.YtmloljfnnkfkjaaDoor.Im

