/- The walk of the law TreeKids. No condition but those that each states. -/
import Derived.Test.YtcfgngaabledpaaTrSuW
namespace Go.Proofs.Ytcfgngaabledpaa.Tr
open Go.RowKit Dk Lx

theorem depP_le : ∀ (l : List Int) (o : List Nat) (m d : Nat), depP o m l = some d → d ≤ max m (o.length + l.length)
  | [], o, m, d, h => by
    rw [depP_nil] at h
    split at h
    · cases h; omega
    · cases h
  | k :: r, o, m, d, h => by
    rw [depP_cons] at h
    split at h
    · cases h
    · have h1 := depP_le r _ _ _ h
      have h2 := norm_len (k.toNat :: o)
      simp only [List.length_cons] at h2 ⊢
      omega

/-- A node's kids and their depths. -/
theorem kids_facts {ts : List Nd} {i n : Nat} (h : endW 1 ((kidsOf ts).drop i) = some n) (hl : ts.length ≤ 2100) :
    ∃ (q : Nat) (mf : Nat → Nat), (kidsOf ts)[i]? = some (q : Int) ∧ q ≤ 2100 ∧ mf 0 = 0 ∧ pos (kidsOf ts) (i + 1) q = i + n ∧ mf q ≤ 2100 ∧ depI (kidsOf ((ts.drop i).take n)) = ((mf q : Nat) : Int) + 1 ∧
      kidsZ (kidsOf ts) (i : Int) = posZ (kidsOf ts) (i + 1) q ∧
      ∀ j, j < q → ∃ m dj : Nat, endW 1 ((kidsOf ts).drop (pos (kidsOf ts) (i + 1) j)) = some m ∧ 1 ≤ m ∧ pos (kidsOf ts) (i + 1) (j + 1) = pos (kidsOf ts) (i + 1) j + m ∧ pos (kidsOf ts) (i + 1) j + m ≤ i + n ∧
        ((ts.drop (pos (kidsOf ts) (i + 1) j)).take m).length = m ∧ depI (kidsOf ((ts.drop (pos (kidsOf ts) (i + 1) j)).take m)) = (dj : Int) ∧ mf (j + 1) = max (mf j) dj := by
  obtain ⟨k, hk, hk0, hF, hn1⟩ := endW_node h
  obtain ⟨f1, f2, f3, d, f4, f5, f6⟩ := sub_facts h
  obtain ⟨mf, m0, ms, md⟩ := kids_depth h hk f5
  obtain ⟨q, rfl⟩ : ∃ q : Nat, k = (q : Int) := ⟨k.toNat, by omega⟩
  rw [Int.toNat_natCast] at hF md ms
  have hle := endW_le _ _ _ h
  rw [List.length_drop, kidsOf_len] at hle
  have hq := endW_le _ _ _ hF
  have hd := depP_le _ _ _ _ f5
  have hpl : (part (kidsOf ts) i n).length = n := by rw [← kidsOf_part, kidsOf_len, f1]
  rw [hpl, List.length_nil] at hd
  refine ⟨q, mf, hk, by omega, m0, by rw [pos_end hF]; omega, by omega, by rw [f6, md]; omega, by rw [kidsZ_some h hk, Int.toNat_natCast], fun j hj => ?_⟩
  obtain ⟨m, t1, t2, t3, t4⟩ := pos_tree hF hj
  obtain ⟨g1, -, -, dj, -, g5, g6⟩ := sub_facts t1
  obtain ⟨dj', e1, e2⟩ := ms j hj
  have hz : sz (kidsOf ts) (pos (kidsOf ts) (i + 1) j) = m := by unfold sz; rw [t1]; rfl
  rw [hz, g5] at e1
  cases e1
  exact ⟨m, dj, t1, t2, t3, by omega, g1, g6, e2⟩

set_option maxHeartbeats 2000000 in
set_option maxRecDepth 100000 in
theorem kidslaw_some (ts : List Nd) (p : Option Addr) (m c i n : Nat) (w : World) (hm : m = ts.length) (h : Nds w (.slice p m c) ts) (hn : endW 1 ((kidsOf ts).drop i) = some n) :
    Calls Try.prog 6 #[.slice p m c, .int .i64 (i : Int)] w fun e w' => e = .returned (.bool true) ∧ Below w.heap.size w w' := by
  have hle := endW_le _ _ _ hn
  rw [List.length_drop, kidsOf_len] at hle
  have hil : i < ts.length := by omega
  obtain ⟨g, o, rfl, -⟩ := h.node i hil
  have HNd := Lib.hid h
  have L1 := Lib.hid (light_any ts _ w h)
  have KN := Lib.hid (fun W => known9 W)
  have HM := Lib.hid hm
  have HW := Lib.hid hn
  have HLE := Lib.hid hle
  have HIL := Lib.hid hil
  clear h hm hn hle hil
  go_enter Try.func6, Try.ntmps6
  go_wp2_with fail
  refine L1.out.mono ?_
  rintro e w1 ⟨⟨b1, rfl, h1⟩, rfl⟩
  cases b1 with
  | false =>
    clear h1 L1
    go_wp2_with fail
    refine (KN.out _).mono ?_
    rintro e w3 ⟨rfl, hb3⟩
    have HB3 := Lib.hid hb3
    clear hb3
    go_wp2
    go_ret
    exact ⟨rfl, HB3.out⟩
  | true =>
    have H1 := Lib.hid (h1 rfl)
    clear h1 L1
    have hl := H1.out.1
    have hle := HLE.out
    have hmm := HM.out
    obtain ⟨q, mf, k1, k2, k3, k4, k5, k6, k7, k8⟩ := kids_facts HW.out hl
    have hkx : ts[i]'HIL.out = ts[i]'HIL.out := rfl
    have HC : Hid (∀ W, Below w.heap.size w W → W.cell? ⟨g, o + i * 5 + 1, none⟩ = some (.int .i64 (q : Int))) := Lib.hid (fun W hb => by
      obtain ⟨g', o', hp, -, -, c1, -⟩ := (HNd.out.later hb).node i HIL.out
      cases hp
      rw [kidsOf_at HIL.out] at k1
      rw [c1, Option.some.inj k1])
    have E1 : Hid (Calls Try.prog 14 #[.slice (some ⟨g, o, none⟩) m c, .int .i64 (i : Int)] w fun e w' => e = .returned (.int .i64 ((i : Int) + (n : Int))) ∧ w = w') := Lib.hid (by
      have := end_any ts _ (i : Int) w HNd.out (by omega)
      rwa [endI_some HW.out] at this)
    have K1 : Hid (Calls Try.prog 17 #[.slice (some ⟨g, o, none⟩) m c, .int .i64 (i : Int)] w fun e w' => ∃ v, e = .returned v ∧ IR w w' v (posZ (kidsOf ts) (i + 1) q)) := Lib.hid (by
      have := kids_any ts _ (i : Int) w HNd.out (by omega)
      unfold KidsOk at this
      rwa [k7] at this)
    have S1 : Hid (∀ W, Below w.heap.size w W → Calls Try.prog 13 #[.slice (some ⟨g, o, none⟩) m c, .int .i64 (i : Int)] W fun e w' => ∃ v, e = .returned v ∧ NR W w' v ((ts.drop i).take n)) := Lib.hid (fun W hb => by
      have := sub_any ts _ (i : Int) W (HNd.out.later hb) (by omega)
      unfold SubOk at this
      rwa [subL_some HW.out] at this)
    have D1 : Hid (∀ W v, Nds W v ((ts.drop i).take n) → Calls Try.prog 21 #[v] W fun e w' => e = .returned (.int .i64 (((mf q : Nat) : Int) + 1)) ∧ Below W.heap.size W w') := Lib.hid (fun W v hv => by
      have := depth_any _ v W hv (by rw [(sub_facts HW.out).1]; omega)
      rwa [k6] at this)
    have HFIT : Hid (∀ a b, Fit ((ts.drop a).take b)) := Lib.hid (fun a b x hx => HNd.out.fit x (List.mem_of_mem_drop (List.mem_of_mem_take hx)))
    obtain ⟨P, hP⟩ : ∃ P, P = pos (kidsOf ts) (i + 1) := ⟨_, rfl⟩
    have SJ : Hid (∀ j, j < q → ∃ m' dj : Nat, 1 ≤ m' ∧ P (j + 1) = P j + m' ∧ P j + m' ≤ i + n ∧ mf (j + 1) = max (mf j) dj ∧
        (∀ W, Below w.heap.size w W → Calls Try.prog 13 #[.slice (some ⟨g, o, none⟩) m c, .int .i64 ((P j : Nat) : Int)] W fun e w' => ∃ v, e = .returned v ∧ NR W w' v ((ts.drop (P j)).take m')) ∧ ((ts.drop (P j)).take m').length = m' ∧
        (∀ W v, Nds W v ((ts.drop (P j)).take m') → Calls Try.prog 21 #[v] W fun e w' => e = .returned (.int .i64 (dj : Int)) ∧ Below W.heap.size W w')) := Lib.hid (fun j hj => by
      obtain ⟨m', dj, t1, t2, t3, t4, t5, t6, t7⟩ := k8 j hj
      rw [hP]
      refine ⟨m', dj, t2, t3, t4, t7, fun W hb => ?_, t5, fun W v hv => ?_⟩
      · have := sub_any ts _ ((pos (kidsOf ts) (i + 1) j : Nat) : Int) W (HNd.out.later hb) (by omega)
        unfold SubOk at this
        rwa [subL_some t1] at this
      · have := depth_any _ v W hv (by rw [t5]; omega)
        rwa [t6] at this)
    have HPZ : Hid (∀ j, j < q → ∀ hj : j < (posZ (kidsOf ts) (i + 1) q).length, (posZ (kidsOf ts) (i + 1) q)[j] = ((P j : Nat) : Int)) := Lib.hid (fun j hj hj2 => by rw [hP]; simp [posZ])
    have hZl : (posZ (kidsOf ts) (i + 1) q).length = q := posZ_len _ _ _
    have hP0 : P 0 = i + 1 := by rw [hP]; rfl
    have hPq : P q = i + n := by rw [hP]; exact k4
    generalize posZ (kidsOf ts) (i + 1) q = Z at *
    have HZL := Lib.hid hZl
    have HP0 := Lib.hid hP0
    have HPQ := Lib.hid hPq
    have HK3 := Lib.hid k3
    have HLEN : Hid (((ts.drop i).take n).length = n) := Lib.hid (sub_facts HW.out).1
    have z0 : ¬(i : Int) < 0 := by omega
    have z0' : (0 : Int) ≤ (i : Int) := by omega
    have z1 : ¬(i : Int) + (n : Int) > (m : Int) := by omega
    have z2 : ¬(i : Int) + (n : Int) ≤ (i : Int) := by omega
    have z3 : ¬(i : Int) + (n : Int) < 0 := by omega
    have z4 : (i : Int) < (m : Int) := by omega
    have y0 : ((q : Int) == (q : Int)) = true := by simp
    have y1 : ((q : Int) != (q : Int)) = false := by simp
    have e1 : IntKind.i64.wrap ((i : Int) + 1) = ((i + 1 : Nat) : Int) := by rw [wrap_in _ (by omega)]; omega
    have HIN : Hid (i + n ≤ 2100) := Lib.hid (by omega)
    have hq := k2
    have hmq := k5
    clear k1 k2 k3 k4 k5 k6 k7 k8 hP hPq hP0 hZl hkx hl hle hmm HLE
    generalize hE : (i : Int) + (n : Int) = E at *
    have HE := Lib.hid hE
    clear hE
    go_wp2_with fail
    refine E1.out.mono ?_
    rintro e w2 ⟨rfl, rfl⟩
    go_wp2_with fail
    refine K1.out.mono ?_
    rintro e w2 ⟨v2, rfl, hr2⟩
    have HI2 := Lib.hid hr2.ins
    obtain ⟨p2, c2, rfl, -⟩ := own_form0 hr2.row
    rw [HZL.out] at HI2 ⊢
    have HB2 := Lib.hid hr2.below
    have cq := HC.out _ HB2.out
    clear hr2 K1 E1 HC
    go_wp2_with fail
    refine (S1.out _ HB2.out).mono ?_
    rintro e w3 ⟨v3, rfl, hr3⟩
    have HS3 := Lib.hid (hr3.nds (HFIT.out i n))
    have HB3 := Lib.hid (chain2 HB2.out hr3.below)
    have HI3 := Lib.hid (HI2.out.later hr3.below)
    clear hr3 S1 HB2 HI2 cq
    go_wp2_with fail
    refine (D1.out _ _ HS3.out).mono ?_
    rintro e w4 ⟨rfl, hb4⟩
    have HB4 := Lib.hid (chain2 HB3.out hb4)
    have HI4 := Lib.hid (HI3.out.later hb4)
    clear hb4 D1 HS3 HB3 HI3 z0 z0' z1 z2 z3 z4 e1
    go_wp2_with fail
    go_loopw [7, 9, 10] (fun va vm vj wr => ∃ j : Nat, j ≤ q ∧ va = .int .i64 ((P j : Nat) : Int) ∧ vm = .int .i64 ((mf j : Nat) : Int) ∧ vj = .int .i64 (j : Int) ∧ Hid (Below w4.heap.size w4 wr)) (fun _ _ vj _ => q - (intOf vj).toNat)
    case atStart => exact ⟨0, Nat.zero_le _, by rw [HP0.out]; go_num, by rw [HK3.out]; rfl, rfl, Lib.hid (Below.refl _ _)⟩
    case round =>
      obtain ⟨j, hj, rfl, rfl, rfl, hB⟩ := hrel
      by_cases hlt : j < q
      · obtain ⟨m', dj, t2, t3, t4, t7, sj, t5, dj'⟩ := SJ.out j hlt
        obtain ⟨g5, o5, rfl, -, c5⟩ := (HI4.out.later hB.out).int j (by rw [HZL.out]; exact hlt)
        rw [HPZ.out j hlt] at c5
        have CSJ := Lib.hid sj
        have CDJ := Lib.hid dj'
        have HT5 := Lib.hid t5
        have HN1 := Lib.hid t3
        have HN2 := Lib.hid t7
        have hin := HIN.out
        have x0 : (0 : Int) ≤ (j : Int) := by omega
        have x1 : (j : Int) < (q : Int) := by omega
        have e2 : IntKind.i64.wrap (((P j : Nat) : Int) + (m' : Int)) = ((P j : Nat) : Int) + (m' : Int) := wrap_in _ (by omega)
        generalize P j = a at *
        generalize mf j = b at *
        have x2 : ((a : Int) != (a : Int)) = false := by simp
        have x3 : ((m' : Int) == 0) = false := by simp; omega
        clear t3 t4 t7 sj t5 dj' hin
        go_wp2_with fail
        refine (CSJ.out _ (chain2 HB4.out hB.out)).mono ?_
        rintro e w5 ⟨v5, rfl, hr5⟩
        have HS5 := Lib.hid (hr5.nds (HFIT.out a m'))
        obtain ⟨p5, cp5, rfl, -⟩ := own_form0 hr5.row
        rw [HT5.out] at HS5 ⊢
        have HB5 := Lib.hid (chain2 hB.out hr5.below)
        clear hr5 c5
        go_wp2_with fail
        refine (CDJ.out _ _ HS5.out).mono ?_
        rintro e w6 ⟨rfl, hb6⟩
        have HB6 := Lib.hid (chain2 HB5.out hb6)
        clear hb6 HS5 HB5 hB
        go_wp2
        go_roundw
        case rel => exact ⟨j + 1, hlt, by rw [HN1.out]; congr 1, by rw [HN2.out]; congr 1; omega, by go_num, HB6⟩
        case measure => simp [intOf]; omega
      · obtain rfl : j = q := by omega
        have x2 : (((P j : Nat) : Int) == E) = true := by rw [HPQ.out, ← HE.out]; simp
        have x3 : (((mf j : Nat) : Int) + 1 == ((mf j : Nat) : Int) + 1) = true := by simp
        generalize P j = a at *
        generalize mf j = b at *
        go_wp2_with fail
        refine (KN.out _).mono ?_
        rintro e w6 ⟨rfl, hb6⟩
        have HB6 := Lib.hid (chain2 HB4.out (chain2 hB.out hb6))
        clear hb6
        go_wp2
        go_ret
        exact ⟨rfl, HB6.out⟩

set_option maxHeartbeats 1000000 in
theorem kidslaw_none (ts : List Nd) (v : Value) (i : Int) (w : World) (h : Nds w v ts) (hn : endI (kidsOf ts) i = -1) :
    Calls Try.prog 6 #[v, .int .i64 i] w fun e w' => e = .returned (.bool true) ∧ Below w.heap.size w w' := by
  have HNd := Lib.hid h
  have L1 := Lib.hid (light_any ts _ w h)
  have KN := Lib.hid (fun W => known9 W)
  have HW := Lib.hid hn
  clear h hn
  go_enter Try.func6, Try.ntmps6
  go_wp2_with fail
  refine L1.out.mono ?_
  rintro e w1 ⟨⟨b1, rfl, h1⟩, rfl⟩
  cases b1 with
  | false =>
    clear h1 L1
    go_wp2_with fail
    refine (KN.out _).mono ?_
    rintro e w3 ⟨rfl, hb3⟩
    have HB3 := Lib.hid hb3
    clear hb3
    go_wp2
    go_ret
    exact ⟨rfl, HB3.out⟩
  | true =>
    have H1 := Lib.hid (h1 rfl)
    clear h1 L1
    have S1 : Hid (∀ W, Below w.heap.size w W → Calls Try.prog 13 #[v, .int .i64 i] W fun e w' => ∃ u, e = .returned u ∧ NR W w' u []) := Lib.hid (fun W hb => by
      have := sub_any ts v i W (HNd.out.later hb) (by have := H1.out.1; omega)
      unfold SubOk at this
      rwa [subL_none HW.out] at this)
    have E1 : Hid (Calls Try.prog 14 #[v, .int .i64 i] w fun e w' => e = .returned (.int .i64 (-1)) ∧ w = w') := Lib.hid (by
      have := end_any ts _ i w HNd.out (by have := H1.out.1; omega)
      rwa [HW.out] at this)
    have K1 : Hid (Calls Try.prog 17 #[v, .int .i64 i] w fun e w' => ∃ u, e = .returned u ∧ IR w w' u []) := Lib.hid (by
      have := kids_any ts _ i w HNd.out (by have := H1.out.1; omega)
      unfold KidsOk at this
      rwa [kidsZ_none (by rw [HW.out]; decide)] at this)
    go_wp2_with fail
    refine E1.out.mono ?_
    rintro e w2 ⟨rfl, rfl⟩
    go_wp2_with fail
    refine K1.out.mono ?_
    rintro e w2 ⟨v2, rfl, hr2⟩
    obtain ⟨p2, c2, rfl, -⟩ := own_form0 hr2.row
    rw [List.length_nil]
    have HB2 := Lib.hid hr2.below
    clear hr2
    go_wp2_with fail
    refine (S1.out _ HB2.out).mono ?_
    rintro e w3 ⟨v1, rfl, hr1⟩
    obtain ⟨p1, c1, rfl, -⟩ := own_form0 hr1.row
    rw [List.length_nil]
    have HB3 := Lib.hid (chain2 HB2.out hr1.below)
    clear hr1 S1
    go_wp2_with fail
    refine (KN.out _).mono ?_
    rintro e w6 ⟨rfl, hb6⟩
    have HB6 := Lib.hid (chain2 HB3.out hb6)
    clear hb6
    go_wp2
    go_ret
    exact ⟨rfl, HB6.out⟩

theorem treeKids_law {H : Type} {enc : TypeId × Value → H} {w : World} {b0 : Nat} {v : Value} {d : DataW H} {p : List MemPlace}
    (hv : Value.okWide Try.prog w .any b0 22 v) (h : DataW.Trod enc Try.prog w 0 (fun _ => true) true 22 v d p) (i : Int) (_wi : (Lit.int .i64 i).wf = true) :
    Calls Try.prog 6 #[v, .int .i64 i] w fun e w' => e = .returned (.bool true) ∧ Below w.heap.size w w' := by
  obtain ⟨ts, ht⟩ := open_nds hv h
  rcases endI_cases (kidsOf ts) i with h1 | ⟨k, n, rfl, h1, -, -, -⟩
  · exact kidslaw_none ts v i w ht h1
  · obtain ⟨q, c, rfl, -⟩ := id ht
    exact kidslaw_some ts q _ c k n w rfl ht h1

end Go.Proofs.Ytcfgngaabledpaa.Tr
