/- The walk of the law TreeSubs. No condition but those that each states. -/
import Derived.Test.YtcfgngaabledpaaTrL
namespace Go.Proofs.Ytcfgngaabledpaa.Tr
open Go.RowKit Dk Lx

theorem part_zero (ks : List Int) : part ks 0 ks.length = ks := by unfold part; rw [List.drop_zero, List.take_length]

/-- A node's tree, by itself. -/
theorem sub_facts {ts : List Nd} {i n : Nat} (h : endW 1 ((kidsOf ts).drop i) = some n) :
    ((ts.drop i).take n).length = n ∧ endI (kidsOf ((ts.drop i).take n)) 0 = (n : Int) ∧ (kidsZ (kidsOf ((ts.drop i).take n)) 0).length = (kidsZ (kidsOf ts) (i : Int)).length ∧ ∃ d : Nat, 1 ≤ d ∧ depP [] 0 (part (kidsOf ts) i n) = some d ∧ depI (kidsOf ((ts.drop i).take n)) = (d : Int) := by
  have hle := endW_le _ _ _ h
  rw [List.length_drop, kidsOf_len] at hle
  have hlen : ((ts.drop i).take n).length = n := by rw [List.length_take, List.length_drop]; omega
  have hw := part_whole h
  have hpl : (part (kidsOf ts) i n).length = n := by rw [← kidsOf_part, kidsOf_len, hlen]
  rw [hpl] at hw
  have hw0 : endW 1 ((part (kidsOf ts) i n).drop 0) = some n := by rw [List.drop_zero]; exact hw
  obtain ⟨k, hk, hk0, hF, hn1⟩ := endW_node h
  have hk' : (part (kidsOf ts) i n)[0]? = some k := by
    unfold part
    rw [List.getElem?_take, if_pos (by omega), List.getElem?_drop, Nat.add_zero]
    exact hk
  refine ⟨hlen, ?_, ?_, ?_⟩
  · rw [kidsOf_part]
    have := endI_some (i := 0) hw0
    simpa using this
  · rw [kidsOf_part, kidsZ_some h hk, posZ_len]
    have := kidsZ_some (i := 0) hw0 hk'
    rw [show ((0 : Nat) : Int) = 0 from rfl] at this
    rw [this, posZ_len]
  · obtain ⟨d, hd, hD, -⟩ := tree_depth (part_whole h)
    exact ⟨d, hd, hD, by rw [kidsOf_part]; exact depI_some hD⟩

theorem nds_mid {W : World} {g o m c : Nat} {ts : List Nd} (h : Nds W (.slice (some ⟨g, o, none⟩) m c) ts) (i n : Nat) (h1 : i + n ≤ ts.length) : Nds W (.slice (some ⟨g, o + i * 5, none⟩) n (c - i)) ((ts.drop i).take n) := by
  obtain ⟨p', c', e, hc, hf, hp⟩ := h
  simp only [Value.slice.injEq] at e
  obtain ⟨rfl, -, rfl⟩ := e
  have hlen : ((ts.drop i).take n).length = n := by rw [List.length_take, List.length_drop]; omega
  refine ⟨_, _, by rw [hlen], by rw [hlen]; omega, fun x hx => hf x (List.mem_of_mem_drop (List.mem_of_mem_take hx)), ?_⟩
  rcases hp with rfl | ⟨g', o', hp, hg, hr⟩
  · exact .inl (by simp)
  · cases hp
    exact .inr ⟨g, _, rfl, hg, ncells_part h1 hr⟩

set_option maxHeartbeats 2000000 in
set_option maxRecDepth 100000 in
theorem subs_some (ts : List Nd) (p : Option Addr) (m c i n : Nat) (w : World) (hm : m = ts.length) (h : Nds w (.slice p m c) ts) (hn : endW 1 ((kidsOf ts).drop i) = some n) :
    Calls Try.prog 8 #[.slice p m c, .int .i64 (i : Int)] w fun e w' => e = .returned (.bool true) ∧ Below w.heap.size w w' := by
  have hle := endW_le _ _ _ hn
  rw [List.length_drop, kidsOf_len] at hle
  have hil : i < ts.length := by omega
  obtain ⟨g, o, rfl, -⟩ := h.node i hil
  have HNd := Lib.hid h
  have L1 := Lib.hid (light_any ts _ w h)
  have KN := Lib.hid (fun W => known9 W)
  go_enter Try.func8, Try.ntmps8
  have HM := Lib.hid hm
  have HW := Lib.hid hn
  have HLE := Lib.hid hle
  clear h hm hn hle hil
  go_wp2_with fail
  refine L1.out.mono ?_
  rintro e w1 ⟨⟨b1, rfl, h1⟩, rfl⟩
  cases b1 with
  | false =>
    clear h1 L1
    go_wp2_with fail
    refine (KN.out _).mono ?_
    rintro e w3 ⟨rfl, hb3⟩
    have HB3 := Lib.hid hb3
    clear hb3
    go_wp2
    go_ret
    exact ⟨rfl, HB3.out⟩
  | true =>
    have H1 := Lib.hid (h1 rfl)
    clear h1 L1
    have hl := H1.out.1
    obtain ⟨f1, f2, f3, d, f4, f5, f6⟩ := sub_facts HW.out
    have hle := HLE.out
    have hmm := HM.out
    have S1 : Hid (Calls Try.prog 13 #[.slice (some ⟨g, o, none⟩) m c, .int .i64 (i : Int)] w fun e w' => ∃ v, e = .returned v ∧ NR w w' v ((ts.drop i).take n)) := Lib.hid (by
      have := sub_any ts (.slice (some ⟨g, o, none⟩) m c) (i : Int) w HNd.out (by omega)
      unfold SubOk at this
      rwa [subL_some HW.out] at this)
    have E1 : Hid (∀ W, Below w.heap.size w W → Calls Try.prog 14 #[.slice (some ⟨g, o, none⟩) m c, .int .i64 (i : Int)] W fun e w' => e = .returned (.int .i64 ((i : Int) + (n : Int))) ∧ W = w') := Lib.hid (fun W hb => by
      have := end_any ts _ (i : Int) W (HNd.out.later hb) (by omega)
      rwa [endI_some HW.out] at this)
    have K1 : Hid (∀ W, Below w.heap.size w W → Calls Try.prog 17 #[.slice (some ⟨g, o, none⟩) m c, .int .i64 (i : Int)] W fun e w' => ∃ v, e = .returned v ∧ IR W w' v (kidsZ (kidsOf ts) (i : Int))) := Lib.hid (fun W hb => kids_any ts _ (i : Int) W (HNd.out.later hb) (by omega))
    have hfit : Fit ((ts.drop i).take n) := fun x hx => HNd.out.fit x (List.mem_of_mem_drop (List.mem_of_mem_take hx))
    have HFIT := Lib.hid hfit
    have HMID : Hid (∀ W, Below w.heap.size w W → Nds W (.slice (some ⟨g, o + i * 5, none⟩) n (c - i)) ((ts.drop i).take n)) := Lib.hid (fun W hb => nds_mid (HNd.out.later hb) i n (by omega))
    have hcm : m ≤ c := by
      obtain ⟨_, _, e, hc, -⟩ := HNd.out
      simp only [Value.slice.injEq] at e
      omega
    have hsl := fun W => run_slice_mid g o m c i n (by omega) hcm (by omega) W
    obtain ⟨S, hS⟩ : ∃ S, S = (ts.drop i).take n := ⟨_, rfl⟩
    rw [← hS] at f1 f2 f3 f6 S1 HFIT HMID
    have hn4 : n ≤ 2100 := by omega
    have HF1 := Lib.hid f1
    have HF2 := Lib.hid f2
    have HF3 := Lib.hid f3
    have HF6 := Lib.hid f6
    have z0 : ¬(i : Int) < 0 := by omega
    have e1 : IntKind.i64.wrap ((i : Int) + (n : Int)) = (i : Int) + (n : Int) := wrap_in _ (by omega)
    have z1 : ¬(i : Int) + (n : Int) > (m : Int) := by omega
    have y0 : ¬(n : Int) = 0 := by omega
    have y1 : ((n : Int) == 0) = false := by simpa using y0
    have y2 : ((n : Int) != (n : Int)) = false := by simp
    have y3 : ((i : Int) + (n : Int) != (i : Int) + (n : Int)) = false := by simp
    have y4 : ((n : Int) == (n : Int)) = true := by simp
    have y5 : ((i : Int) + (n : Int) == (i : Int) + (n : Int)) = true := by simp
    have hd1 : (d : Int) ≥ 1 := by omega
    clear f1 f2 f3 f4 f5 f6 hS hfit hl hle hmm hcm HLE HW
    go_wp2_with fail
    refine S1.out.mono ?_
    rintro e w1 ⟨v1, rfl, hr1⟩
    have hb1 := hr1.below
    obtain ⟨p1, c1, rfl, -⟩ := own_form0 hr1.row
    have HS1 := Lib.hid (hr1.nds HFIT.out)
    rw [HF1.out] at HS1 ⊢
    have HB1 := Lib.hid hb1
    clear hr1 hb1 S1
    go_wp2_with fail
    refine (end_any S _ 0 _ HS1.out (by rw [HF1.out]; omega)).mono ?_
    rw [HF2.out]
    rintro e w2 ⟨rfl, rfl⟩
    go_wp2_with fail
    refine (E1.out _ HB1.out).mono ?_
    rintro e w2 ⟨rfl, rfl⟩
    go_wp2_with fail
    refine (same_any S S _ _ _ HS1.out (HMID.out _ HB1.out) (by rw [HF1.out]; omega) (by rw [HF1.out]; omega)).mono ?_
    rw [decide_eq_true rfl]
    rintro e w2 ⟨rfl, hb2⟩
    have HS2 := Lib.hid (HS1.out.later hb2)
    have HB2 := Lib.hid (chain2 HB1.out hb2)
    clear hb2 HS1 HB1
    go_wp2_with fail
    refine (kids_any S _ 0 _ HS2.out (by rw [HF1.out]; omega)).mono ?_
    rintro e w3 ⟨v3, rfl, hr3⟩
    obtain ⟨p3, c3, rfl, -⟩ := own_form0 hr3.row
    rw [HF3.out]
    have HS3 := Lib.hid (HS2.out.later hr3.below)
    have HB3 := Lib.hid (chain2 HB2.out hr3.below)
    clear hr3 HS2 HB2
    go_wp2_with fail
    refine (K1.out _ HB3.out).mono ?_
    rintro e w4 ⟨v4, rfl, hr4⟩
    obtain ⟨p4, c4, rfl, -⟩ := own_form0 hr4.row
    have HS4 := Lib.hid (HS3.out.later hr4.below)
    have HB4 := Lib.hid (chain2 HB3.out hr4.below)
    clear hr4 HS3 HB3
    generalize (kidsZ (kidsOf ts) (i : Int)).length = kl at *
    have y6 : ((kl : Int) == (kl : Int)) = true := by simp
    go_wp2_with fail
    refine (depth_any S _ _ HS4.out (by rw [HF1.out]; omega)).mono ?_
    rw [HF6.out]
    rintro e w5 ⟨rfl, hb5⟩
    have HB5 := Lib.hid (chain2 HB4.out hb5)
    clear hb5 HS4 HB4
    go_wp2_with fail
    refine (KN.out _).mono ?_
    rintro e w6 ⟨rfl, hb6⟩
    have HB6 := Lib.hid (chain2 HB5.out hb6)
    clear hb6
    go_wp2
    go_ret
    exact ⟨rfl, HB6.out⟩

set_option maxHeartbeats 1000000 in
theorem subs_none (ts : List Nd) (v : Value) (i : Int) (w : World) (h : Nds w v ts) (hn : endI (kidsOf ts) i = -1) :
    Calls Try.prog 8 #[v, .int .i64 i] w fun e w' => e = .returned (.bool true) ∧ Below w.heap.size w w' := by
  have HNd := Lib.hid h
  have L1 := Lib.hid (light_any ts _ w h)
  have KN := Lib.hid (fun W => known9 W)
  have HW := Lib.hid hn
  clear h hn
  go_enter Try.func8, Try.ntmps8
  go_wp2_with fail
  refine L1.out.mono ?_
  rintro e w1 ⟨⟨b1, rfl, h1⟩, rfl⟩
  cases b1 with
  | false =>
    clear h1 L1
    go_wp2_with fail
    refine (KN.out _).mono ?_
    rintro e w3 ⟨rfl, hb3⟩
    have HB3 := Lib.hid hb3
    clear hb3
    go_wp2
    go_ret
    exact ⟨rfl, HB3.out⟩
  | true =>
    have H1 := Lib.hid (h1 rfl)
    clear h1 L1
    have S1 : Hid (Calls Try.prog 13 #[v, .int .i64 i] w fun e w' => ∃ u, e = .returned u ∧ NR w w' u []) := Lib.hid (by
      have := sub_any ts v i w HNd.out (by have := H1.out.1; omega)
      unfold SubOk at this
      rwa [subL_none HW.out] at this)
    have E1 : Hid (∀ W, Below w.heap.size w W → Calls Try.prog 14 #[v, .int .i64 i] W fun e w' => e = .returned (.int .i64 (-1)) ∧ W = w') := Lib.hid (fun W hb => by
      have := end_any ts _ i W (HNd.out.later hb) (by have := H1.out.1; omega)
      rwa [HW.out] at this)
    go_wp2_with fail
    refine S1.out.mono ?_
    rintro e w1 ⟨v1, rfl, hr1⟩
    obtain ⟨p1, c1, rfl, -⟩ := own_form0 hr1.row
    rw [List.length_nil]
    have HB1 := Lib.hid hr1.below
    clear hr1 S1
    go_wp2_with fail
    refine (E1.out _ HB1.out).mono ?_
    rintro e w2 ⟨rfl, rfl⟩
    go_wp2_with fail
    refine (KN.out _).mono ?_
    rintro e w6 ⟨rfl, hb6⟩
    have HB6 := Lib.hid (chain2 HB1.out hb6)
    clear hb6
    go_wp2
    go_ret
    exact ⟨rfl, HB6.out⟩

theorem treeSubs_law {H : Type} {enc : TypeId × Value → H} {w : World} {b0 : Nat} {v : Value} {d : DataW H} {p : List MemPlace}
    (hv : Value.okWide Try.prog w .any b0 22 v) (h : DataW.Trod enc Try.prog w 0 (fun _ => true) true 22 v d p) (i : Int) (_wi : (Lit.int .i64 i).wf = true) :
    Calls Try.prog 8 #[v, .int .i64 i] w fun e w' => e = .returned (.bool true) ∧ Below w.heap.size w w' := by
  obtain ⟨ts, ht⟩ := open_nds hv h
  rcases endI_cases (kidsOf ts) i with h1 | ⟨k, n, rfl, h1, -, -, -⟩
  · exact subs_none ts v i w ht h1
  · obtain ⟨q, c, rfl, -⟩ := id ht
    exact subs_some ts q _ c k n w rfl ht h1

end Go.Proofs.Ytcfgngaabledpaa.Tr
