/- The walks of the document's fields, whole, and of its Check; TreeChecks: the walk of the law. No condition but those that each states. -/
import Derived.Test.YtcfgngaabledpaaTrUx0
import Derived.Test.YtcfgngaabledpaaTrUx1
import Derived.Test.YtcfgngaabledpaaTrUx2
import Derived.Test.YtcfgngaabledpaaTrUx3
import Derived.Test.YtcfgngaabledpaaTrUx19
import Derived.Test.YtcfgngaabledpaaTrUx20
import Derived.Test.YtcfgngaabledpaaTrUx23
import Derived.Test.YtcfgngaabledpaaTrUx27
import Derived.Test.YtcfgngaabledpaaTrUx28
import Derived.Test.YtcfgngaabledpaaTrH
import Derived.Test.YtcfgngaabledpaaTrL
import Derived.Test.YtcfgngaabledpaaTrPlW
namespace Go.Proofs.Ytcfgngaabledpaa.Tr
open Go.RowKit Dk Lx

theorem rf_any (x : Nd) (h : x.name.length ≤ 2000 ∧ x.text.length ≤ 2000) (w : World) :
    Calls Try.prog 30 #[.agg x.cells.toArray] w fun e w' => e = .returned (.bool (fieldsR x)) ∧ Below w.heap.size w w' := by
  obtain ⟨k, d, q, z, s⟩ := x
  obtain ⟨h1, h2⟩ : q.length ≤ 2000 ∧ s.length ≤ 2000 := h
  show Calls _ _ #[.agg #[.int .i64 k, .int .i64 d, .string (strOf q), .int .i64 z, .string (strOf s)]] w _
  by_cases a0 : k = 1
  · have := rf_1 k d z q s a0 h1 h2 w
    have e : fieldsR ⟨k, d, q, z, s⟩ = _ := (congrArg (· && (decide (1 ≤ k) && decide (k ≤ 30))) (show fieldsP ⟨k, d, q, z, s⟩ = _ from if_pos a0)).trans ((congrArg (_ && ·) (show (decide (1 ≤ k) && decide (k ≤ 30)) = true by subst a0; rfl)).trans (Bool.and_true _))
    rw [e]
    simpa [Bool.and_comm, Bool.and_assoc, Bool.and_left_comm] using this
  by_cases a1 : k = 2
  · have := rf_2 k d z q s a1 h1 h2 w
    have e : fieldsR ⟨k, d, q, z, s⟩ = _ := (congrArg (· && (decide (1 ≤ k) && decide (k ≤ 30))) (show fieldsP ⟨k, d, q, z, s⟩ = _ from (if_neg a0).trans (if_pos a1))).trans ((congrArg (_ && ·) (show (decide (1 ≤ k) && decide (k ≤ 30)) = true by subst a1; rfl)).trans (Bool.and_true _))
    rw [e]
    simpa [Bool.and_comm, Bool.and_assoc, Bool.and_left_comm] using this
  by_cases a2 : k = 3 ∨ k = 4 ∨ k = 6 ∨ k = 7 ∨ k = 21
  · have := rf_3 k d z q s a2 h1 h2 w
    have e : fieldsR ⟨k, d, q, z, s⟩ = _ := (congrArg (· && (decide (1 ≤ k) && decide (k ≤ 30))) (show fieldsP ⟨k, d, q, z, s⟩ = _ from (if_neg a0).trans ((if_neg a1).trans (if_pos a2)))).trans ((congrArg (_ && ·) (show (decide (1 ≤ k) && decide (k ≤ 30)) = true by rcases a2 with rfl | rfl | rfl | rfl | rfl <;> rfl)).trans (Bool.and_true _))
    rw [e]
    simpa [Bool.and_comm, Bool.and_assoc, Bool.and_left_comm] using this
  by_cases a3 : k = 19
  · have := rf_19 k d z q s a3 h1 h2 w
    have e : fieldsR ⟨k, d, q, z, s⟩ = _ := (congrArg (· && (decide (1 ≤ k) && decide (k ≤ 30))) (show fieldsP ⟨k, d, q, z, s⟩ = _ from (if_neg a0).trans ((if_neg a1).trans ((if_neg a2).trans (if_pos a3))))).trans ((congrArg (_ && ·) (show (decide (1 ≤ k) && decide (k ≤ 30)) = true by subst a3; rfl)).trans (Bool.and_true _))
    rw [e]
    simpa [Bool.and_comm, Bool.and_assoc, Bool.and_left_comm] using this
  by_cases a4 : k = 20
  · have := rf_20 k d z q s a4 h1 h2 w
    have e : fieldsR ⟨k, d, q, z, s⟩ = _ := (congrArg (· && (decide (1 ≤ k) && decide (k ≤ 30))) (show fieldsP ⟨k, d, q, z, s⟩ = _ from (if_neg a0).trans ((if_neg a1).trans ((if_neg a2).trans ((if_neg a3).trans (if_pos a4)))))).trans ((congrArg (_ && ·) (show (decide (1 ≤ k) && decide (k ≤ 30)) = true by subst a4; rfl)).trans (Bool.and_true _))
    rw [e]
    simpa [Bool.and_comm, Bool.and_assoc, Bool.and_left_comm] using this
  by_cases a5 : k = 23
  · have := rf_23 k d z q s a5 h1 h2 w
    have e : fieldsR ⟨k, d, q, z, s⟩ = _ := (congrArg (· && (decide (1 ≤ k) && decide (k ≤ 30))) (show fieldsP ⟨k, d, q, z, s⟩ = _ from (if_neg a0).trans ((if_neg a1).trans ((if_neg a2).trans ((if_neg a3).trans ((if_neg a4).trans (if_pos a5))))))).trans ((congrArg (_ && ·) (show (decide (1 ≤ k) && decide (k ≤ 30)) = true by subst a5; rfl)).trans (Bool.and_true _))
    rw [e]
    simpa [Bool.and_comm, Bool.and_assoc, Bool.and_left_comm] using this
  by_cases a6 : k = 27
  · have := rf_27 k d z q s a6 h1 h2 w
    have e : fieldsR ⟨k, d, q, z, s⟩ = _ := (congrArg (· && (decide (1 ≤ k) && decide (k ≤ 30))) (show fieldsP ⟨k, d, q, z, s⟩ = _ from (if_neg a0).trans ((if_neg a1).trans ((if_neg a2).trans ((if_neg a3).trans ((if_neg a4).trans ((if_neg a5).trans (if_pos a6)))))))).trans ((congrArg (_ && ·) (show (decide (1 ≤ k) && decide (k ≤ 30)) = true by subst a6; rfl)).trans (Bool.and_true _))
    rw [e]
    simpa [Bool.and_comm, Bool.and_assoc, Bool.and_left_comm] using this
  by_cases a7 : k = 28
  · have := rf_28 k d z q s a7 h1 h2 w
    have e : fieldsR ⟨k, d, q, z, s⟩ = _ := (congrArg (· && (decide (1 ≤ k) && decide (k ≤ 30))) (show fieldsP ⟨k, d, q, z, s⟩ = _ from (if_neg a0).trans ((if_neg a1).trans ((if_neg a2).trans ((if_neg a3).trans ((if_neg a4).trans ((if_neg a5).trans ((if_neg a6).trans (if_pos a7))))))))).trans ((congrArg (_ && ·) (show (decide (1 ≤ k) && decide (k ≤ 30)) = true by subst a7; rfl)).trans (Bool.and_true _))
    rw [e]
    simpa [Bool.and_comm, Bool.and_assoc, Bool.and_left_comm] using this
  have := rf_0 k d z q s (by omega) h1 h2 w
  have e : fieldsR ⟨k, d, q, z, s⟩ = _ := congrArg (· && (decide (1 ≤ k) && decide (k ≤ 30))) (show fieldsP ⟨k, d, q, z, s⟩ = _ from (if_neg a0).trans ((if_neg a1).trans ((if_neg a2).trans ((if_neg a3).trans ((if_neg a4).trans ((if_neg a5).trans ((if_neg a6).trans (if_neg a7))))))))
  rw [e]
  simpa [Bool.and_comm, Bool.and_assoc, Bool.and_left_comm] using this

/-- Where all ahead is right a node's kind is one of those that there are. -/
theorem kind_ok {ts : List Nd} (h3 : endW 1 ((kidsOf ts).drop 0) = some ts.length) (h4 : kindAt ts 0 = 1) {i : Nat} (hi : i < ts.length) (h5 : ∀ a, a < i → goodAt ts a = true) : 1 ≤ ts[i].kind ∧ ts[i].kind ≤ 30 := by
  by_cases h0 : i = 0
  · subst h0
    unfold kindAt at h4
    have : ts[0].kind = 1 := by simpa [hi] using h4
    omega
  · obtain ⟨a, c, m, j, ha, hm, hc, hj, hp⟩ := parent (ks := kidsOf ts) (i := i) i 0 ts.length (by omega) (by omega) h3 (by omega)
    have hg := h5 a ha
    unfold goodAt at hg
    rw [Bool.and_eq_true] at hg
    have hK : ts[i].kind ∈ kindsL ts (a : Int) := by
      unfold kindsL
      rw [kidsZ_some hm hc, Int.toNat_natCast]
      refine List.mem_map.2 ⟨(i : Int), ?_, ?_⟩
      · unfold posZ
        exact List.mem_map.2 ⟨i, List.mem_map.2 ⟨j, List.mem_range.2 hj, hp⟩, rfl⟩
      · unfold kindAt; simp [hi]
    obtain ⟨g, hg1, hg2⟩ := matchG_mem _ _ hg.2 _ hK
    have := pr_range (groups_range _ g hg1) hg2
    omega

set_option maxHeartbeats 2000000 in
set_option maxRecDepth 100000 in
theorem rcheck_nat (ts : List Nd) (p : Option Addr) (n c : Nat) (w : World) (hn : n = ts.length) (h : Nds w (.slice p n c) ts) (hl : n ≤ 2100) (hs : Short ts) :
    Calls Try.prog 12 #[.slice p n c] w fun e w' => e = .returned (pairV (checkL ts)) ∧ Below w.heap.size w w' := by
  have HN := Lib.hid hn
  by_cases g1 : 2000 < ts.length
  · have HF : Hid (checkL ts = (3, 0)) := Lib.hid (if_pos g1)
    have v1 : (n : Int) > 2000 := by omega
    rw [HF.out]
    clear h hn g1 hl
    go_enter Try.func12, Try.ntmps12
    go_wp2
    go_ret2
    exact ⟨rfl, Below.refl _ _⟩
  have v1 : ¬(n : Int) > 2000 := by omega
  have CE := Lib.hid (rend_any ts (.slice p n c) 0 w h (by omega))
  generalize hE : endI (kidsOf ts) 0 = E at *
  by_cases g2 : E = (n : Int)
  case neg =>
    have HF : Hid (checkL ts = (2, 0)) := Lib.hid ((if_neg g1).trans (if_pos (by rw [hE, ← hn]; exact g2)))
    have v2 : (E == (n : Int)) = false := by simpa using g2
    have v3 : (E != (n : Int)) = true := by simpa using g2
    rw [HF.out]
    clear h hn g1 g2 hl hE
    go_enter Try.func12, Try.ntmps12
    go_wp2_with (go_at_call 15; refine CE.out.mono ?_; rintro e w1 ⟨rfl, rfl⟩)
    go_ret2
    exact ⟨rfl, Below.refl _ _⟩
  subst g2
  have hpos : 0 < ts.length := by
    rcases endI_cases (kidsOf ts) 0 with h1 | ⟨a, m, -, -, h1, h2, -⟩
    · omega
    · rw [kidsOf_len] at h2; omega
  have v2 : ((n : Int) == (n : Int)) = true := by simp
  have v7 : ((n : Int) == 0) = false := by simp; omega
  have v3 : ((n : Int) != (n : Int)) = false := by simp
  have CD := Lib.hid (rdepth_any ts (.slice p n c) w h (by omega))
  generalize hD : depI (kidsOf ts) = D at *
  by_cases g3 : 60 < D
  · have HF : Hid (checkL ts = (3, 0)) := Lib.hid ((if_neg g1).trans ((if_neg (by rw [hE, hn]; exact fun h => h rfl)).trans (if_pos (by rw [hD]; exact g3))))
    have v4 : D > 60 := g3
    rw [HF.out]
    clear h hn g1 g3 hl hE hD
    go_enter Try.func12, Try.ntmps12
    go_wp2_with (first
      | (go_at_call 15; refine CE.out.mono ?_; rintro e w1 ⟨rfl, rfl⟩)
      | (go_at_call 22; refine CD.out.mono ?_; rintro e w2 ⟨rfl, hb2⟩; have HB2 := Lib.hid hb2; clear hb2))
    go_ret2
    exact ⟨rfl, HB2.out⟩
  have v4 : ¬D > 60 := g3
  have HNd := Lib.hid h
  have HK0 : Hid (∀ W, Below w.heap.size w W → ∃ g o, p = some ⟨g, o, none⟩ ∧ W.cell? ⟨g, o, none⟩ = some (.int .i64 (kindAt ts 0))) := Lib.hid (fun W hb => by
    obtain ⟨g, o, hp, -, h1, -⟩ := (h.later hb).node 0 hpos
    refine ⟨g, o, hp, ?_⟩
    rw [Nat.zero_mul, Nat.add_zero] at h1
    rw [h1]; unfold kindAt; simp [hpos])
  obtain ⟨g, o, rfl, -⟩ := HK0.out w (Below.refl _ _)
  have HK1 : Hid (∀ W, Below w.heap.size w W → W.cell? ⟨g, o, none⟩ = some (.int .i64 (kindAt ts 0))) := Lib.hid (fun W hb => by
    obtain ⟨g', o', hp, h1⟩ := HK0.out W hb
    cases hp; exact h1)
  generalize hK : kindAt ts 0 = K at *
  have hn0 : (0 : Int) < (n : Int) := by omega
  by_cases g4 : K = 1
  case neg =>
    have HF : Hid (checkL ts = (4, 0)) := Lib.hid ((if_neg g1).trans ((if_neg (by rw [hE, hn]; exact fun h => h rfl)).trans ((if_neg (by rw [hD]; exact g3)).trans (if_pos (by rw [hK]; exact g4)))))
    have v5 : (K == 1) = false := by simpa using g4
    have v6 : (K != 1) = true := by simpa using g4
    rw [HF.out]
    clear h hn g1 g3 g4 hl hE hD hK HK0
    go_enter Try.func12, Try.ntmps12
    go_wp2_with (first
      | (go_at_call 15; refine CE.out.mono ?_; rintro e w1 ⟨rfl, rfl⟩)
      | (go_at_call 22; refine CD.out.mono ?_; rintro e w2 ⟨rfl, hb2⟩; have HB2 := Lib.hid hb2; have c0 := HK1.out _ hb2; clear hb2))
    go_ret2
    exact ⟨rfl, HB2.out⟩
  subst g4
  have HF : Hid (checkL ts = match scanG (goodAt ts) ts.length 0 with
    | some i => (4, (i : Int))
    | none => (0, 0)) := Lib.hid ((if_neg g1).trans ((if_neg (by rw [hE, hn]; exact fun h => h rfl)).trans ((if_neg (by rw [hD]; exact g3)).trans (if_neg (by rw [hK]; exact fun h => h rfl)))))
  obtain ⟨R, hR⟩ : ∃ R, R = checkL ts := ⟨_, rfl⟩
  rw [← hR] at HF ⊢
  have HS := Lib.hid hs
  have HK1q : Hid (kindAt ts 0 = 1) := Lib.hid hK
  have HWH : Hid (endW 1 ((kidsOf ts).drop 0) = some ts.length) := Lib.hid (by
    rcases endI_cases (kidsOf ts) 0 with q1 | ⟨a, m, q0, q1, -, -, q2⟩
    · omega
    · obtain rfl : a = 0 := by omega
      rw [q1]; congr 1; omega)
  obtain ⟨i0, hi0, hy0, hy1, hy2⟩ := info_parts int_info3
  clear h g1 g3 hE hD hK HK0 hn hR hs
  go_enter Try.func12, Try.ntmps12
  go_wp2_with (first
    | (go_at_call 15; refine CE.out.mono ?_; rintro e w1 ⟨rfl, rfl⟩)
    | (go_at_call 22; refine CD.out.mono ?_; rintro e w2 ⟨rfl, hb2⟩; have HB2 := Lib.hid hb2; have c0 := HK1.out _ hb2; clear hb2))
  clear CE CD HK1 c0 v2 v3 v4 v7
  have hn2 : n ≤ 2000 := by omega
  go_loopw [4] (fun vi wr => ∃ i : Nat, i ≤ n ∧ vi = .int .i64 (i : Int) ∧ Hid (Below w.heap.size w wr) ∧ Hid (scanG (goodAt ts) ts.length 0 = scanG (goodAt ts) (n - i) i) ∧ Hid (∀ a, a < i → goodAt ts a = true)) (fun vi _ => n - (intOf vi).toNat)
  case atStart => exact ⟨0, Nat.zero_le _, rfl, HB2, Lib.hid (by rw [HN.out]; rfl), Lib.hid (fun a ha => absurd ha (Nat.not_lt_zero a))⟩
  case round =>
    clear HB2
    obtain ⟨i, hi, rfl, hB, hG, hA⟩ := hrel
    by_cases hlt : i < n
    · have hil : i < ts.length := by rw [← HN.out]; exact hlt
      have hnl : ts.length ≤ 2000 := by rw [← HN.out]; exact hn2
      have z0 : (0 : Int) ≤ (i : Int) := by omega
      have z1 : (i : Int) < (n : Int) := by omega
      have hG' := hG.out
      obtain ⟨f, hf⟩ : ∃ f, n - i = f + 1 ∧ n - (i + 1) = f := ⟨n - i - 1, by omega, by omega⟩
      rw [hf.1, scanG_succ, ← hf.2] at hG'
      have HRN : Hid (∀ W, Below w.heap.size w W → W.rangeAt g (o + i * 5) (ts[i]'hil).cells ∧ W.cell? ⟨g, o + i * 5, none⟩ = some (.int .i64 (kindAt ts (i : Int)))) := Lib.hid (fun W hb => by
        obtain ⟨g', o', hp, -, h1, -, -, -, -, hr⟩ := (HNd.out.later hb).node i hil
        cases hp
        exact ⟨hr, by rw [h1]; unfold kindAt; rw [Int.toNat_natCast]; simp [hil]⟩)
      have HNA : Hid (∀ W, Below w.heap.size w W → ∀ a : Nat, a < ts.length → W.cell? ⟨g, o + a * 5, none⟩ = some (.int .i64 (kindAt ts (a : Int)))) := Lib.hid (fun W hb a ha => by
        obtain ⟨g', o', hp, -, h1, -⟩ := (HNd.out.later hb).node a ha
        cases hp
        rw [h1]; unfold kindAt; rw [Int.toNat_natCast]; simp [ha])
      have hsx := HS.out ts[i] (List.getElem_mem hil)
      have hko := kind_ok HWH.out HK1q.out hil hA.out
      have hga : goodAt ts i = (fieldsR ts[i] && kidsR (kindAt ts (i : Int)) (kindsL ts (i : Int))) := by
        unfold goodAt fieldsR
        rw [decide_eq_true hko.1, decide_eq_true hko.2, kids_match _ _ (by unfold kindsL; rw [List.length_map]; have := kidsZ_le ts (i : Int); omega)]
        simp [hil]
      have HAN : Hid (goodAt ts i = true → ∀ a, a < i + 1 → goodAt ts a = true) := Lib.hid (fun h a ha => by
        by_cases hai : a = i
        · rw [hai]; exact h
        · exact hA.out a (by omega))
      rw [hga] at hG' HAN
      have CK : Hid (∀ W, Below w.heap.size w W → Calls Try.prog 18 #[.slice (some ⟨g, o, none⟩) n c, .int .i64 (i : Int)] W fun e w' => ∃ v, e = .returned v ∧ IR W w' v (kidsZ (kidsOf ts) (i : Int))) := Lib.hid (fun W hb => rkids_any ts _ (i : Int) W (HNd.out.later hb) (by omega))
      have HZLT := Lib.hid (kidsZ_lt ts (i : Int))
      have hZL := kidsZ_le ts (i : Int)
      have hKL : kindsL ts (i : Int) = (kidsZ (kidsOf ts) (i : Int)).map (kindAt ts) := rfl
      rw [hKL] at hG' HAN
      clear hga hKL
      generalize kidsZ (kidsOf ts) (i : Int) = Z at *
      obtain ⟨m, hm⟩ : ∃ m, m = Z.length := ⟨_, rfl⟩
      have hm2 : m ≤ 2000 := by omega
      have HM := Lib.hid hm
      have CKK : Hid (∀ W v, Ins W v (Z.map (kindAt ts)) → Calls Try.prog 31 #[.int .i64 (kindAt ts (i : Int)), v] W fun e w' => e = .returned (.bool (kidsR (kindAt ts (i : Int)) (Z.map (kindAt ts)))) ∧ W = w') := Lib.hid (fun W v hv => rkids_kinds _ _ v W hv (by rw [List.length_map]; omega))
      generalize kidsR (kindAt ts (i : Int)) (Z.map (kindAt ts)) = mg at *
      have CF := Lib.hid (fun W => rf_any ts[i] hsx W)
      generalize fieldsR ts[i] = fx at *
      generalize ts[i] = x at *
      generalize kindAt ts (i : Int) = ki at *
      have HXI := Lib.hid (n_info x)
      have HG2 := Lib.hid hG'
      clear hf hsx hil hG hG' hko hA hZL hm hnl
      go_wp2_with fail
      refine (CK.out _ hB.out).mono ?_
      rintro e w5 ⟨v5, rfl, hr5⟩
      have HI5 := Lib.hid hr5.ins
      obtain ⟨p5, c5, rfl, -⟩ := own_form0 hr5.row
      rw [← HM.out] at HI5 ⊢
      have HB5 := Lib.hid (chain2 hB.out hr5.below)
      have HE0 : Hid (IR w5 w5 (.slice none 0 0) ((Z.take 0).map (kindAt ts))) := Lib.hid (by rw [List.take_zero]; exact IR.first w5)
      clear hr5 hB CK
      go_wp2_with fail
      go_loopw [6, 7] (fun vk vj wr => ∃ j : Nat, j ≤ m ∧ vj = .int .i64 (j : Int) ∧ Hid (IR w5 wr vk ((Z.take j).map (kindAt ts)))) (fun _ vj _ => m - (intOf vj).toNat)
      case atStart => exact ⟨0, Nat.zero_le _, rfl, HE0⟩
      case round =>
        clear HE0
        obtain ⟨j, hj, rfl, hI⟩ := hrel
        have HBW := Lib.hid (chain2 HB5.out hI.out.below)
        by_cases hjl : j < m
        · have hjZ : j < Z.length := by rw [← HM.out]; exact hjl
          obtain ⟨g6, o6, rfl, -, c6⟩ := (HI5.out.later hI.out.below).int j hjZ
          obtain ⟨q, hq, hqt⟩ := HZLT.out Z[j] (List.getElem_mem hjZ)
          rw [hq] at c6
          have c7 := HNA.out wr HBW.out q hqt
          have hqn : (q : Int) < (n : Int) := by rw [HN.out]; omega
          have hq0 : (0 : Int) ≤ (q : Int) := by omega
          have HST : Hid ((Z.take (j + 1)).map (kindAt ts) = (Z.take j).map (kindAt ts) ++ [kindAt ts (q : Int)]) := Lib.hid (by rw [List.take_succ_eq_append_getElem hjZ, List.map_append, hq]; rfl)
          have HLE : Hid (((Z.take j).map (kindAt ts)).length = j) := Lib.hid (by rw [List.length_map, List.length_take]; omega)
          generalize kindAt ts (q : Int) = kq at *
          generalize hLj : (Z.take j).map (kindAt ts) = Lj at *
          have N1 := Lib.hid (news_at wr #[.int .i64 kq] 3)
          have x0 : (0 : Int) ≤ (j : Int) := by omega
          have x1 : (j : Int) < (m : Int) := by omega
          clear hq hqt hjZ hLj
          go_wp2_with (first
            | (refine wpList_append_lies _ rfl (.tmp 44) (.tmp 53) 31 rfl w5.heap.size 3 i0 (.int .i64 0) 1 8 Try.underlying31 hi0 hy0 hy1 hy2 rfl (by decide) _ Lj.length (iv Lj) rfl (hI.out.row.alloc _) ⟨wr.heap.size, 0, none⟩ 1 1 [.int .i64 kq] rfl rfl N1.out (by simp [Value.oneCell']) (by decide) (by rw [HLE.out]; unfold maxLen; omega) (by rw [HLE.out]; omega) (by have := hI.out.below.size; simp; omega) (wr.heap.size + 1) (by simp) ?_; intro g' cap W7 hrow hgr hgl hlt7; have HX2 := Lib.hid (hI.out.push hrow hgr); clear hrow hgr hgl hlt7)
            | fail)
          go_roundw
          case rel => exact ⟨j + 1, hjl, by go_num, by rw [HST.out]; exact HX2⟩
          case measure => simp [intOf]; omega
        · obtain rfl : j = m := by omega
          have hlk : ((Z.take j).map (kindAt ts)).length = j := by rw [List.length_map, List.length_take, ← HM.out]; omega
          obtain ⟨pk, ckc, hvk, -, -⟩ := own_form0 hI.out.row
          rw [hlk] at hvk
          have HIK : Hid (Ins wr (.slice pk j ckc) (Z.map (kindAt ts))) := Lib.hid (by have := hI.out.ins; rw [hvk] at this; rwa [List.take_of_length_le (by rw [← HM.out]; exact Nat.le_refl _)] at this)
          clear hlk
          obtain ⟨rr, ck⟩ := HRN.out wr HBW.out
          have HRR := Lib.hid rr
          clear rr hI HRN HNA
          subst hvk
          cases fx with
          | false =>
            have HF2 : Hid (R = (4, (i : Int))) := Lib.hid (by rw [HF.out, HG2.out, Bool.false_and]; rfl)
            go_wp2_with (first
              | (refine wpList_load_mid rfl 36 (.tmp 57) rfl g (o + i * 5) rfl x.cells _ HRR.out Try.underlying36 rfl HXI.out ?_)
              | fail)
            refine (CF.out _).mono ?_
            rintro e W4 ⟨rfl, hb4⟩
            have HB4 := Lib.hid (chain2 HBW.out hb4)
            clear hb4
            go_wp2
            go_ret2
            exact ⟨by rw [HF2.out]; rfl, HB4.out⟩
          | true =>
            go_wp2_with (first
              | (refine wpList_load_mid rfl 36 (.tmp 57) rfl g (o + i * 5) rfl x.cells _ HRR.out Try.underlying36 rfl HXI.out ?_)
              | fail)
            refine (CF.out _).mono ?_
            rintro e W4 ⟨rfl, hb4⟩
            have HB4 := Lib.hid (chain2 HBW.out hb4)
            have HIK4 := Lib.hid (HIK.out.later hb4)
            have ck4 : W4.cell? ⟨g, o + i * 5, none⟩ = some (.int .i64 ki) := by rw [World.cell?_of_block (hb4.block g (World.block_lt_of_cell? wr _ ck))]; exact ck
            clear hb4 ck HIK
            go_wp2_with fail
            refine (CKK.out _ _ HIK4.out).mono ?_
            rintro e W5 ⟨rfl, rfl⟩
            cases mg with
            | false =>
              have HF2 : Hid (R = (4, (i : Int))) := Lib.hid (by rw [HF.out, HG2.out]; rfl)
              go_wp2
              go_ret2
              exact ⟨by rw [HF2.out]; rfl, HB4.out⟩
            | true =>
              have HG3 : Hid (scanG (goodAt ts) ts.length 0 = scanG (goodAt ts) (n - (i + 1)) (i + 1)) := Lib.hid HG2.out
              have HA3 := Lib.hid (HAN.out rfl)
              go_wp2
              go_roundw
              case rel => exact ⟨i + 1, by omega, by go_num, HB4, HG3, HA3⟩
              case measure => simp [intOf]; omega
    · obtain rfl : i = n := by omega
      have HF2 : Hid (R = (0, 0)) := Lib.hid (by rw [HF.out, hG.out, Nat.sub_self]; rfl)
      clear hG
      go_wp2
      go_ret2
      exact ⟨by rw [HF2.out]; rfl, hB.out⟩

theorem rcheck_any (ts : List Nd) (v : Value) (w : World) (h : Nds w v ts) (hl : ts.length ≤ 2100) (hs : Short ts) :
    Calls Try.prog 12 #[v] w fun e w' => e = .returned (pairV (checkL ts)) ∧ Below w.heap.size w w' := by
  obtain ⟨p, c, rfl, -⟩ := id h
  exact rcheck_nat ts p _ c w rfl h hl hs

set_option maxHeartbeats 2000000 in
set_option maxRecDepth 100000 in
theorem checks_main (ts : List Nd) (v : Value) (w : World) (h : Nds w v ts) :
    Calls Try.prog 3 #[v] w fun e w' => e = .returned (.bool true) ∧ Below w.heap.size w w' := by
  have HNd := Lib.hid h
  have L1 := Lib.hid (light_any ts _ w h)
  have KN := Lib.hid (fun W => known9 W)
  clear h
  go_enter Try.func3, Try.ntmps3
  go_wp2_with fail
  refine L1.out.mono ?_
  rintro e w1 ⟨⟨b1, rfl, h1⟩, rfl⟩
  cases b1 with
  | false =>
    clear h1 L1
    go_wp2_with fail
    refine (KN.out _).mono ?_
    rintro e w3 ⟨rfl, hb3⟩
    have HB3 := Lib.hid hb3
    clear hb3
    go_wp2
    go_ret
    exact ⟨rfl, HB3.out⟩
  | true =>
    obtain ⟨hl, hs⟩ := h1 rfl
    clear h1 L1
    have C1 : Hid (Calls Try.prog 11 #[v] w fun e w' => e = .returned (.tuple #[.int .i64 (checkL ts).1, .int .i64 (checkL ts).2]) ∧ Below w.heap.size w w') := Lib.hid (check_any ts v w HNd.out (by omega) hs)
    have C2 : Hid (∀ W, Below w.heap.size w W → Calls Try.prog 12 #[v] W fun e w' => e = .returned (.tuple #[.int .i64 (checkL ts).1, .int .i64 (checkL ts).2]) ∧ Below W.heap.size W w') := Lib.hid (fun W hb => rcheck_any ts v W (HNd.out.later hb) hl hs)
    generalize (checkL ts).1 = a at *
    generalize (checkL ts).2 = b at *
    have e1 : (a == a) = true := by simp
    have e2 : (b == b) = true := by simp
    clear hl hs
    go_wp2_with fail
    refine C1.out.mono ?_
    rintro e w2 ⟨rfl, hb2⟩
    have HB2 := Lib.hid hb2
    clear hb2
    go_wp2_with fail
    refine (C2.out _ HB2.out).mono ?_
    rintro e w3 ⟨rfl, hb3⟩
    have HB3 := Lib.hid (chain2 HB2.out hb3)
    clear hb3
    go_wp2_with fail
    refine (KN.out _).mono ?_
    rintro e w4 ⟨rfl, hb4⟩
    have HB4 := Lib.hid (chain2 HB3.out hb4)
    clear hb4
    go_wp2
    go_ret
    exact ⟨rfl, HB4.out⟩

theorem treeChecks_law {H : Type} {enc : TypeId × Value → H} {w : World} {b0 : Nat} {v : Value} {d : DataW H} {p : List MemPlace}
    (hv : Value.okWide Try.prog w .any b0 22 v) (h : DataW.Trod enc Try.prog w 0 (fun _ => true) true 22 v d p) :
    Calls Try.prog 3 #[v] w fun e w' => e = .returned (.bool true) ∧ Below w.heap.size w w' := by
  obtain ⟨ts, ht⟩ := open_nds hv h
  exact checks_main ts v w ht

end Go.Proofs.Ytcfgngaabledpaa.Tr
