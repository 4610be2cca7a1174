/- The walks of the document's fields, whole, and of its Check; TreeChecks; The document's Tokens; The walks of slices. No condition but those that each states. -/
import Derived.Test.YtmljjpdodcpohaaGreatDoorMgBO
import Derived.Test.YtmljjpdodcpohaaGreatDoorMgBP
import Derived.Test.YtmljjpdodcpohaaGreatDoorMgBQ
import Derived.Test.YtmljjpdodcpohaaGreatDoorMgBR
import Derived.Test.YtmljjpdodcpohaaGreatDoorMgAX
import Derived.Test.YtmljjpdodcpohaaGreatDoorMgBN
import Derived.Test.YtmljjpdodcpohaaGreatDoorMgAP
import Derived.Test.YtmljjpdodcpohaaGreatDoorMgAE
import Derived.Lib.AppendZeros
import Derived.Laws.AppendOwnNone
namespace Go.Proofs.YtmljjpdodcpohaaGreatDoor.Tr
open Lib (hid)
set_option maxRecDepth 100000
set_option maxHeartbeats 2000000
open Go.RowKit Dk Lx
theorem rf_any (x : Nd) (h : x.name.length ≤ 9000 ∧ x.text.length ≤ 9000) (w : World) :
    Calls Tryz.prog 63 #[.agg x.cells.toArray] w fun e w' => e = .returned (.bool (fieldsR x)) ∧ Below w.heap.size w w' := by
  obtain ⟨k, d, q, z, s⟩ := x; obtain ⟨h1, h2⟩ : q.length ≤ 9000 ∧ s.length ≤ 9000 := h; show Calls _ _ #[.agg #[.int .i64 k, .int .i64 d, .string (strOf q), .int .i64 z, .string (strOf s)]] w _
  by_cases a0 : k = 1
  · have := rf_1 k d z q s a0 h1 h2 w
    have e : fieldsR ⟨k, d, q, z, s⟩ = _ := (congrArg (· && (decide (1 ≤ k) && decide (k ≤ 30))) (show fieldsP ⟨k, d, q, z, s⟩ = _ from if_pos a0)).trans ((congrArg (_ && ·) (show (decide (1 ≤ k) && decide (k ≤ 30)) = true by subst a0; rfl)).trans (Bool.and_true _))
    rw [e]; simpa [Bool.and_comm, Bool.and_assoc, Bool.and_left_comm] using this
  by_cases a1 : k = 2
  · have := rf_2 k d z q s a1 h1 h2 w
    have e : fieldsR ⟨k, d, q, z, s⟩ = _ := (congrArg (· && (decide (1 ≤ k) && decide (k ≤ 30))) (show fieldsP ⟨k, d, q, z, s⟩ = _ from (if_neg a0).trans (if_pos a1))).trans ((congrArg (_ && ·) (show (decide (1 ≤ k) && decide (k ≤ 30)) = true by subst a1; rfl)).trans (Bool.and_true _))
    rw [e]; simpa [Bool.and_comm, Bool.and_assoc, Bool.and_left_comm] using this
  by_cases a2 : k = 3 ∨ k = 4 ∨ k = 6 ∨ k = 7 ∨ k = 21
  · have := rf_3 k d z q s a2 h1 h2 w
    have e : fieldsR ⟨k, d, q, z, s⟩ = _ := (congrArg (· && (decide (1 ≤ k) && decide (k ≤ 30))) (show fieldsP ⟨k, d, q, z, s⟩ = _ from (if_neg a0).trans ((if_neg a1).trans (if_pos a2)))).trans ((congrArg (_ && ·) (show (decide (1 ≤ k) && decide (k ≤ 30)) = true by rcases a2 with rfl | rfl | rfl | rfl | rfl <;> rfl)).trans (Bool.and_true _)); rw [e]; simpa [Bool.and_comm, Bool.and_assoc, Bool.and_left_comm] using this
  by_cases a3 : k = 19
  · have := rf_19 k d z q s a3 h1 h2 w
    have e : fieldsR ⟨k, d, q, z, s⟩ = _ := (congrArg (· && (decide (1 ≤ k) && decide (k ≤ 30))) (show fieldsP ⟨k, d, q, z, s⟩ = _ from (if_neg a0).trans ((if_neg a1).trans ((if_neg a2).trans (if_pos a3))))).trans ((congrArg (_ && ·) (show (decide (1 ≤ k) && decide (k ≤ 30)) = true by subst a3; rfl)).trans (Bool.and_true _))
    rw [e]; simpa [Bool.and_comm, Bool.and_assoc, Bool.and_left_comm] using this
  by_cases a4 : k = 20
  · have := rf_20 k d z q s a4 h1 h2 w
    have e : fieldsR ⟨k, d, q, z, s⟩ = _ := (congrArg (· && (decide (1 ≤ k) && decide (k ≤ 30))) (show fieldsP ⟨k, d, q, z, s⟩ = _ from (if_neg a0).trans ((if_neg a1).trans ((if_neg a2).trans ((if_neg a3).trans (if_pos a4)))))).trans ((congrArg (_ && ·) (show (decide (1 ≤ k) && decide (k ≤ 30)) = true by subst a4; rfl)).trans (Bool.and_true _))
    rw [e]; simpa [Bool.and_comm, Bool.and_assoc, Bool.and_left_comm] using this
  by_cases a5 : k = 23
  · have := rf_23 k d z q s a5 h1 h2 w
    have e : fieldsR ⟨k, d, q, z, s⟩ = _ := (congrArg (· && (decide (1 ≤ k) && decide (k ≤ 30))) (show fieldsP ⟨k, d, q, z, s⟩ = _ from (if_neg a0).trans ((if_neg a1).trans ((if_neg a2).trans ((if_neg a3).trans ((if_neg a4).trans (if_pos a5))))))).trans ((congrArg (_ && ·) (show (decide (1 ≤ k) && decide (k ≤ 30)) = true by subst a5; rfl)).trans (Bool.and_true _))
    rw [e]; simpa [Bool.and_comm, Bool.and_assoc, Bool.and_left_comm] using this
  by_cases a6 : k = 27
  · have := rf_27 k d z q s a6 h1 h2 w
    have e : fieldsR ⟨k, d, q, z, s⟩ = _ := (congrArg (· && (decide (1 ≤ k) && decide (k ≤ 30))) (show fieldsP ⟨k, d, q, z, s⟩ = _ from (if_neg a0).trans ((if_neg a1).trans ((if_neg a2).trans ((if_neg a3).trans ((if_neg a4).trans ((if_neg a5).trans (if_pos a6)))))))).trans ((congrArg (_ && ·) (show (decide (1 ≤ k) && decide (k ≤ 30)) = true by subst a6; rfl)).trans (Bool.and_true _))
    rw [e]; simpa [Bool.and_comm, Bool.and_assoc, Bool.and_left_comm] using this
  by_cases a7 : k = 28
  · have := rf_28 k d z q s a7 h1 h2 w
    have e : fieldsR ⟨k, d, q, z, s⟩ = _ := (congrArg (· && (decide (1 ≤ k) && decide (k ≤ 30))) (show fieldsP ⟨k, d, q, z, s⟩ = _ from (if_neg a0).trans ((if_neg a1).trans ((if_neg a2).trans ((if_neg a3).trans ((if_neg a4).trans ((if_neg a5).trans ((if_neg a6).trans (if_pos a7))))))))).trans ((congrArg (_ && ·) (show (decide (1 ≤ k) && decide (k ≤ 30)) = true by subst a7; rfl)).trans (Bool.and_true _))
    rw [e]; simpa [Bool.and_comm, Bool.and_assoc, Bool.and_left_comm] using this
  have := rf_0 k d z q s (by omega) h1 h2 w; have e : fieldsR ⟨k, d, q, z, s⟩ = _ := congrArg (· && (decide (1 ≤ k) && decide (k ≤ 30))) (show fieldsP ⟨k, d, q, z, s⟩ = _ from (if_neg a0).trans ((if_neg a1).trans ((if_neg a2).trans ((if_neg a3).trans ((if_neg a4).trans ((if_neg a5).trans ((if_neg a6).trans (if_neg a7)))))))); rw [e]; simpa [Bool.and_comm, Bool.and_assoc, Bool.and_left_comm] using this
theorem kind_ok {ts : List Nd} (h3 : endW 1 ((kidsOf ts).drop 0) = some ts.length) (h4 : kindAt ts 0 = 1) {i : Nat} (hi : i < ts.length) (h5 : ∀ a, a < i → goodAt ts a = true) : 1 ≤ ts[i].kind ∧ ts[i].kind ≤ 30 := by
  by_cases h0 : i = 0
  · subst h0
    unfold kindAt at h4; have : ts[0].kind = 1 := by simpa [hi] using h4
    omega
  · obtain ⟨a, c, m, j, ha, hm, hc, hj, hp⟩ := parent (ks := kidsOf ts) (i := i) i 0 ts.length (by omega) (by omega) h3 (by omega)
    have hg := h5 a ha; unfold goodAt at hg; rw [Bool.and_eq_true] at hg
    have hK : ts[i].kind ∈ kindsL ts (a : Int) := by
      unfold kindsL; rw [kidsZ_some hm hc, Int.toNat_natCast]; refine List.mem_map.2 ⟨(i : Int), ?_, ?_⟩
      · unfold posZ
        exact List.mem_map.2 ⟨i, List.mem_map.2 ⟨j, List.mem_range.2 hj, hp⟩, rfl⟩
      · unfold kindAt; simp [hi]
    obtain ⟨g, hg1, hg2⟩ := matchG_mem _ _ hg.2 _ hK; have := pr_range (groups_range _ g hg1) hg2; omega
theorem kidsZ_le (ts : List Nd) (i : Int) : (kidsZ (kidsOf ts) i).length ≤ ts.length := by
  rcases endI_cases (kidsOf ts) i with h | ⟨a, m, rfl, h, h1, h2, h3⟩
  · rw [kidsZ_none (by rw [h]; decide)]; exact Nat.zero_le _
  · obtain ⟨k, hk, hk0, hF, -⟩ := endW_node h
    rw [kidsZ_some h hk, posZ_len]; have := (endW_le _ _ _ hF).1; have h5 := (endW_le _ _ _ hF).2; rw [List.length_drop, kidsOf_len] at h5; omega
theorem rcheck_nat (ts : List Nd) (p : Option Addr) (n c : Nat) (w : World) (hn : n = ts.length) (h : Nds w (.slice p n c) ts) (hl : n ≤ 4000) (hs : Short ts) :
    Calls Tryz.prog 30 #[.slice p n c] w fun e w' => e = .returned (pairV (checkL ts)) ∧ Below w.heap.size w w' := by
  have HN := hid hn; by_cases g1 : 2000 < ts.length
  · have HF : Hid (checkL ts = (3, 0)) := hid (if_pos g1)
    have v1 : (n : Int) > 2000 := by omega
    rw [HF.out]; clear h hn g1 hl; go_enter Tryz.func30, Tryz.ntmps30
    go_wp2; go_ret2; exact ⟨rfl, Below.refl _ _⟩
  have v1 : ¬(n : Int) > 2000 := by omega
  have CE := hid (rend_any ts (.slice p n c) 0 w h (by omega)); generalize hE : endI (kidsOf ts) 0 = E at *; by_cases g2 : E = (n : Int)
  case neg =>
    have HF : Hid (checkL ts = (2, 0)) := hid ((if_neg g1).trans (if_pos (by rw [hE, ← hn]; exact g2)))
    have v2 : (E == (n : Int)) = false := by simpa using g2
    have v3 : (E != (n : Int)) = true := by simpa using g2
    rw [HF.out]; clear h hn g1 g2 hl hE; go_enter Tryz.func30, Tryz.ntmps30
    go_wp2_with (go_at_call 45; refine CE.out.mono ?_; rintro e w1 ⟨rfl, rfl⟩)
    go_ret2; exact ⟨rfl, Below.refl _ _⟩
  subst g2
  have hpos : 0 < ts.length := by
    rcases endI_cases (kidsOf ts) 0 with h1 | ⟨a, m, -, -, h1, h2, -⟩
    · omega
    · rw [kidsOf_len] at h2; omega
  have v2 : ((n : Int) == (n : Int)) = true := by simp
  have v7 : ((n : Int) == 0) = false := by simp; omega
  have v3 : ((n : Int) != (n : Int)) = false := by simp
  have CD := hid (rdepth_any ts (.slice p n c) w h (by omega)); generalize hD : depI (kidsOf ts) = D at *; by_cases g3 : 60 < D
  · have HF : Hid (checkL ts = (3, 0)) := hid ((if_neg g1).trans ((if_neg (by rw [hE, hn]; exact fun h => h rfl)).trans (if_pos (by rw [hD]; exact g3))))
    have v4 : D > 60 := g3; rw [HF.out]; clear h hn g1 g3 hl hE hD; go_enter Tryz.func30, Tryz.ntmps30
    go_wp2_with (first
      | (go_at_call 45; refine CE.out.mono ?_; rintro e w1 ⟨rfl, rfl⟩)
      | (go_at_call 61; refine CD.out.mono ?_; rintro e w2 ⟨rfl, hb2⟩; have HB2 := hid hb2; clear hb2))
    go_ret2; exact ⟨rfl, HB2.out⟩
  have v4 : ¬D > 60 := g3; have HNd := hid h
  have HK0 : Hid (∀ W, Below w.heap.size w W → ∃ g o, p = some ⟨g, o, none⟩ ∧ W.cell? ⟨g, o, none⟩ = some (.int .i64 (kindAt ts 0))) := hid (fun W hb => by
    obtain ⟨g, o, hp, -, h1, -⟩ := (h.later hb).node 0 hpos; refine ⟨g, o, hp, ?_⟩; rw [Nat.zero_mul, Nat.add_zero] at h1
    rw [h1]; unfold kindAt; simp [hpos])
  obtain ⟨g, o, rfl, -⟩ := HK0.out w (Below.refl _ _)
  have HK1 : Hid (∀ W, Below w.heap.size w W → W.cell? ⟨g, o, none⟩ = some (.int .i64 (kindAt ts 0))) := hid (fun W hb => by
    obtain ⟨g', o', hp, h1⟩ := HK0.out W hb
    cases hp; exact h1)
  generalize hK : kindAt ts 0 = K at *; have hn0 : (0 : Int) < (n : Int) := by omega
  by_cases g4 : K = 1
  case neg =>
    have HF : Hid (checkL ts = (4, 0)) := hid ((if_neg g1).trans ((if_neg (by rw [hE, hn]; exact fun h => h rfl)).trans ((if_neg (by rw [hD]; exact g3)).trans (if_pos (by rw [hK]; exact g4)))))
    have v5 : (K == 1) = false := by simpa using g4
    have v6 : (K != 1) = true := by simpa using g4
    rw [HF.out]; clear h hn g1 g3 g4 hl hE hD hK HK0; go_enter Tryz.func30, Tryz.ntmps30
    go_wp2_with (first
      | (go_at_call 45; refine CE.out.mono ?_; rintro e w1 ⟨rfl, rfl⟩)
      | (go_at_call 61; refine CD.out.mono ?_; rintro e w2 ⟨rfl, hb2⟩; have HB2 := hid hb2; have c0 := HK1.out _ hb2; clear hb2))
    go_ret2; exact ⟨rfl, HB2.out⟩
  subst g4
  have HF : Hid (checkL ts = match scanG (goodAt ts) ts.length 0 with
    | some i => (4, (i : Int))
    | none => (0, 0)) := hid ((if_neg g1).trans ((if_neg (by rw [hE, hn]; exact fun h => h rfl)).trans ((if_neg (by rw [hD]; exact g3)).trans (if_neg (by rw [hK]; exact fun h => h rfl)))))
  obtain ⟨R, hR⟩ : ∃ R, R = checkL ts := ⟨_, rfl⟩; rw [← hR] at HF ⊢; have HS := hid hs; have HK1q : Hid (kindAt ts 0 = 1) := hid hK
  have HWH : Hid (endW 1 ((kidsOf ts).drop 0) = some ts.length) := hid (by
    rcases endI_cases (kidsOf ts) 0 with q1 | ⟨a, m, q0, q1, -, -, q2⟩
    · omega
    · obtain rfl : a = 0 := by omega
      rw [q1]; congr 1; omega)
  obtain ⟨i0, hi0, hy0, hy1, hy2⟩ := info_parts int_info3; clear h g1 g3 hE hD hK HK0 hn hR hs; go_enter Tryz.func30, Tryz.ntmps30
  go_wp2_with (first
    | (go_at_call 45; refine CE.out.mono ?_; rintro e w1 ⟨rfl, rfl⟩)
    | (go_at_call 61; refine CD.out.mono ?_; rintro e w2 ⟨rfl, hb2⟩; have HB2 := hid hb2; have c0 := HK1.out _ hb2; clear hb2))
  clear CE CD HK1 c0 v2 v3 v4 v7; have hn2 : n ≤ 2000 := by omega
  go_loopw [4] (fun vi wr => ∃ i : Nat, i ≤ n ∧ vi = .int .i64 (i : Int) ∧ Hid (Below w.heap.size w wr) ∧ Hid (scanG (goodAt ts) ts.length 0 = scanG (goodAt ts) (n - i) i) ∧ Hid (∀ a, a < i → goodAt ts a = true)) (fun vi _ => n - (intOf vi).toNat)
  case atStart => exact ⟨0, Nat.zero_le _, rfl, HB2, hid (by rw [HN.out]; rfl), hid (fun a ha => absurd ha (Nat.not_lt_zero a))⟩
  case round =>
    clear HB2; obtain ⟨i, hi, rfl, hB, hG, hA⟩ := hrel; by_cases hlt : i < n
    · have hil : i < ts.length := by rw [← HN.out]; exact hlt
      have hnl : ts.length ≤ 2000 := by rw [← HN.out]; exact hn2
      have z0 : (0 : Int) ≤ (i : Int) := by omega
      have z1 : (i : Int) < (n : Int) := by omega
      have hG' := hG.out; obtain ⟨f, hf⟩ : ∃ f, n - i = f + 1 ∧ n - (i + 1) = f := ⟨n - i - 1, by omega, by omega⟩; rw [hf.1, scanG_succ, ← hf.2] at hG'
      have HRN : Hid (∀ W, Below w.heap.size w W → W.rangeAt g (o + i * 5) (ts[i]'hil).cells ∧ W.cell? ⟨g, o + i * 5, none⟩ = some (.int .i64 (kindAt ts (i : Int)))) := hid (fun W hb => by
        obtain ⟨g', o', hp, -, h1, -, -, -, -, hr⟩ := (HNd.out.later hb).node i hil; cases hp
        exact ⟨hr, by rw [h1]; unfold kindAt; rw [Int.toNat_natCast]; simp [hil]⟩)
      have HNA : Hid (∀ W, Below w.heap.size w W → ∀ a : Nat, a < ts.length → W.cell? ⟨g, o + a * 5, none⟩ = some (.int .i64 (kindAt ts (a : Int)))) := hid (fun W hb a ha => by
        obtain ⟨g', o', hp, -, h1, -⟩ := (HNd.out.later hb).node a ha; cases hp
        rw [h1]; unfold kindAt; rw [Int.toNat_natCast]; simp [ha])
      have hsx := HS.out ts[i] (List.getElem_mem hil); have hko := kind_ok HWH.out HK1q.out hil hA.out
      have hga : goodAt ts i = (fieldsR ts[i] && kidsR (kindAt ts (i : Int)) (kindsL ts (i : Int))) := by
        unfold goodAt fieldsR; rw [decide_eq_true hko.1, decide_eq_true hko.2, kids_match _ _ (by unfold kindsL; rw [List.length_map]; have := kidsZ_le ts (i : Int); omega)]
        simp [hil]
      have HAN : Hid (goodAt ts i = true → ∀ a, a < i + 1 → goodAt ts a = true) := hid (fun h a ha => by
        by_cases hai : a = i
        · rw [hai]; exact h
        · exact hA.out a (by omega))
      rw [hga] at hG' HAN; have CK : Hid (∀ W, Below w.heap.size w W → Calls Tryz.prog 62 #[.slice (some ⟨g, o, none⟩) n c, .int .i64 (i : Int)] W fun e w' => ∃ v, e = .returned v ∧ IR W w' v (kidsZ (kidsOf ts) (i : Int))) := hid (fun W hb => rkids_any ts _ (i : Int) W (HNd.out.later hb) (by omega)); have HZLT := hid (kidsZ_lt ts (i : Int)); have hZL := kidsZ_le ts (i : Int); have hKL : kindsL ts (i : Int) = (kidsZ (kidsOf ts) (i : Int)).map (kindAt ts) := rfl; rw [hKL] at hG' HAN; clear hga hKL; generalize kidsZ (kidsOf ts) (i : Int) = Z at *; obtain ⟨m, hm⟩ : ∃ m, m = Z.length := ⟨_, rfl⟩; have hm2 : m ≤ 2000 := by omega
      have HM := hid hm; have CKK : Hid (∀ W v, Ins W v (Z.map (kindAt ts)) → Calls Tryz.prog 64 #[.int .i64 (kindAt ts (i : Int)), v] W fun e w' => e = .returned (.bool (kidsR (kindAt ts (i : Int)) (Z.map (kindAt ts)))) ∧ W = w') := hid (fun W v hv => rkids_kinds _ _ v W hv (by rw [List.length_map]; omega))
      generalize kidsR (kindAt ts (i : Int)) (Z.map (kindAt ts)) = mg at *; have CF := hid (fun W => rf_any ts[i] hsx W); generalize fieldsR ts[i] = fx at *; generalize ts[i] = x at *; generalize kindAt ts (i : Int) = ki at *; have HXI := hid (n_info x); have HG2 := hid hG'; clear hf hsx hil hG hG' hko hA hZL hm hnl; go_wp2_with fail
      refine (CK.out _ hB.out).mono ?_; rintro e w5 ⟨v5, rfl, hr5⟩; have HI5 := hid hr5.ins; obtain ⟨p5, c5, rfl, -⟩ := own_form0 hr5.row; rw [← HM.out] at HI5 ⊢; have HB5 := hid (chain2 hB.out hr5.below); have HE0 : Hid (IR w5 w5 (.slice none 0 0) ((Z.take 0).map (kindAt ts))) := hid (by rw [List.take_zero]; exact IR.first w5)
      clear hr5 hB CK; go_wp2_with fail
      go_loopw [6, 7] (fun vk vj wr => ∃ j : Nat, j ≤ m ∧ vj = .int .i64 (j : Int) ∧ Hid (IR w5 wr vk ((Z.take j).map (kindAt ts)))) (fun _ vj _ => m - (intOf vj).toNat)
      case atStart => exact ⟨0, Nat.zero_le _, rfl, HE0⟩
      case round =>
        clear HE0; obtain ⟨j, hj, rfl, hI⟩ := hrel; have HBW := hid (chain2 HB5.out hI.out.below); by_cases hjl : j < m
        · have hjZ : j < Z.length := by rw [← HM.out]; exact hjl
          obtain ⟨g6, o6, rfl, -, c6⟩ := (HI5.out.later hI.out.below).int j hjZ; obtain ⟨q, hq, hqt⟩ := HZLT.out Z[j] (List.getElem_mem hjZ); rw [hq] at c6; have c7 := HNA.out wr HBW.out q hqt; have hqn : (q : Int) < (n : Int) := by rw [HN.out]; omega
          have hq0 : (0 : Int) ≤ (q : Int) := by omega
          have HST : Hid ((Z.take (j + 1)).map (kindAt ts) = (Z.take j).map (kindAt ts) ++ [kindAt ts (q : Int)]) := hid (by rw [List.take_succ_eq_append_getElem hjZ, List.map_append, hq]; rfl)
          have HLE : Hid (((Z.take j).map (kindAt ts)).length = j) := hid (by rw [List.length_map, List.length_take]; omega)
          generalize kindAt ts (q : Int) = kq at *; generalize hLj : (Z.take j).map (kindAt ts) = Lj at *; have N1 := hid (news_at wr #[.int .i64 kq] 3); have x0 : (0 : Int) ≤ (j : Int) := by omega
          have x1 : (j : Int) < (m : Int) := by omega
          clear hq hqt hjZ hLj
          go_wp2_with (first
            | (refine wpList_append_lies _ rfl (.tmp 44) (.tmp 53) 55 rfl w5.heap.size 3 i0 (.int .i64 0) 1 8 Tryz.underlying55 hi0 hy0 hy1 hy2 rfl (by decide) _ Lj.length (iv Lj) rfl (hI.out.row.alloc _) ⟨wr.heap.size, 0, none⟩ 1 1 [.int .i64 kq] rfl rfl N1.out (by simp [Value.oneCell']) (by decide) (by rw [HLE.out]; unfold maxLen; omega) (by rw [HLE.out]; omega) (by have := hI.out.below.size; simp; omega) (wr.heap.size + 1) (by simp) ?_; intro g' cap W7 hrow hgr hgl hlt7; have HX2 := hid (hI.out.push hrow hgr); clear hrow hgr hgl hlt7)
            | fail)
          go_roundw
          case rel => exact ⟨j + 1, hjl, by go_num, by rw [HST.out]; exact HX2⟩
          case measure => simp [intOf]; omega
        · obtain rfl : j = m := by omega
          have hlk : ((Z.take j).map (kindAt ts)).length = j := by rw [List.length_map, List.length_take, ← HM.out]; omega
          obtain ⟨pk, ckc, hvk, -, -⟩ := own_form0 hI.out.row; rw [hlk] at hvk; have HIK : Hid (Ins wr (.slice pk j ckc) (Z.map (kindAt ts))) := hid (by have := hI.out.ins; rw [hvk] at this; rwa [List.take_of_length_le (by rw [← HM.out]; exact Nat.le_refl _)] at this)
          clear hlk; obtain ⟨rr, ck⟩ := HRN.out wr HBW.out; have HRR := hid rr; clear rr hI HRN HNA; subst hvk; cases fx with
          | false =>
            have HF2 : Hid (R = (4, (i : Int))) := hid (by rw [HF.out, HG2.out, Bool.false_and]; rfl)
            go_wp2_with (first
              | (refine wpList_load_mid rfl 58 (.tmp 57) rfl g (o + i * 5) rfl x.cells _ HRR.out Tryz.underlying58 rfl HXI.out ?_)
              | fail)
            refine (CF.out _).mono ?_; rintro e W4 ⟨rfl, hb4⟩; have HB4 := hid (chain2 HBW.out hb4); clear hb4; go_wp2; go_ret2; exact ⟨by rw [HF2.out]; rfl, HB4.out⟩
          | true =>
            go_wp2_with (first
              | (refine wpList_load_mid rfl 58 (.tmp 57) rfl g (o + i * 5) rfl x.cells _ HRR.out Tryz.underlying58 rfl HXI.out ?_)
              | fail)
            refine (CF.out _).mono ?_; rintro e W4 ⟨rfl, hb4⟩; have HB4 := hid (chain2 HBW.out hb4); have HIK4 := hid (HIK.out.later hb4); have ck4 : W4.cell? ⟨g, o + i * 5, none⟩ = some (.int .i64 ki) := by rw [World.cell?_of_block (hb4.block g (World.block_lt_of_cell? wr _ ck))]; exact ck
            clear hb4 ck HIK; go_wp2_with fail
            refine (CKK.out _ _ HIK4.out).mono ?_; rintro e W5 ⟨rfl, rfl⟩; cases mg with
            | false =>
              have HF2 : Hid (R = (4, (i : Int))) := hid (by rw [HF.out, HG2.out]; rfl)
              go_wp2; go_ret2; exact ⟨by rw [HF2.out]; rfl, HB4.out⟩
            | true =>
              have HG3 : Hid (scanG (goodAt ts) ts.length 0 = scanG (goodAt ts) (n - (i + 1)) (i + 1)) := hid HG2.out; have HA3 := hid (HAN.out rfl); go_wp2; go_roundw
              case rel => exact ⟨i + 1, by omega, by go_num, HB4, HG3, HA3⟩
              case measure => simp [intOf]; omega
    · obtain rfl : i = n := by omega
      have HF2 : Hid (R = (0, 0)) := hid (by rw [HF.out, hG.out, Nat.sub_self]; rfl)
      clear hG; go_wp2; go_ret2; exact ⟨by rw [HF2.out]; rfl, hB.out⟩
theorem rcheck_any (ts : List Nd) (v : Value) (w : World) (h : Nds w v ts) (hl : ts.length ≤ 4000) (hs : Short ts) :
    Calls Tryz.prog 30 #[v] w fun e w' => e = .returned (pairV (checkL ts)) ∧ Below w.heap.size w w' := by
  obtain ⟨p, c, rfl, -⟩ := id h; exact rcheck_nat ts p _ c w rfl h hl hs
end Go.Proofs.YtmljjpdodcpohaaGreatDoor.Tr

namespace Go.Proofs.YtmljjpdodcpohaaGreatDoor.Sw
set_option maxRecDepth 100000
open Go.RowKit Go.Shelf Dk Lx Tr Pa
theorem rtokens_no (l : List Nd) (v : Value) (w : World) (hv : Nds w v l) (hs : Short l) (hl : l.length ≤ 4000) (hc : (checkL l).1 ≠ 0) :
    Calls Tryz.prog 12 #[v] w fun e w' => e = .returned (.tuple #[.slice none 0 0, .int .i64 (checkL l).1, .int .i64 (checkL l).2]) ∧ Below w.heap.size w w' := by
  have HC := Lib.hid (rcheck_any l v w hv hl hs); generalize hk : checkL l = r at *; obtain ⟨k, a⟩ := r; replace hc : ¬ k = 0 := hc; obtain ⟨p, c, rfl, -⟩ := hv; generalize l.length = n at *; clear hs hl hk; go_enter Tryz.func12, Tryz.ntmps12
  go_wp2_with (go_at_call 30; refine HC.out.mono ?_; rintro e w1 ⟨rfl, hb⟩; unfold pairV)
  go_ret3; exact ⟨rfl, hb⟩
theorem node_len {l : List Nd} (hn : FitN l) (hl : l.length ≤ 4000) (i : Nat) (c : Cat) (o : List Tk) (l' : List Nd) (h : Prn [.nd c] (l.drop i) o l') : o.length ≤ 100000 := by
  obtain ⟨-, h2⟩ := prn_ok h (fun x hx => hn x (List.mem_of_mem_drop hx)) trivial; have h3 : o.length + 8 * l'.length + 1 ≤ 0 + 8 * (l.drop i).length := h2; rw [List.length_drop] at h3; omega
theorem rtokens_yes (l : List Nd) (o : List Tk) (v : Value) (w : World) (hv : Nds w v l) (hs : Short l) (hl : l.length ≤ 4000) (hc : (checkL l).1 = 0) (hp : Prn [.nd .mod] l o []) (hn : FitN l) :
    Calls Tryz.prog 12 #[v] w fun e w' => ∃ u, e = .returned (.tuple #[u, .int .i64 0, .int .i64 0]) ∧ TR w w' u o := by
  have HC := Lib.hid (rcheck_any l v w hv hl hs)
  have HM : Hid (∀ W, Below w.heap.size w W → Calls Tryz.prog 31 #[v, .int .i64 0] W fun e w' => ∃ u, e = .returned u ∧ TR W w' u o) :=
    Lib.hid (fun W hb => all_nod hv hl hn (node_len hn hl) (l.length + 1) 0 .mod o [] W (by rw [List.drop_zero]; exact Nat.lt_succ_self _) (by rw [List.drop_zero]; exact hp) hb)
  generalize hk : checkL l = r at *; obtain ⟨k, a⟩ := r; replace hc : k = 0 := hc; subst hc; obtain ⟨p, c, rfl, -⟩ := hv; generalize l.length = n at *; clear hs hk hp hn; go_enter Tryz.func12, Tryz.ntmps12
  go_wp2_with (first
    | (go_at_call 30; refine HC.out.mono ?_; rintro e w1 ⟨rfl, hb⟩; unfold pairV; clear HC)
    | (go_at_call 31; refine (HM.out _ hb).mono ?_; rintro e w2 ⟨u, rfl, hu⟩; clear HM))
  go_ret3; exact ⟨u, rfl, tr_base hu hb⟩
end Go.Proofs.YtmljjpdodcpohaaGreatDoor.Sw

namespace Go.Proofs.YtmljjpdodcpohaaGreatDoor.Sw
open Lib (hid)
set_option maxRecDepth 100000
set_option maxHeartbeats 4000000
open Go.RowKit Go.Shelf Dk Lx Tr
theorem zc_size (z : Array Value) (n : Nat) : (Builtin.zeroCells z n).size = n * z.size := by simp [Builtin.zeroCells]
theorem grow_nodes (n : Nat) (w : World) (h0 : 0 < n) (hn : n ≤ 10000) :
    Calls Tryz.prog 153 #[.slice none 0 0, .int .i64 (n : Int)] w fun e w' => ∃ g cap, e = .returned (.slice (some ⟨g, 0, none⟩) 0 cap) ∧ w'.ownsRow w.heap.size 58 5 (.slice (some ⟨g, 0, none⟩) 0 cap) 0 [] ∧ Below w.heap.size w w' := by
  obtain ⟨i0, hi0, hz0, hz1, hz2⟩ := info_parts n_info3; have hz : i0.zero = some (.agg Nd.zero.cells.toArray) := by assumption
  have hby : i0.bytes = 56 := by assumption
  have hr := Lib.run_append_nil_zeros w 22 3 22 58 i0 _ .i64 .i64 Tryz.underlying22 Tryz.underlying3 hi0 hz n h0 (by omega) (by omega) (by rw [hby]; omega)
  have hc1 := grownCap_ge w n 0 58; have hc2 := grownCap_le_maxLen w n 0 58 (by unfold maxLen; omega)
  have hpos : (0 : Int) < (n : Int) := by omega
  have v0 : ¬(n : Int) < 0 := by omega
  have hsz : (Builtin.zeroCells Nd.zero.cells.toArray n ++ Builtin.zeroCells Nd.zero.cells.toArray (grownCap w n 0 58 - n)).size = grownCap w n 0 58 * 5 := by
    rw [Array.size_append, zc_size, zc_size, show Nd.zero.cells.toArray.size = 5 from rfl, ← Nat.add_mul, Nat.add_sub_cancel' hc1]
  have HB : Hid (∀ cs : Array Value, Below w.heap.size w (w.drew.alloc (.cells cs 58))) := hid (fun cs => (Below.refl _ _).drew.alloc (Nat.le_refl _) _); have hs : (Value.agg Nd.zero.cells.toArray).cells = Nd.zero.cells.toArray := rfl; rw [hs] at hr; generalize Builtin.zeroCells Nd.zero.cells.toArray n ++ Builtin.zeroCells Nd.zero.cells.toArray (grownCap w n 0 58 - n) = cs at *; have HO : Hid ((w.drew.alloc (.cells cs 58)).ownsRow w.heap.size 58 5 (.slice (some ⟨w.heap.size, 0, none⟩) 0 (grownCap w n 0 58)) 0 []) := hid ⟨rfl, .inr ⟨w.heap.size, _, cs, rfl, Nat.le_refl _, (by show (w.heap.push _)[w.heap.size]? = _; simp), Nat.zero_le _, hc2, hsz, by simp⟩⟩
  generalize grownCap w n 0 58 = cap at *; clear hc2 hi0 hz0 hz1 hz2 hz hby; have hcap : ¬ cap = 0 := by omega
  go_enter Tryz.func153, Tryz.ntmps153
  go_wp2_with (at_builtin; refine Lib.wpList_append_run _ rfl _ _ _ _ rfl _ _ rfl rfl _ _ hr ?_)
  go_ret; exact ⟨_, _, rfl, HO.out, HB.out cs⟩
theorem nr_more {w W W7 : World} {v : Value} {l m : List Nd} {g cap n k : Nat} (hn : n = l.length) (hk : k = m.length) (h : NR w W v l) (hr : W7.ownsRow w.heap.size 58 5 (.slice (some ⟨g, 0, none⟩) (n + k) cap) (n + k) (ncells l ++ ncells m)) (hgr : W.grownBy W7 v.ownBlock) :
    NR w W7 (.slice (some ⟨g, 0, none⟩) (n + k) cap) (l ++ m) := by
  subst hn hk; exact ⟨by rw [List.length_append, ncells_app]; exact hr, Tr.below_grown hgr h.below (fun k hk => (Tr.own_lo h.row k hk).1) h.below.size (Nat.le_refl _)⟩
theorem concat_nodes (a b : List Nd) (va vb : Value) (gs : Nat) (w : World) (ha : Nds w va a) (h1 : 0 < a.length) (hb : vb = .slice none 0 0 ∧ b = [] ∨ 0 < b.length ∧ Nds w vb b) (hl : a.length + b.length ≤ 10000)
    (hg : gs < w.heap.size) (hc : w.rangeAt gs 0 [va, vb]) :
    Calls Tryz.prog 89 #[.slice (some ⟨gs, 0, none⟩) 2 2] w fun e w' => ∃ v, e = .returned v ∧ NR w w' v (a ++ b) := by
  obtain ⟨i0, hi0, hz0, hz1, hz2⟩ := info_parts n_info3; have hz : i0.zero = some (.agg Nd.zero.cells.toArray) := by assumption
  have GR := hid (fun W => grow_nodes (a.length + b.length) W (by omega) hl); obtain ⟨pa, ca, rfl, -, hfa, rfl | ⟨ga, oa, rfl, hga, hra⟩⟩ := ha
  · simp at h1
  have C0 : Hid (w.cell? ⟨gs, 0, none⟩ = some (.slice (some ⟨ga, oa, none⟩) a.length ca)) := hid (hc 0 _ rfl); have C1 : Hid (w.cell? ⟨gs, 1, none⟩ = some vb) := hid (hc 1 _ rfl)
  obtain ⟨vn, pb, cb, rfl⟩ : ∃ vn pb cb, vb = .slice pb vn cb := by
    rcases hb with ⟨rfl, -⟩ | ⟨-, p, c, rfl, -⟩ <;> exact ⟨_, _, _, rfl⟩
  have hvn : vn = b.length := by
    rcases hb with ⟨h, rfl⟩ | ⟨-, p, c, h, -⟩ <;> cases h <;> rfl
  subst hvn; have HBB := hid hb; obtain ⟨na, hna⟩ : ∃ n, n = a.length := ⟨_, rfl⟩; obtain ⟨nb, hnb⟩ : ∃ n, n = b.length := ⟨_, rfl⟩; have HNA := hid hna; have HNB := hid hnb; rw [← hna] at C0 GR hl h1; rw [← hnb] at C1 GR hl HBB; have HRA := hid hra; have q0 : (0 : Int) ≤ (na : Int) := by omega
  have q1 : ¬(na : Int) < 0 := by omega
  have q2 : ¬((na : Int) + (nb : Int)) < 0 := by omega
  clear hc hb hna hnb hra hfa; go_enter Tryz.func89, Tryz.ntmps89
  go_wp2; go_loopw [3, 11] (fun vs vi wr => ∃ i : Nat, i ≤ 2 ∧ vi = .int .i64 (i : Int) ∧ vs = .int .i64 (if i = 0 then 0 else if i = 1 then (na : Int) else (na : Int) + (nb : Int)) ∧ wr = w) (fun _ vi _ => 2 - (intOf vi).toNat)
  case atStart => exact ⟨0, by omega, rfl, rfl, rfl⟩
  case round =>
    obtain ⟨i, hi, rfl, rfl, rfl⟩ := hrel; obtain rfl | rfl | rfl : i = 0 ∨ i = 1 ∨ i = 2 := by omega
    · have c0 := C0.out
      clear C1 GR HBB HRA; go_wp2; go_roundw
      case rel => exact ⟨1, by omega, by rfl, by simp, by trivial⟩
      case measure => simp [intOf]
    · have c1 := C1.out
      clear C0 GR HBB HRA; go_wp2; go_roundw
      case rel => exact ⟨2, by omega, by rfl, by simp, by trivial⟩
      case measure => simp [intOf]
    · obtain ⟨w0, hw0⟩ : ∃ x, x = wr := ⟨_, rfl⟩
      subst hw0; have GR2 := hid (GR.out w0); rw [Int.natCast_add] at GR2; clear GR; go_wp2_with fail
      refine GR2.out.mono ?_; rintro e w1 ⟨g1, cap1, rfl, hrow1, hb1⟩; have HR1 : Hid (NR w0 w1 (.slice (some ⟨g1, 0, none⟩) 0 cap1) []) := hid ⟨hrow1, hb1⟩; clear hrow1 hb1 GR2; go_wp2; go_loopw [6, 27] (fun v6 vi w2 => ∃ i : Nat, i ≤ 2 ∧ vi = .int .i64 (i : Int) ∧ Hid (NR w0 w2 v6 (if i = 0 then [] else if i = 1 then a else a ++ b))) (fun _ vi _ => 2 - (intOf vi).toNat)
      case atStart => exact ⟨0, by omega, rfl, HR1⟩
      case round =>
        obtain ⟨i, hi, rfl, HR⟩ := hrel; obtain rfl | rfl | rfl : i = 0 ∨ i = 1 ∨ i = 2 := by omega
        · have HR0 := hid (show NR w0 wr _ [] from HR.out)
          have c0 := (World.cell?_of_block (a := ⟨gs, 0, none⟩) (HR0.out.below.block gs hg)).trans C0.out
          have HNW : Hid (∀ j u, (ncells a)[j]? = some u → wr.cell? ((⟨ga, oa, none⟩ : Addr).add j) = some u) := hid (fun j u hu => by
            have := (World.cell?_of_block (a := ⟨ga, oa + j, none⟩) (HR0.out.below.block ga hga)).trans (HRA.out j u hu)
            rwa [← WideShapes.add_plain] at this)
          have HL5 : Hid ((ncells a).length = na * 5) := hid (by rw [ncells_length, HNA.out]); have HON := hid (ncells_ones a); clear HR1 HR
          go_wp2_with (first
            | (refine wpList_append_lies _ rfl _ _ 22 rfl w0.heap.size 58 i0 _ 5 56 Tryz.underlying22 hi0 hz (by assumption) (by assumption) rfl (by decide) _ 0 [] rfl HR0.out.row ⟨ga, oa, none⟩ na ca (ncells a) rfl HL5.out HNW.out HON.out h1 (by unfold maxLen; omega) (by omega) HR0.out.below.size _ rfl ?_; intro g' cap W7 hrow hgr hgl hlt7))
          have HR2 := hid (nr_more (l := []) (m := a) rfl HNA.out HR0.out hrow hgr); clear hrow hgr hgl hlt7 HR0 HNW HL5 c0; go_roundw
          case rel => exact ⟨1, by omega, by rfl, hid (by have := HR2.out; rw [List.nil_append, List.length_nil, Nat.zero_add] at this; exact this)⟩
          case measure => simp [intOf]
        · have HR0 := hid (show NR w0 wr _ a from HR.out)
          have c1 := (World.cell?_of_block (a := ⟨gs, 1, none⟩) (HR0.out.below.block gs hg)).trans C1.out; have HO : Hid (wr.ownsRow w0.heap.size 58 5 _ na (ncells a)) := hid (by have := HR0.out.row; rw [← HNA.out] at this; exact this)
          rcases HBB.out with ⟨h, hb0⟩ | ⟨hpos, p, c, h, -, -, h0 | ⟨gb, ob, hp, hgb, hrb⟩⟩
          · rw [h] at c1
            have HB0 := hid hb0; clear h HR1 HR HBB hb0; go_wp2_with (refine wpList_append_own_none rfl _ _ 22 rfl w0.heap.size 58 i0 5 Tryz.underlying22 hi0 _ na (ncells a) rfl HO.out rfl ?_)
            go_roundw
            case rel => exact ⟨2, by omega, by rfl, hid (by have := HR0.out; rw [HB0.out]; simpa using this)⟩
            case measure => simp [intOf]
          · have := HNB.out; rw [h0] at this; simp at this; omega
          · simp only [Value.slice.injEq] at h
            obtain ⟨h, -, rfl⟩ := h; subst hp; subst h; have HRB := hid hrb
            have HNW : Hid (∀ j u, (ncells b)[j]? = some u → wr.cell? ((⟨gb, ob, none⟩ : Addr).add j) = some u) := hid (fun j u hu => by
              have := (World.cell?_of_block (a := ⟨gb, ob + j, none⟩) (HR0.out.below.block gb hgb)).trans (HRB.out j u hu)
              rwa [← WideShapes.add_plain] at this)
            have HL5 : Hid ((ncells b).length = nb * 5) := hid (by rw [ncells_length, HNB.out]); have HON := hid (ncells_ones b); clear HR1 HR HBB hrb
            go_wp2_with (first
              | (refine wpList_append_lies _ rfl _ _ 22 rfl w0.heap.size 58 i0 _ 5 56 Tryz.underlying22 hi0 hz (by assumption) (by assumption) rfl (by decide) _ na (ncells a) rfl HO.out ⟨gb, ob, none⟩ nb cb (ncells b) rfl HL5.out HNW.out HON.out hpos (by unfold maxLen; omega) (by omega) HR0.out.below.size _ rfl ?_; intro g' cap W7 hrow hgr hgl hlt7))
            have HR2 := hid (nr_more (l := a) (m := b) HNA.out HNB.out HR0.out hrow hgr); clear hrow hgr hgl hlt7 HR0 HNW HL5 c1; go_roundw
            case rel => exact ⟨2, by omega, by rfl, HR2⟩
            case measure => simp [intOf]
        · have HR0 := hid (show NR w0 wr _ (a ++ b) from HR.out)
          clear HR HR1; go_wp2; go_ret; exact ⟨_, rfl, HR0.out⟩
end Go.Proofs.YtmljjpdodcpohaaGreatDoor.Sw

