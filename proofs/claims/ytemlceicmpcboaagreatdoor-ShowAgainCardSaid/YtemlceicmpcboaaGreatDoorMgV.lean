/- All of the printer's readers together; the walks of module and collect: their contracts. The walks of show's Tokens and Text: their contracts. No condition but those that each states. -/
import Derived.Test.YtemlceicmpcboaaGreatDoorPsK
import Derived.Test.YtemlceicmpcboaaGreatDoorMgO
import Derived.Test.YtemlceicmpcboaaGreatDoorMgQ
import Derived.Test.YtemlceicmpcboaaGreatDoorMgN
namespace Go.Proofs.YtemlceicmpcboaaGreatDoor.Sw
open Go.RowKit Dk Lx Tr Pa

/-- All that call one another. -/
structure AllP (w0 : World) (g h B N : Nat) : Prop where
  ex : Prt w0 g h B 86 #[ptr g] [.nd .ex] N
  st : Prt w0 g h B 207 #[ptr g] [.nd .st] N
  bl : Prt w0 g h B 182 #[ptr g] [.nd .blk] N

set_option maxHeartbeats 4000000 in
theorem all_prt {w0 : World} {g h B : Nat} (HT : HasT w0) : ∀ N, N ≤ 100000 → AllP w0 g h B N
  | 0, _ => ⟨(fun W l l' ts o hl => absurd hl (Nat.not_lt_zero _)), (fun W l l' ts o hl => absurd hl (Nat.not_lt_zero _)), (fun W l l' ts o hl => absurd hl (Nat.not_lt_zero _))⟩
  | N + 1, hN => by
    refine ⟨?_, ?_, block_prt (all_prt HT N (by omega)).st (by omega)⟩
    · intro W l l' ts o hl hp hn hf p
      obtain ⟨x, r, rfl, hc, hk, hfx, h1⟩ := hp.nd_inv
      clear hp
      have hr : r.length < N := by rw [List.length_cons] at hl; omega
      have hnr : FitN r := fun y hy => hn y (List.mem_cons_of_mem _ hy)
      obtain ⟨k, d, q, z, s⟩ := x
      have hz : -9223372036854775808 ≤ z ∧ z < 9223372036854775808 := hn _ (List.mem_cons_self ..)
      have hkk : k = 18 ∨ k = 19 ∨ k = 20 ∨ k = 21 ∨ k = 22 ∨ k = 23 ∨ k = 24 ∨ k = 25 ∨ k = 26 ∨ k = 27 ∨ k = 28 ∨ k = 29 ∨ k = 30 := by
        have h' := hc
        unfold catP isExpr at h'; simp at h'; omega
      rcases hkk with rfl | rfl | rfl | rfl | rfl | rfl | rfl | rfl | rfl | rfl | rfl | rfl | rfl
      · change d = 0 at hk; subst hk; exact expr_18 q z s hr (show Prn [sg [110, 105, 108]] r o l' from h1) hnr hf p
      · change d = 0 at hk; subst hk; exact expr_19 q z s HT hz hr (show Prn [it z] r o l' from h1) hnr hf p
      · change d = 0 at hk; subst hk; exact expr_20 q z s hr (show Prn [.tok (txT s)] r o l' from h1) hnr hf p
      · change d = 0 at hk; subst hk; exact expr_21 q z s hr (show Prn [nm q] r o l' from h1) hnr hf p
      · change Prn (.nd .ex :: lstX .ex (d.toNat - 1)) r o l' at h1
        change d = ((((cats (lstX .ex (d.toNat - 1))).length + 1 : Nat)) : Int) at hk
        have hls := h1.less
        change l'.length + ((cats (lstX .ex (d.toNat - 1))).length + 1) ≤ r.length at hls
        rw [cats_lst, List.length_replicate] at hk hls
        obtain ⟨n, hn1⟩ : ∃ n, n = d.toNat - 1 := ⟨_, rfl⟩
        rw [← hn1] at hk hls h1
        subst hk
        exact expr_22 q z s (all_prt HT N (by omega)).ex n (by omega) hr h1 hnr hf p
      · change Prn ([nm q, sg [46], nm s] ++ lstX .ex d.toNat) r o l' at h1
        change d = (((cats ([nm q, sg [46], nm s] ++ lstX .ex d.toNat)).length : Nat) : Int) at hk
        have hls := h1.less
        rw [cats_app, cats_lst, List.length_append, List.length_replicate] at hk hls
        obtain ⟨n, hn1⟩ : ∃ n, n = d.toNat := ⟨_, rfl⟩
        rw [← hn1] at hk hls h1
        have hk2 : d = (n : Int) := by have : (cats [nm q, sg [46], nm s]).length = 0 := rfl; omega
        subst hk2
        exact expr_23 q z s (all_prt HT N (by omega)).ex n (by omega) hr h1 hnr hf p
      · change Prn (sg [102, 110] :: fnX d.toNat) r o l' at h1
        change d = (((cats (fnX d.toNat)).length : Nat) : Int) at hk
        have hls := h1.less
        change l'.length + (cats (fnX d.toNat)).length ≤ r.length at hls
        rw [cats_fn, List.length_append, List.length_replicate] at hk hls
        exact expr_24 q z s (all_prt HT N (by omega)).bl d (by simp at hk hls; omega) hr h1 hnr hf p
      · change d = 0 at hk; subst hk; exact expr_25 q z s hr (show Prn [sg [123], sg [125]] r o l' from h1) hnr hf p
      · change d = 2 at hk; subst hk; exact expr_26 q z s (all_prt HT N (by omega)).ex hr (show Prn [.nd .ex, sg [91], .nd .ex, sg [93]] r o l' from h1) hnr hf p
      · change d = 2 at hk; subst hk; exact expr_27 q z s (all_prt HT N (by omega)).ex hr (show Prn [sg [40], .nd .ex, sg s, .nd .ex, sg [41]] r o l' from h1) hnr hf p
      · change d = 1 at hk; subst hk; exact expr_28 q z s (all_prt HT N (by omega)).ex hr (show Prn [sg [40], sg s, .nd .ex, sg [41]] r o l' from h1) hnr hf p
      · change d = 0 at hk; subst hk; exact expr_29 q z s hr (show Prn [sg [115, 116, 97, 116, 101]] r o l' from h1) hnr hf p
      · change d = 1 at hk; subst hk; exact expr_30 q z s (all_prt HT N (by omega)).ex hr (show Prn [sg [40], sg [115, 112, 97, 119, 110], .nd .ex, sg [41]] r o l' from h1) hnr hf p
    · intro W l l' ts o hl hp hn hf p
      obtain ⟨x, r, rfl, hc, hk, hfx, h1⟩ := hp.nd_inv
      clear hp
      have hr : r.length < N := by rw [List.length_cons] at hl; omega
      have hnr : FitN r := fun y hy => hn y (List.mem_cons_of_mem _ hy)
      obtain ⟨k, d, q, z, s⟩ := x
      have hz : -9223372036854775808 ≤ z ∧ z < 9223372036854775808 := hn _ (List.mem_cons_self ..)
      have hkk : k = 6 ∨ k = 7 ∨ k = 8 ∨ k = 9 ∨ k = 10 ∨ k = 11 ∨ k = 12 ∨ k = 13 ∨ k = 14 ∨ k = 15 ∨ k = 16 ∨ k = 17 := by
        have h' := hc
        unfold catP isStmt at h'; simp at h'; omega
      rcases hkk with rfl | rfl | rfl | rfl | rfl | rfl | rfl | rfl | rfl | rfl | rfl | rfl
      · change d = 1 at hk; subst hk; exact stmt_6 (all_prt HT N (by omega)).ex q z s hr (show Prn [sg [108, 101, 116], nm q, sg [61], .nd .ex, sg [59]] r o l' from h1) hnr hf p
      · change d = 1 at hk; subst hk; exact stmt_7 (all_prt HT N (by omega)).ex q z s hr (show Prn [nm q, sg [61], .nd .ex, sg [59]] r o l' from h1) hnr hf p
      · change d = 3 at hk; subst hk; exact stmt_8 (all_prt HT N (by omega)).ex q z s hr (show Prn [.nd .ex, sg [91], .nd .ex, sg [93], sg [61], .nd .ex, sg [59]] r o l' from h1) hnr hf p
      · change Prn ([sg [105, 102], .nd .ex, .nd .blk] ++ (if 2 < d then [sg [101, 108, 115, 101], .nd .blk] else [])) r o l' at h1
        change d = (((cats ([sg [105, 102], .nd .ex, .nd .blk] ++ (if 2 < d then [sg [101, 108, 115, 101], .nd .blk] else []))).length : Nat) : Int) at hk
        by_cases h2d : 2 < d
        · rw [if_pos h2d] at h1 hk
          change d = 3 at hk
          subst hk
          exact stmt_9_3 (all_prt HT N (by omega)).ex (all_prt HT N (by omega)).bl q z s hr h1 hnr hf p
        · rw [if_neg h2d] at h1 hk
          change d = 2 at hk
          subst hk
          exact stmt_9_2 (all_prt HT N (by omega)).ex (all_prt HT N (by omega)).bl q z s hr h1 hnr hf p
      · change d = 2 at hk; subst hk; exact stmt_10_2 (all_prt HT N (by omega)).ex (all_prt HT N (by omega)).bl q z s hr (show Prn [sg [119, 104, 105, 108, 101], .nd .ex, .nd .blk] r o l' from h1) hnr hf p
      · change d = 0 at hk; subst hk; exact stmt_11 (all_prt HT N (by omega)).ex q z s hr (show Prn [sg [98, 114, 101, 97, 107], sg [59]] r o l' from h1) hnr hf p
      · change d = 0 at hk; subst hk; exact stmt_12 (all_prt HT N (by omega)).ex q z s hr (show Prn [sg [99, 111, 110, 116, 105, 110, 117, 101], sg [59]] r o l' from h1) hnr hf p
      · change d = 1 at hk; subst hk; exact stmt_13 (all_prt HT N (by omega)).ex q z s hr (show Prn [sg [114, 101, 116, 117, 114, 110], .nd .ex, sg [59]] r o l' from h1) hnr hf p
      · change d = 1 at hk; subst hk; exact stmt_14 (all_prt HT N (by omega)).ex q z s hr (show Prn [sg [112, 117, 116], .nd .ex, sg [59]] r o l' from h1) hnr hf p
      · change d = 1 at hk; subst hk; exact stmt_15 (all_prt HT N (by omega)).ex q z s hr (show Prn [sg [101, 109, 105, 116], .nd .ex, sg [59]] r o l' from h1) hnr hf p
      · change d = 0 at hk; subst hk; exact stmt_16 (all_prt HT N (by omega)).ex q z s hr (show Prn [sg [121, 105, 101, 108, 100], sg [59]] r o l' from h1) hnr hf p
      · change d = 1 at hk; subst hk; exact stmt_17 (all_prt HT N (by omega)).ex q z s hr (show Prn [.nd .ex, sg [59]] r o l' from h1) hnr hf p

theorem part_prt {w0 : World} {g h B : Nat} (HT : HasT w0) (N : Nat) (hN : N ≤ 100000) : Prt w0 g h B 92 #[ptr g] [.nd .part] N := by
  intro W l l' ts o hl hp hn hf p
  obtain ⟨x, r, rfl, hc, hk, hfx, h1⟩ := hp.nd_inv
  clear hp
  have hr : r.length < N := by rw [List.length_cons] at hl; omega
  have hnr : FitN r := fun y hy => hn y (List.mem_cons_of_mem _ hy)
  obtain ⟨k, d, q, z, s⟩ := x
  have hz : -9223372036854775808 ≤ z ∧ z < 9223372036854775808 := hn _ (List.mem_cons_self ..)
  have hkk : k = 2 ∨ k = 3 := by
    have h' : (k == 2 || k == 3) = true := hc
    rwa [Bool.or_eq_true, beq_iff_eq, beq_iff_eq] at h'
  rcases hkk with rfl | rfl
  · change d = 0 at hk; subst hk
    exact part_2 q z s HT hz hr (show Prn [sg [117, 115, 101], nm q, sg [46], nm s, sg [47], it z, sg [59]] r o l' from h1) hnr hf p
  · change Prn (sg [102, 110] :: nm q :: fnX d.toNat) r o l' at h1
    change d = (((cats (fnX d.toNat)).length : Nat) : Int) at hk
    have hls := h1.less
    change l'.length + (cats (fnX d.toNat)).length ≤ r.length at hls
    rw [cats_fn, List.length_append, List.length_replicate] at hk hls
    exact part_3 q z s (all_prt HT N hN).bl d (by simp at hk hls; omega) hr h1 hnr hf p

set_option maxHeartbeats 4000000 in
set_option maxRecDepth 100000 in
theorem module_prt {w0 : World} {g h B : Nat} (hT : HasT w0) {W : World} {l l' : List Nd} {ts o : List Tk} (hl : l.length < 100000) (hp : Prn [.nd .mod] l o l') (hn0 : FitN l) (hf : ts.length + o.length ≤ 99999990) (p : PW w0 g h B W l ts) : Calls Tryz.prog 44 #[ptr g] W fun e W' => PrOk w0 g h B W l' (ts ++ o) e W' := by
  have HPA := Lib.hid (part_prt (g := g) (h := h) (B := B) hT 100000 (Nat.le_refl _))
  have HT := Lib.hid hT
  obtain ⟨x, r, rfl, hc, hkx, hfx, hq0⟩ := hp.nd_inv
  clear hp
  have hlr : r.length < 100000 := by rw [List.length_cons] at hl; omega
  have hn : FitN r := fun y hy => hn0 y (List.mem_cons_of_mem _ hy)
  obtain ⟨k, d, q, z, s⟩ := x
  have HZ := Lib.hid (hn0 _ (List.mem_cons_self ..))
  obtain rfl : k = 1 := eq_of_beq (show (k == 1) = true from hc)
  change Prn ([sg [109, 111, 100, 117, 108, 101], nm q, it z, sg [59]] ++ List.replicate d.toNat (.nd .part)) r o l' at hq0
  have hless := hq0.less
  change d = (((cats ([sg [109, 111, 100, 117, 108, 101], nm q, it z, sg [59]] ++ List.replicate d.toNat (.nd .part))).length : Nat) : Int) at hkx
  rw [cats_app, cats_rep, List.length_append, List.length_replicate] at hkx hless
  have h00 : (cats [sg [109, 111, 100, 117, 108, 101], nm q, it z, sg [59]]).length = 0 := rfl
  obtain ⟨n, rfl⟩ : ∃ n : Nat, d = (n : Int) := ⟨d.toNat, by omega⟩
  rw [Int.toNat_natCast] at hq0 hless
  have hn6 : n ≤ 1000000 := by omega
  obtain ⟨o1, rfl, hq1⟩ := Prn.tok_inv (A := nm q :: it z :: sg [59] :: List.replicate n (.nd .part)) hq0
  obtain ⟨o2, rfl, hq2⟩ := hq1.tok_inv
  obtain ⟨o3, rfl, hq3⟩ := hq2.tok_inv
  obtain ⟨o', rfl, hq4⟩ := hq3.tok_inv
  have HQ := Lib.hid hq4
  have HLN := Lib.hid (And.intro hlr hn)
  clear hless hkx hq0 hq1 hq2 hq3 hq4 hc hfx h00
  have P0 := Lib.hid p
  have S0 := Lib.hid (Step.refl g h W)
  have HF := Lib.hid hf
  have HB := Lib.hid p.hB
  clear p hf hl hn hlr hn0 hT
  have HI : Hid ((Tryz.prog.info? 29).map (·.size) = some [Value.int .i64 1, .int .i64 (n : Int), .string (strOf q), .int .i64 z, .string (strOf s)].length) := Lib.hid (n_info ⟨1, (n : Int), q, z, s⟩)
  have HIA : Hid ((Tryz.prog.info? 29).map (·.size) = some (Nd.cells ⟨1, (n : Int), q, z, s⟩).toArray.size) := Lib.hid (n_infoA _)
  have HLA : Hid ((Nd.cells ⟨1, (n : Int), q, z, s⟩).toArray.all (·.oneCell') = true) := Lib.hid (n_all _)
  go_enter Tryz.func44, Tryz.ntmps44
  have X := Lib.hid (next_any P0.out)
  go_wp2_with fail
  refine X.out.mono ?_
  rintro e w1 ⟨rfl, hp', hs'⟩
  have P1 := Lib.hid hp'
  have S1 := Lib.hid (S0.out.trans hs')
  clear hp' hs' P0 S0 X
  simp only [Nd.cells]
  have HZN := Lib.hid (nb_zero w1)
  have HPN := Lib.hid (nb_put w1 ⟨1, (n : Int), q, z, s⟩)
  have BN := Lib.hid (LB.start P1.out ⟨1, (n : Int), q, z, s⟩)
  go_upto_region 1 with (first
    | (refine wpList_store_mid rfl 29 (.tmp 2) (.tmp 4) rfl w1.heap.size 0 (Nd.cells ⟨1, (n : Int), q, z, s⟩).toArray rfl rfl HZN.out.room HIA.out HLA.out ?_; generalize World.setCells _ _ _ _ = w2 at HPN BN ⊢)
    | fail)
  have P2 := Lib.hid (P1.out.later HPN.out.2)
  have S2 := Lib.hid (S1.out.trans (P1.out.step HPN.out.2))
  obtain ⟨b, hb⟩ : ∃ b, b = w1.heap.size := ⟨_, rfl⟩
  rw [← hb] at BN ⊢
  have B2 := Lib.hid BN.out
  obtain ⟨c0, c1, c2, c3, c4⟩ := B2.out.nb.at
  clear HZN HPN BN hb P1 S1
  simp only at c0 c1 c2 c3 c4
  have X := Lib.hid (signs1 [109, 111, 100, 117, 108, 101] P2.out (by have := HF.out; simp at this ⊢; omega))
  go_wp2_with fail
  refine X.out.mono ?_
  rintro e w3 ⟨rfl, hp', hs'⟩
  have P3 := Lib.hid hp'
  have S3 := Lib.hid (S2.out.trans hs')
  have B3 := Lib.hid (B2.out.step hs')
  clear c0 c1 c2 c3 c4
  obtain ⟨c0, c1, c2, c3, c4⟩ := B3.out.nb.at
  clear hp' hs' P2 S2 B2 X
  simp only at c0 c1 c2 c3 c4
  have X := Lib.hid (pname_any q P3.out (by have := HF.out; simp at this ⊢; omega))
  go_wp2_with fail
  refine X.out.mono ?_
  rintro e w4 ⟨rfl, hp', hs'⟩
  have P4 := Lib.hid hp'
  have S4 := Lib.hid (S3.out.trans hs')
  have B4 := Lib.hid (B3.out.step hs')
  clear c0 c1 c2 c3 c4
  obtain ⟨c0, c1, c2, c3, c4⟩ := B4.out.nb.at
  clear hp' hs' P3 S3 B3 X
  simp only at c0 c1 c2 c3 c4
  have X := Lib.hid (pnumber_any z HZ.out.1 HZ.out.2 HT.out P4.out (by have := HF.out; simp at this ⊢; omega))
  go_wp2_with fail
  refine X.out.mono ?_
  rintro e w5 ⟨rfl, hp', hs'⟩
  have P5 := Lib.hid hp'
  have S5 := Lib.hid (S4.out.trans hs')
  have B5 := Lib.hid (B4.out.step hs')
  clear c0 c1 c2 c3 c4
  obtain ⟨c0, c1, c2, c3, c4⟩ := B5.out.nb.at
  clear hp' hs' P4 S4 B4 X
  simp only at c0 c1 c2 c3 c4
  have X := Lib.hid (signs1 [59] P5.out (by have := HF.out; simp at this ⊢; omega))
  go_wp2_with fail
  refine X.out.mono ?_
  rintro e w6 ⟨rfl, hp', hs'⟩
  have P6 := Lib.hid hp'
  have S6 := Lib.hid (S5.out.trans hs')
  have B6 := Lib.hid (B5.out.step hs')
  clear c0 c1 c2 c3 c4
  obtain ⟨c0, c1, c2, c3, c4⟩ := B6.out.nb.at
  clear hp' hs' P5 S5 B5 X
  simp only at c0 c1 c2 c3 c4
  go_wp2
  go_loopw [21] (fun vi wr => ∃ (i : Nat) (li : List Nd) (ti oi : List Tk), i ≤ n ∧ vi = .int .i64 (i : Int) ∧ Hid (PW w0 g h B wr li ti) ∧ Hid (Step g h W wr) ∧ Hid (Prn (List.replicate (n - i) (.nd .part)) li oi l') ∧ Hid (ts ++ sgn [109, 111, 100, 117, 108, 101] :: nmT q :: inT z :: sgn [59] :: o' = ti ++ oi) ∧ Hid (li.length < 100000 ∧ FitN li)) (fun vi _ => n - (intOf vi).toNat)
  case atStart => exact ⟨0, r, _, o', Nat.zero_le _, rfl, P6, S6, HQ, Lib.hid (by simp), HLN⟩
  case round =>
    clear P6 S6 HQ HLN B6 c0 c1 c2 c3 c4
    obtain ⟨i, li, ti, oi, hi, rfl, P2, S2, HP2, HEQ, HLN⟩ := hrel
    have HBD : Hid (ti.length + oi.length ≤ 99999990) := Lib.hid (by have h1 := HF.out; have h2 := congrArg List.length HEQ.out; simp only [List.length_append, List.length_cons] at h1 h2; omega)
    by_cases hlt : i < n
    · have z1 : (i : Int) < (n : Int) := by omega
      have hq := HP2.out
      rw [show n - i = (n - (i + 1)) + 1 by omega, List.replicate_succ] at hq
      obtain ⟨o1, o2, l1, he, hp1, hp2⟩ := hq.nd_cons
      have HO := Lib.hid he
      have X := Lib.hid (HPA.out _ _ _ ti _ HLN.out.1 hp1 HLN.out.2 (by have := HBD.out; rw [he, List.length_append] at this; omega) P2.out)
      have HP3 := Lib.hid hp2
      have HL3 := Lib.hid (fit_len hp1 HLN.out.1 HLN.out.2)
      clear he hp1 hp2 hq
      go_wp2_with fail
      refine X.out.mono ?_
      rintro e w3 ⟨rfl, hp', hs'⟩
      have P3 := Lib.hid hp'
      have S3 := Lib.hid (S2.out.trans hs')
      clear hp' hs' X
      go_wp2
      go_roundw
      case rel => exact ⟨i + 1, l1, _, o2, by omega, by go_num, P3, S3, HP3, Lib.hid (by rw [HEQ.out, HO.out, List.append_assoc]), HL3⟩
      case measure => simp [intOf]; omega
    · obtain rfl : i = n := by omega
      have hq := HP2.out
      rw [Nat.sub_self] at hq
      cases hq
      have HE : Hid (PW w0 g h B wr l' (ts ++ sgn [109, 111, 100, 117, 108, 101] :: nmT q :: inT z :: sgn [59] :: o')) := Lib.hid (by rw [HEQ.out, List.append_nil]; exact P2.out)
      clear hlt hi
      go_wp2
      refine bodyPost_end (results_none rfl _ _ _) rfl ?_
      exact ⟨rfl, HE.out, S2.out⟩

set_option maxHeartbeats 4000000 in
set_option maxRecDepth 100000 in
theorem collect_any (l : List Nd) (o : List Tk) (v : Value) (w : World) (hv : Nds w v l) (hp : Prn [.nd .mod] l o []) (hn : FitN l) (hl : l.length ≤ 2000) (ho : o.length ≤ 20000) (HT : HasT w) :
    Calls Tryz.prog 43 #[v, .func (.func 44) #[] #[]] w fun e w' => ∃ u, e = .returned u ∧ TR w w' u o := by
  obtain ⟨p, c, hvv, -⟩ := id hv
  subst hvv
  have HW : Hid (PW w (w.heap.size + 1) w.heap.size (w.heap.size + 2) ((w.alloc (.cells #[.slice none 0 0] 31)).alloc (.cells #[.slice p l.length c, addV w.heap.size] 134)) l []) := Lib.hid (by
    have hb1 : Below w.heap.size w (w.alloc (.cells #[.slice none 0 0] 31)) := (Below.refl _ _).alloc (Nat.le_refl _) _
    have hs1 : (w.alloc (.cells #[.slice none 0 0] 31)).heap.size = w.heap.size + 1 := by simp
    have hb2 := (Below.refl (w.alloc (.cells #[.slice none 0 0] 31)).heap.size (w.alloc (.cells #[.slice none 0 0] 31))).alloc (Nat.le_refl _) (.cells #[.slice p l.length c, addV w.heap.size] 134)
    have r1 := lies_new w #[.slice none 0 0] 31
    have r2 := lies_new (w.alloc (.cells #[.slice none 0 0] 31)) #[.slice p l.length c, addV w.heap.size] 134
    rw [hs1] at r2
    refine ⟨chain2 hb1 hb2, ⟨by omega, by omega⟩, ⟨Nat.le_refl _, by omega⟩, by omega, by simp, ⟨_, r2.1, hv⟩, r2.2, ⟨.slice none 0 0, rangeAt_block r1.1 (hb2.block _ (by rw [hs1]; omega)), World.ownsRow_nil _ _ _ _⟩, there_block r1.2 (hb2.block _ (by rw [hs1]; omega)), Nat.zero_le _⟩)
  have HM := Lib.hid (module_prt HT (by omega) hp hn (by simp; omega) HW.out)
  unfold addV at HM
  have HV := Lib.hid hv
  clear hv hp hn hl HT
  generalize l.length = n at *
  go_enter Tryz.func43, Tryz.ntmps43
  go_wp2_with fail
  refine HM.out.mono ?_
  rintro e w3 ⟨rfl, hp', hs'⟩
  obtain ⟨u, hu, hrow⟩ := hp'.tk
  have hcu : w3.cell? ⟨w.heap.size, 0, none⟩ = some u := hu 0 _ rfl
  have HR : Hid (TR w w3 u o) := Lib.hid (by
    rw [List.nil_append] at hrow
    exact ⟨⟨hrow.1, hrow.2.imp id (fun ⟨g, cap, cur, e, hb, r⟩ => ⟨g, cap, cur, e, by omega, r⟩)⟩, hp'.below⟩)
  clear hp' hs' hu hrow HM
  go_wp2
  go_ret
  exact ⟨u, rfl, HR.out⟩

end Go.Proofs.YtemlceicmpcboaaGreatDoor.Sw
namespace Go.Proofs.YtemlceicmpcboaaGreatDoor.Sw
open Go.RowKit Go.Shelf Dk Lx Tr Pa

set_option maxRecDepth 100000 in
/-- A tree that is not right: what is wrong with it. -/
theorem tokens_no (l : List Nd) (v : Value) (w : World) (hv : Nds w v l) (hs : Short l) (hl : l.length ≤ 1000000) (hc : (checkL l).1 ≠ 0) :
    Calls Tryz.prog 22 #[v] w fun e w' => e = .returned (.tuple #[.slice none 0 0, .int .i64 (checkL l).1, .int .i64 (checkL l).2]) ∧ Below w.heap.size w w' := by
  have HC := Lib.hid (check_any l v w hv hl hs)
  generalize hk : checkL l = r at *
  obtain ⟨k, a⟩ := r
  replace hc : ¬ k = 0 := hc
  obtain ⟨p, c, rfl, -⟩ := hv
  generalize l.length = n at *
  clear hs hl hk
  go_enter Tryz.func22, Tryz.ntmps22
  go_wp2_with (go_at_call 27; refine HC.out.mono ?_; rintro e w1 ⟨rfl, hb⟩; unfold pairV)
  go_ret3
  exact ⟨rfl, hb⟩

theorem tr_base {w w1 w' : World} {u : Value} {o : List Tk} (h : TR w1 w' u o) (hb : Below w.heap.size w w1) : TR w w' u o :=
  ⟨⟨h.row.1, h.row.2.imp id (fun ⟨g, cap, cur, e, hbg, r⟩ => ⟨g, cap, cur, e, Nat.le_trans hb.size hbg, r⟩)⟩, chain2 hb h.below⟩

set_option maxRecDepth 100000 in
/-- A right one: its tokens. -/
theorem tokens_yes (l : List Nd) (o : List Tk) (v : Value) (w : World) (hv : Nds w v l) (hs : Short l) (hc : (checkL l).1 = 0) (hp : Prn [.nd .mod] l o []) (hn : FitN l) (HT : HasT w) :
    Calls Tryz.prog 22 #[v] w fun e w' => ∃ u, e = .returned (.tuple #[u, .int .i64 0, .int .i64 0]) ∧ TR w w' u o := by
  obtain ⟨h1, h2, -⟩ := check_ok hc
  obtain ⟨-, ho, -, -⟩ := written_ok hp hn h1
  have HC := Lib.hid (check_any l v w hv (by omega) hs)
  have HM : Hid (∀ W, Below w.heap.size w W → Calls Tryz.prog 43 #[v, .func (.func 44) #[] #[]] W fun e w' => ∃ u, e = .returned u ∧ TR W w' u o) := Lib.hid (fun W hb => collect_any l o v W (hv.later hb) hp hn h1 (by omega) (HT.later hb))
  generalize hk : checkL l = r at *
  obtain ⟨k, a⟩ := r
  replace hc : k = 0 := hc
  subst hc
  obtain ⟨p, c, rfl, -⟩ := hv
  generalize l.length = n at *
  clear hs hk hp hn HT ho
  go_enter Tryz.func22, Tryz.ntmps22
  go_wp2_with (first
    | (go_at_call 27; refine HC.out.mono ?_; rintro e w1 ⟨rfl, hb⟩; unfold pairV; clear HC)
    | (go_at_call 43; refine (HM.out _ hb).mono ?_; rintro e w2 ⟨u, rfl, hu⟩; clear HM))
  go_ret3
  exact ⟨u, rfl, tr_base hu hb⟩

set_option maxRecDepth 100000 in
theorem text_no (l : List Nd) (v : Value) (w : World) (hv : Nds w v l) (hs : Short l) (hl : l.length ≤ 1000000) (hc : (checkL l).1 ≠ 0) :
    Calls Tryz.prog 24 #[v] w fun e w' => e = .returned (.tuple #[.string ⟨#[]⟩, .int .i64 (checkL l).1, .int .i64 (checkL l).2]) ∧ Below w.heap.size w w' := by
  have HC := Lib.hid (tokens_no l v w hv hs hl hc)
  generalize (checkL l).1 = k at *
  generalize (checkL l).2 = a at *
  obtain ⟨p, c, rfl, -⟩ := hv
  generalize l.length = n at *
  clear hs hl
  go_enter Tryz.func24, Tryz.ntmps24
  go_wp2_with (go_at_call 22; refine HC.out.mono ?_; rintro e w1 ⟨rfl, hb⟩)
  go_ret3
  exact ⟨rfl, hb⟩

set_option maxRecDepth 100000 in
theorem text_yes (l : List Nd) (o : List Tk) (v : Value) (w : World) (hv : Nds w v l) (hs : Short l) (hc : (checkL l).1 = 0) (hp : Prn [.nd .mod] l o []) (hn : FitN l) (HT : HasT w) :
    Calls Tryz.prog 24 #[v] w fun e w' => e = .returned (if (writeL o).length ≤ 8192 then .tuple #[.string (strOf (writeL o)), .int .i64 0, .int .i64 0] else .tuple #[.string ⟨#[]⟩, .int .i64 3, .int .i64 0]) ∧ Below w.heap.size w w' := by
  obtain ⟨h1, h2, -⟩ := check_ok hc
  obtain ⟨-, ho, hw, hj⟩ := written_ok hp hn h1
  have HC := Lib.hid (tokens_yes l o v w hv hs hc hp hn HT)
  have HM := Lib.hid (fun (u : Value) (W : World) (h : Toks W u o) => Lx.text_any u o W h (by omega) (fun t ht => by have := hw t ht; have := text_le t; omega) (by omega))
  obtain ⟨p, c, rfl, -⟩ := hv
  generalize l.length = n at *
  have hz := strOf_size (writeL o)
  generalize hss : strOf (writeL o) = s at *
  clear hs hp hn HT ho hc hw hj
  by_cases hsz : (writeL o).length ≤ 8192
  · have hq : ¬(s.size : Int) > 8192 := by omega
    rw [if_pos hsz]
    clear hsz hz hss
    go_enter Tryz.func24, Tryz.ntmps24
    go_wp2_with (first
      | (go_at_call 22; refine HC.out.mono ?_; rintro e w1 ⟨u, rfl, hu⟩; clear HC)
      | (go_at_call 46; refine (HM.out u w1 hu.toks).mono ?_; rintro e w2 ⟨rfl, hb⟩; clear HM))
    go_ret3
    exact ⟨rfl, chain2 hu.below hb⟩
  · have hq : (s.size : Int) > 8192 := by omega
    rw [if_neg hsz]
    clear hsz hz hss
    go_enter Tryz.func24, Tryz.ntmps24
    go_wp2_with (first
      | (go_at_call 22; refine HC.out.mono ?_; rintro e w1 ⟨u, rfl, hu⟩; clear HC)
      | (go_at_call 46; refine (HM.out u w1 hu.toks).mono ?_; rintro e w2 ⟨rfl, hb⟩; clear HM))
    go_ret3
    exact ⟨rfl, chain2 hu.below hb⟩

end Go.Proofs.YtemlceicmpcboaaGreatDoor.Sw
