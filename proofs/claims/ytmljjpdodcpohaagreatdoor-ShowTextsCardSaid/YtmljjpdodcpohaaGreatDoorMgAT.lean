/- The document's printer; The document's printer. No condition but those that each states. -/
import Derived.Test.YtmljjpdodcpohaaGreatDoorMgAR
namespace Go.Proofs.YtmljjpdodcpohaaGreatDoor.Sw
open Lib (hid)
set_option maxRecDepth 100000
set_option maxHeartbeats 4000000
open Go.RowKit Dk Lx Tr
theorem nd_st {l : List Nd} {v : Value} {w0 : World} {N : Nat} (hN : NodR l v w0 N) (i : Nat) (k : Int) (q : List UInt8) (z : Int) (s : List UInt8) (o : List Tk) (l' : List Nd) (w : World) (d : Nat) (_hd : d ≤ 100000) (ha : NdAt l v w i ⟨k, (d : Int), q, z, s⟩) (_hl : (l.drop (i + 1)).length < N) (_hw : Below w0.heap.size w0 w) (_ho : o.length ≤ 100000) (hkd : isStmt k = true)
    (hp : Prn [.nd .st] (l.drop i) o l') (hc : ∀ W, Below w.heap.size w W → Calls Tryz.prog 66 #[v, .int .i64 (i : Int)] W fun e w' => ∃ u, e = .returned u ∧ TR W w' u o) :
    Calls Tryz.prog 31 #[v, .int .i64 (i : Int)] w fun e w' => ∃ u, e = .returned u ∧ TR w w' u o := by
  obtain ⟨p, c, hv, -⟩ := id ha.nds; subst hv; obtain ⟨g, o0, hp0, -, -, -, -, -, -, hr⟩ := ha.nds.node i ha.lt; subst hp0; rw [ha.is] at hr; have z0 : (0 : Int) ≤ (i : Int) := by omega
  have z1 : (i : Int) < (l.length : Int) := by have := ha.lt; omega
  obtain ⟨x, hx⟩ : ∃ x : Nd, x = ⟨k, (d : Int), q, z, s⟩ := ⟨_, rfl⟩; rw [← hx] at hr; have HX := hid hx; clear hx; have HR := hid hr; have RK := hid (fun (W : World) (h : Below w.heap.size w W) => kids_at ha hp d rfl W h); have HC := hid hc; have RS := hid (fun (k : Int) W => rstmt_any k W); have RE := hid (fun (k : Int) W => rexpr_any k W); have HI := hid (n_info x); have hia := n_infoA x; have hla := n_all x; have HZ := hid (nb_zero w); have HPT := hid (nb_put w x); obtain ⟨n, hn⟩ : ∃ n, n = l.length := ⟨_, rfl⟩; rw [← hn] at z1 RK HC ⊢; clear hr ha hp _hw _hl hN _ho hn hc; go_enter Tryz.func31, Tryz.ntmps31
  go_upto_region 2 with (first
    | (refine wpList_load_mid rfl 58 (.tmp 11) rfl g (o0 + i * 5) rfl x.cells _ HR.out Tryz.underlying58 rfl HI.out ?_)
    | (refine wpList_store_mid rfl 58 (.tmp 5) (.tmp 12) rfl w.heap.size 0 x.cells.toArray rfl rfl HZ.out.room hia hla ?_; generalize World.setCells _ _ _ _ = W3 at HPT ⊢)
    | fail)
  go_wp2_with fail
  refine (RK.out W3 HPT.out.2).mono ?_; rintro e w4 ⟨kv, rfl, hk⟩; have HNB := hid (HPT.out.1.later hk.below); have HB4 := hid (chain2 HPT.out.2 hk.below); obtain ⟨c0, -, c2, c3, c4⟩ := HNB.out.at; rw [HX.out] at c0 c2 c3 c4; obtain ⟨p5, c5, hkv, -, -⟩ := Tr.own_form0 hk.row; rw [posI_len] at hkv; subst hkv; have HK := hid hk.ins; clear hk RK HPT; go_wp2_with fail
  refine (RS.out _ _).mono ?_; rintro e w5 ⟨rfl, hww⟩; subst w5; rw [hkd]; go_wp2_with fail
  refine (HC.out _ HB4.out).mono ?_; rintro e w6 ⟨u, rfl, hu⟩; have HU := hid (tr_from hu HB4.out); clear hu HC; go_wp2; go_ret; exact ⟨_, rfl, HU.out⟩
theorem nd_ex {l : List Nd} {v : Value} {w0 : World} {N : Nat} (hN : NodR l v w0 N) (i : Nat) (k : Int) (q : List UInt8) (z : Int) (s : List UInt8) (o : List Tk) (l' : List Nd) (w : World) (d : Nat) (_hd : d ≤ 100000) (ha : NdAt l v w i ⟨k, (d : Int), q, z, s⟩) (_hl : (l.drop (i + 1)).length < N) (_hw : Below w0.heap.size w0 w) (_ho : o.length ≤ 100000) (hkd : isStmt k = false ∧ isExpr k = true)
    (hp : Prn [.nd .ex] (l.drop i) o l') (hc : ∀ W, Below w.heap.size w W → Calls Tryz.prog 68 #[v, .int .i64 (i : Int)] W fun e w' => ∃ u, e = .returned u ∧ TR W w' u o) :
    Calls Tryz.prog 31 #[v, .int .i64 (i : Int)] w fun e w' => ∃ u, e = .returned u ∧ TR w w' u o := by
  obtain ⟨p, c, hv, -⟩ := id ha.nds; subst hv; obtain ⟨g, o0, hp0, -, -, -, -, -, -, hr⟩ := ha.nds.node i ha.lt; subst hp0; rw [ha.is] at hr; have z0 : (0 : Int) ≤ (i : Int) := by omega
  have z1 : (i : Int) < (l.length : Int) := by have := ha.lt; omega
  obtain ⟨x, hx⟩ : ∃ x : Nd, x = ⟨k, (d : Int), q, z, s⟩ := ⟨_, rfl⟩; rw [← hx] at hr; have HX := hid hx; clear hx; have HR := hid hr; have RK := hid (fun (W : World) (h : Below w.heap.size w W) => kids_at ha hp d rfl W h); have HC := hid hc; have RS := hid (fun (k : Int) W => rstmt_any k W); have RE := hid (fun (k : Int) W => rexpr_any k W); have HI := hid (n_info x); have hia := n_infoA x; have hla := n_all x; have HZ := hid (nb_zero w); have HPT := hid (nb_put w x); obtain ⟨n, hn⟩ : ∃ n, n = l.length := ⟨_, rfl⟩; rw [← hn] at z1 RK HC ⊢; clear hr ha hp _hw _hl hN _ho hn hc; go_enter Tryz.func31, Tryz.ntmps31
  go_upto_region 2 with (first
    | (refine wpList_load_mid rfl 58 (.tmp 11) rfl g (o0 + i * 5) rfl x.cells _ HR.out Tryz.underlying58 rfl HI.out ?_)
    | (refine wpList_store_mid rfl 58 (.tmp 5) (.tmp 12) rfl w.heap.size 0 x.cells.toArray rfl rfl HZ.out.room hia hla ?_; generalize World.setCells _ _ _ _ = W3 at HPT ⊢)
    | fail)
  go_wp2_with fail
  refine (RK.out W3 HPT.out.2).mono ?_; rintro e w4 ⟨kv, rfl, hk⟩; have HNB := hid (HPT.out.1.later hk.below); have HB4 := hid (chain2 HPT.out.2 hk.below); obtain ⟨c0, -, c2, c3, c4⟩ := HNB.out.at; rw [HX.out] at c0 c2 c3 c4; obtain ⟨p5, c5, hkv, -, -⟩ := Tr.own_form0 hk.row; rw [posI_len] at hkv; subst hkv; have HK := hid hk.ins; clear hk RK HPT; go_wp2_with fail
  refine (RS.out _ _).mono ?_; rintro e w5 ⟨rfl, hww⟩; subst w5; rw [hkd.1]; go_wp2_with fail
  refine (RE.out _ _).mono ?_; rintro e w5 ⟨rfl, hww⟩; subst w5; rw [hkd.2]; go_wp2_with fail
  refine (HC.out _ HB4.out).mono ?_; rintro e w6 ⟨u, rfl, hu⟩; have HU := hid (tr_from hu HB4.out); clear hu HC; go_wp2; go_ret; exact ⟨_, rfl, HU.out⟩
theorem nd_4 {l : List Nd} {v : Value} {w0 : World} {N : Nat} (hN : NodR l v w0 N) (i : Nat) (k : Int) (q : List UInt8) (z : Int) (s : List UInt8) (o : List Tk) (l' : List Nd) (w : World) (d : Nat) (_hd : d ≤ 100000) (ha : NdAt l v w i ⟨k, (d : Int), q, z, s⟩) (_hl : (l.drop (i + 1)).length < N) (_hw : Below w0.heap.size w0 w) (_ho : o.length ≤ 100000) (hkd : k = 4)
    (hp : Prn [.nd .par] (l.drop i) o l') (hq : Prn [nm q] (l.drop (i + 1)) o l') (hnm : ofT q = nmT q) (hql : q.length ≤ 2 ^ 40) :
    Calls Tryz.prog 31 #[v, .int .i64 (i : Int)] w fun e w' => ∃ u, e = .returned u ∧ TR w w' u o := by
  obtain ⟨p, c, hv, -⟩ := id ha.nds; subst hv; obtain ⟨g, o0, hp0, -, -, -, -, -, -, hr⟩ := ha.nds.node i ha.lt; subst hp0; rw [ha.is] at hr; have z0 : (0 : Int) ≤ (i : Int) := by omega
  have z1 : (i : Int) < (l.length : Int) := by have := ha.lt; omega
  obtain ⟨x, hx⟩ : ∃ x : Nd, x = ⟨k, (d : Int), q, z, s⟩ := ⟨_, rfl⟩; rw [← hx] at hr; have HX := hid hx; clear hx; have HR := hid hr; have RK := hid (fun (W : World) (h : Below w.heap.size w W) => kids_at ha hp d rfl W h); obtain ⟨a0, ho0, hq0⟩ := hq.tok_inv; cases hq0
  have HE := hid ho0; have OF := hid (fun W => of_one q 1 hql (by rw [hnm]; rfl) W)
  subst hkd; have RS := hid (fun (k : Int) W => rstmt_any k W); have RE := hid (fun (k : Int) W => rexpr_any k W); have HI := hid (n_info x); have hia := n_infoA x; have hla := n_all x; have HZ := hid (nb_zero w); have HPT := hid (nb_put w x); obtain ⟨n, hn⟩ : ∃ n, n = l.length := ⟨_, rfl⟩; rw [← hn] at z1 RK ⊢; clear hr ha hp _hw _hl hN _ho hn hq ho0; go_enter Tryz.func31, Tryz.ntmps31
  go_upto_region 2 with (first
    | (refine wpList_load_mid rfl 58 (.tmp 11) rfl g (o0 + i * 5) rfl x.cells _ HR.out Tryz.underlying58 rfl HI.out ?_)
    | (refine wpList_store_mid rfl 58 (.tmp 5) (.tmp 12) rfl w.heap.size 0 x.cells.toArray rfl rfl HZ.out.room hia hla ?_; generalize World.setCells _ _ _ _ = W3 at HPT ⊢)
    | fail)
  go_wp2_with fail
  refine (RK.out W3 HPT.out.2).mono ?_; rintro e w4 ⟨kv, rfl, hk⟩; have HNB := hid (HPT.out.1.later hk.below); have HB4 := hid (chain2 HPT.out.2 hk.below); obtain ⟨c0, -, c2, c3, c4⟩ := HNB.out.at; rw [HX.out] at c0 c2 c3 c4; obtain ⟨p5, c5, hkv, -, -⟩ := Tr.own_form0 hk.row; rw [posI_len] at hkv; subst hkv; have HK := hid hk.ins; clear hk RK HPT; go_wp2_with fail
  refine (RS.out _ _).mono ?_; rintro e w5 ⟨rfl, hww⟩; subst w5; rw [show isStmt 4 = false by rfl]; go_wp2_with fail
  refine (RE.out _ _).mono ?_; rintro e w5 ⟨rfl, hww⟩; subst w5; rw [show isExpr 4 = false by rfl]; go_wp2_with fail
  refine (OF.out _).mono ?_; rintro e w6 ⟨rfl, hb6⟩; obtain ⟨g4, cap4, w7, hr4, HT4⟩ := ts_one ((ts_first w4).later hb6) 1 0 0 q (by decide); have HTX := hid HT4; clear hb6 HT4 OF; go_wp2_with (at_builtin; refine Lib.wpList_append_run _ rfl _ _ _ _ rfl _ _ rfl rfl _ _ hr4 ?_)
  clear hr4; go_ret; exact ⟨_, rfl, by rw [HE.out]; exact tr_from HTX.out.tr HB4.out⟩
theorem nd_5 {l : List Nd} {v : Value} {w0 : World} {N : Nat} (hN : NodR l v w0 N) (i : Nat) (k : Int) (q : List UInt8) (z : Int) (s : List UInt8) (o : List Tk) (l' : List Nd) (w : World) (d : Nat) (hd : d ≤ 100000) (ha : NdAt l v w i ⟨k, (d : Int), q, z, s⟩) (hl : (l.drop (i + 1)).length < N) (hw : Below w0.heap.size w0 w) (ho : o.length ≤ 100000) (hkd : k = 5)
    (hp : Prn [.nd .blk] (l.drop i) o l') (hq : Prn (sg [123] :: (List.replicate d (.nd .st) ++ [sg [125]])) (l.drop (pos (kidsOf l) (i + 1) 0)) o l') :
    Calls Tryz.prog 31 #[v, .int .i64 (i : Int)] w fun e w' => ∃ u, e = .returned u ∧ TR w w' u o := by
  obtain ⟨p, c, hv, -⟩ := id ha.nds; subst hv; obtain ⟨g, o0, hp0, -, -, -, -, -, -, hr⟩ := ha.nds.node i ha.lt; subst hp0; rw [ha.is] at hr; have z0 : (0 : Int) ≤ (i : Int) := by omega
  have z1 : (i : Int) < (l.length : Int) := by have := ha.lt; omega
  obtain ⟨x, hx⟩ : ∃ x : Nd, x = ⟨k, (d : Int), q, z, s⟩ := ⟨_, rfl⟩; rw [← hx] at hr; have HX := hid hx; clear hx; have HR := hid hr; have RK := hid (fun (W : World) (h : Below w.heap.size w W) => kids_at ha hp d rfl W h); obtain ⟨a0, ho0, hq0⟩ := hq.tok_inv; have HQ0 := hid hq0; have HE := hid ho0; have HLO := hid ho; have HN := hid hN; have HW := hid hw; have HL := hid hl; have OF := hid (fun W => of_one [123] 4 (by decide) (by decide) W); have OE := hid (fun W => of_one [125] 4 (by decide) (by decide) W); subst hkd; have RS := hid (fun (k : Int) W => rstmt_any k W); have RE := hid (fun (k : Int) W => rexpr_any k W); have HI := hid (n_info x); have hia := n_infoA x; have hla := n_all x; have HZ := hid (nb_zero w); have HPT := hid (nb_put w x); obtain ⟨n, hn⟩ : ∃ n, n = l.length := ⟨_, rfl⟩; rw [← hn] at z1 RK HN ⊢; clear hr ha hp hw hl hN ho hn hq ho0 hq0; go_enter Tryz.func31, Tryz.ntmps31
  go_upto_region 2 with (first
    | (refine wpList_load_mid rfl 58 (.tmp 11) rfl g (o0 + i * 5) rfl x.cells _ HR.out Tryz.underlying58 rfl HI.out ?_)
    | (refine wpList_store_mid rfl 58 (.tmp 5) (.tmp 12) rfl w.heap.size 0 x.cells.toArray rfl rfl HZ.out.room hia hla ?_; generalize World.setCells _ _ _ _ = W3 at HPT ⊢)
    | fail)
  go_wp2_with fail
  refine (RK.out W3 HPT.out.2).mono ?_; rintro e w4 ⟨kv, rfl, hk⟩; have HNB := hid (HPT.out.1.later hk.below); have HB4 := hid (chain2 HPT.out.2 hk.below); obtain ⟨c0, -, c2, c3, c4⟩ := HNB.out.at; rw [HX.out] at c0 c2 c3 c4; obtain ⟨p5, c5, hkv, -, -⟩ := Tr.own_form0 hk.row; rw [posI_len] at hkv; subst hkv; have HK := hid hk.ins; clear hk RK HPT; go_wp2_with fail
  refine (RS.out _ _).mono ?_; rintro e w5 ⟨rfl, hww⟩; subst w5; rw [show isStmt 5 = false by rfl]; go_wp2_with fail
  refine (RE.out _ _).mono ?_; rintro e w5 ⟨rfl, hww⟩; subst w5; rw [show isExpr 5 = false by rfl]; go_wp2_with fail
  refine (OF.out _).mono ?_; rintro e w6 ⟨rfl, hb6⟩; obtain ⟨g4, cap4, w7, hr4, HT4⟩ := ts_one ((ts_first w4).later hb6) 4 0 0 [123] (by decide); have HTX := hid HT4; clear hb6 HT4 OF; go_wp2_with (at_builtin; refine Lib.wpList_append_run _ rfl _ _ _ _ rfl _ _ rfl rfl _ _ hr4 ?_)
  clear hr4; go_loopw [7, 8] (fun v7 vi wr => ∃ (j : Nat) (ta oi : List Tk), j ≤ d ∧ vi = .int .i64 (j : Int) ∧ Hid (TR w4 wr v7 ta) ∧ Hid (Prn (List.replicate (d - j) (.nd .st) ++ [sg [125]]) (l.drop (pos (kidsOf l) (i + 1) j)) oi l') ∧ Hid (o = ta ++ oi)) (fun _ vi _ => d - (intOf vi).toNat)
  case atStart => exact ⟨0, [sgn [123]], a0, Nat.zero_le _, rfl, hid HTX.out.tr, HQ0, HE⟩
  case round =>
    clear HQ0 HE HTX c0 c2 c3 c4; obtain ⟨j, ta, oi, hj, rfl, HT, HP, HEQ⟩ := hrel; have HBL : Hid (ta.length + oi.length ≤ 100000) := hid (by have h1 := HLO.out; rw [HEQ.out, List.length_append] at h1; exact h1)
    obtain ⟨p7, n7, c7, hv7, hts⟩ := tr_ts HT.out; subst hv7; have HTS := hid hts; clear hts; by_cases hlt : j < d
    · obtain ⟨g1, o1x, hp1, hg1, hcw⟩ := HK.out.int j (by rw [posI_len]; exact hlt)
      rw [posI_at, Nat.zero_add] at hcw; subst hp1; have hc1 := (World.cell?_of_block (a := ⟨g1, o1x + j, none⟩) (HT.out.below.block g1 hg1)).trans hcw; clear hcw; have y0 : (0 : Int) ≤ (j : Int) := by omega
      have y1 : (j : Int) < (d : Int) := by omega
      have hq := HP.out; rw [show d - j = (d - (j + 1)) + 1 by omega, List.replicate_succ, List.cons_append] at hq; obtain ⟨o1, o2, l1, he, hq1, hq2⟩ := Prn.nd_cons (A := List.replicate (d - (j + 1)) (.nd .st) ++ [sg [125]]) hq; have HPOS := hid (prn_pos1 _ (Nat.lt_succ_self _) hq1); have HQ2 : Hid (Prn (List.replicate (d - (j + 1)) (.nd .st) ++ [sg [125]]) (l.drop (pos (kidsOf l) (i + 1) (j + 1))) o2 l') := hid (by have := hq2; rw [prn_step hq1] at this; exact this)
      have HBND : Hid (n7 + o1.length ≤ 10000000) := hid (by have h1 := HBL.out; have h2 := HTS.out.len; rw [he, List.length_append] at h1; omega)
      have HEQ2 : Hid (o = (ta ++ o1) ++ o2) := hid (by rw [HEQ.out, he, List.append_assoc]); have X := hid (HN.out _ .st o1 l1 wr (drop_less (pos_ge _ _ _) HL.out) hq1 (chain2 HW.out (chain2 HB4.out HT.out.below))); clear hq he hq1 hq2 hlt HP HEQ; go_wp2_with fail
      refine X.out.mono ?_; rintro e w8 ⟨u8, rfl, hu8⟩; obtain ⟨g6, o6, c6, cap6, w9, m6, g7, hv6, hr6, HT6⟩ := ts_row HTS.out hu8 HPOS.out HBND.out; subst hv6; have HT7 := hid HT6; clear hu8 HT6 X HTS HT hc1; go_wp2_with (at_builtin; refine Lib.wpList_append_run _ rfl _ _ _ _ rfl _ _ rfl rfl _ _ hr6 ?_)
      clear hr6; go_roundw
      case rel => exact ⟨j + 1, _, o2, by omega, by go_num, hid HT7.out.tr, HQ2, HEQ2⟩
      case measure => simp [intOf]; omega
    · have hin : j = d := by omega
      have y2 : ¬(j : Int) < (d : Int) := by omega
      have hq := HP.out; rw [hin, Nat.sub_self, List.replicate_zero, List.nil_append] at hq; obtain ⟨o9, he9, hq9⟩ := hq.tok_inv; cases hq9
      have HE9 := hid he9
      have hc0 : wr.cell? ⟨w.heap.size, 0, none⟩ = some (.int .i64 5) := by
        have := (World.cell?_of_block (a := ⟨w.heap.size, 0, none⟩) (HT.out.below.block _ HNB.out.lt)).trans HNB.out.at.1; rw [HX.out] at this; exact this
      have HBND5 : Hid (n7 ≤ 9000000) := hid (by have h1 := HBL.out; have h2 := HTS.out.len; omega)
      clear hin hlt hj he9 HP; go_wp2_with fail
      refine (OE.out _).mono ?_; rintro e w8 ⟨rfl, hb8⟩; obtain ⟨g6, cap6, w9, hr6, HT6⟩ := ts_one (HTS.out.later hb8) 4 0 0 [125] HBND5.out; have HT7 := hid HT6; clear hb8 HT6 HTS HT hc0; go_wp2_with (at_builtin; refine Lib.wpList_append_run _ rfl _ _ _ _ rfl _ _ rfl rfl _ _ hr6 ?_)
      clear hr6; go_ret; exact ⟨_, rfl, by rw [HEQ.out, HE9.out]; exact tr_from HT7.out.tr HB4.out⟩
end Go.Proofs.YtmljjpdodcpohaaGreatDoor.Sw

namespace Go.Proofs.YtmljjpdodcpohaaGreatDoor.Sw
open Lib (hid)
set_option maxRecDepth 100000
set_option maxHeartbeats 4000000
open Go.RowKit Dk Lx Tr
theorem re_18 {l : List Nd} {v : Value} {w0 : World} {N : Nat} (hN : NodR l v w0 N) (i : Nat) (q : List UInt8) (z : Int) (s : List UInt8) (o : List Tk) (l' : List Nd) (w : World) (ha : NdAt l v w i ⟨18, 0, q, z, s⟩) (_hl : (l.drop (i + 1)).length < N) (_hw : Below w0.heap.size w0 w) (_ho : o.length ≤ 100000)
    (hp : Prn [.nd .ex] (l.drop i) o l') (hq : Prn [sg [110, 105, 108]] (l.drop (pos (kidsOf l) (i + 1) 0)) o l') :
    Calls Tryz.prog 68 #[v, .int .i64 (i : Int)] w fun e w' => ∃ u, e = .returned u ∧ TR w w' u o := by
  obtain ⟨p, c, hv, -⟩ := id ha.nds; subst hv; obtain ⟨g, o0, hp0, -, -, -, -, -, -, hr⟩ := ha.nds.node i ha.lt; subst hp0; rw [ha.is] at hr; have z0 : (0 : Int) ≤ (i : Int) := by omega
  have z1 : (i : Int) < (l.length : Int) := by have := ha.lt; omega
  obtain ⟨x, hx⟩ : ∃ x : Nd, x = ⟨18, 0, q, z, s⟩ := ⟨_, rfl⟩; rw [← hx] at hr; have HX := hid hx; clear hx; have HR := hid hr; have RK := hid (fun (W : World) (h : Below w.heap.size w W) => kids_at ha hp 0 rfl W h); obtain ⟨a0, ho0, hq0⟩ := hq.tok_inv; cases hq0
  have hoE : o = [sgn [110, 105, 108]] := by rw [ho0] <;> simp
  have hoL := congrArg List.length hoE; simp only [List.length_cons, List.length_nil] at hoL; have HE := hid hoE; have AR0 := hid (fun (va : Value) (W : World) (h1 : Strs W va [[110, 105, 108]]) => all_any [[110, 105, 108]] va W h1 (by decide) (by simp)); have HI := hid (n_info x); have hia := n_infoA x; have hla := n_all x; have HZ := hid (nb_zero w); have HPT := hid (nb_put w x); obtain ⟨n, hn⟩ : ∃ n, n = l.length := ⟨_, rfl⟩; rw [← hn] at z1 RK ⊢; clear hr hq ha hp _hw _hl hN _ho hn hoL ho0 hoE; go_enter Tryz.func68, Tryz.ntmps68
  go_upto_region 2 with (first
    | (refine wpList_load_mid rfl 58 (.tmp 14) rfl g (o0 + i * 5) rfl x.cells _ HR.out Tryz.underlying58 rfl HI.out ?_)
    | (refine wpList_store_mid rfl 58 (.tmp 5) (.tmp 15) rfl w.heap.size 0 x.cells.toArray rfl rfl HZ.out.room hia hla ?_; generalize World.setCells _ _ _ _ = W3 at HPT ⊢)
    | fail)
  go_wp2_with fail
  refine (RK.out W3 HPT.out.2).mono ?_; rintro e w4 ⟨kv, rfl, hk⟩; have HNB := hid (HPT.out.1.later hk.below); have HB4 := hid (chain2 HPT.out.2 hk.below); obtain ⟨p5, c5, hkv, -, -⟩ := Tr.own_form0 hk.row; rw [posI_len] at hkv; subst hkv; clear hk RK HPT; obtain ⟨c0, -, c2, c3, c4⟩ := HNB.out.at; rw [HX.out] at c0 c2 c3 c4; have HB44 := hid (Below.refl w4.heap.size w4); go_wp2_with fail
  refine (AR0.out _ _ (Strs.lit w4 [[110, 105, 108]] 9 1 rfl)).mono ?_; rintro e w10 ⟨u0, rfl, hu0, -⟩; have hu := tr_from (w := w4) hu0 ((Below.refl _ _).alloc (Nat.le_refl _) _); have HBx0 := hid (chain2 HB4.out hu.below); have HBy0 := hid (chain2 HB44.out hu.below); obtain ⟨p8, n8, c8, hv8, hts⟩ := tr_ts (tr_from (w := w4) hu HB44.out); subst hv8; have HTS0 := hid hts; clear hts hu hu0 AR0; go_wp2; go_ret; exact ⟨_, rfl, by rw [HE.out]; exact tr_from HTS0.out.tr HB4.out⟩
theorem re_29 {l : List Nd} {v : Value} {w0 : World} {N : Nat} (hN : NodR l v w0 N) (i : Nat) (q : List UInt8) (z : Int) (s : List UInt8) (o : List Tk) (l' : List Nd) (w : World) (ha : NdAt l v w i ⟨29, 0, q, z, s⟩) (_hl : (l.drop (i + 1)).length < N) (_hw : Below w0.heap.size w0 w) (_ho : o.length ≤ 100000)
    (hp : Prn [.nd .ex] (l.drop i) o l') (hq : Prn [sg [115, 116, 97, 116, 101]] (l.drop (pos (kidsOf l) (i + 1) 0)) o l') :
    Calls Tryz.prog 68 #[v, .int .i64 (i : Int)] w fun e w' => ∃ u, e = .returned u ∧ TR w w' u o := by
  obtain ⟨p, c, hv, -⟩ := id ha.nds; subst hv; obtain ⟨g, o0, hp0, -, -, -, -, -, -, hr⟩ := ha.nds.node i ha.lt; subst hp0; rw [ha.is] at hr; have z0 : (0 : Int) ≤ (i : Int) := by omega
  have z1 : (i : Int) < (l.length : Int) := by have := ha.lt; omega
  obtain ⟨x, hx⟩ : ∃ x : Nd, x = ⟨29, 0, q, z, s⟩ := ⟨_, rfl⟩; rw [← hx] at hr; have HX := hid hx; clear hx; have HR := hid hr; have RK := hid (fun (W : World) (h : Below w.heap.size w W) => kids_at ha hp 0 rfl W h); obtain ⟨a0, ho0, hq0⟩ := hq.tok_inv; cases hq0
  have hoE : o = [sgn [115, 116, 97, 116, 101]] := by rw [ho0] <;> simp
  have hoL := congrArg List.length hoE; simp only [List.length_cons, List.length_nil] at hoL; have HE := hid hoE; have AR0 := hid (fun (va : Value) (W : World) (h1 : Strs W va [[115, 116, 97, 116, 101]]) => all_any [[115, 116, 97, 116, 101]] va W h1 (by decide) (by simp)); have HI := hid (n_info x); have hia := n_infoA x; have hla := n_all x; have HZ := hid (nb_zero w); have HPT := hid (nb_put w x); obtain ⟨n, hn⟩ : ∃ n, n = l.length := ⟨_, rfl⟩; rw [← hn] at z1 RK ⊢; clear hr hq ha hp _hw _hl hN _ho hn hoL ho0 hoE; go_enter Tryz.func68, Tryz.ntmps68
  go_upto_region 2 with (first
    | (refine wpList_load_mid rfl 58 (.tmp 14) rfl g (o0 + i * 5) rfl x.cells _ HR.out Tryz.underlying58 rfl HI.out ?_)
    | (refine wpList_store_mid rfl 58 (.tmp 5) (.tmp 15) rfl w.heap.size 0 x.cells.toArray rfl rfl HZ.out.room hia hla ?_; generalize World.setCells _ _ _ _ = W3 at HPT ⊢)
    | fail)
  go_wp2_with fail
  refine (RK.out W3 HPT.out.2).mono ?_; rintro e w4 ⟨kv, rfl, hk⟩; have HNB := hid (HPT.out.1.later hk.below); have HB4 := hid (chain2 HPT.out.2 hk.below); obtain ⟨p5, c5, hkv, -, -⟩ := Tr.own_form0 hk.row; rw [posI_len] at hkv; subst hkv; clear hk RK HPT; obtain ⟨c0, -, c2, c3, c4⟩ := HNB.out.at; rw [HX.out] at c0 c2 c3 c4; have HB44 := hid (Below.refl w4.heap.size w4); go_wp2_with fail
  refine (AR0.out _ _ (Strs.lit w4 [[115, 116, 97, 116, 101]] 9 1 rfl)).mono ?_; rintro e w10 ⟨u0, rfl, hu0, -⟩; have hu := tr_from (w := w4) hu0 ((Below.refl _ _).alloc (Nat.le_refl _) _); have HBx0 := hid (chain2 HB4.out hu.below); have HBy0 := hid (chain2 HB44.out hu.below); obtain ⟨p8, n8, c8, hv8, hts⟩ := tr_ts (tr_from (w := w4) hu HB44.out); subst hv8; have HTS0 := hid hts; clear hts hu hu0 AR0; go_wp2; go_ret; exact ⟨_, rfl, by rw [HE.out]; exact tr_from HTS0.out.tr HB4.out⟩
theorem re_25 {l : List Nd} {v : Value} {w0 : World} {N : Nat} (hN : NodR l v w0 N) (i : Nat) (q : List UInt8) (z : Int) (s : List UInt8) (o : List Tk) (l' : List Nd) (w : World) (ha : NdAt l v w i ⟨25, 0, q, z, s⟩) (_hl : (l.drop (i + 1)).length < N) (_hw : Below w0.heap.size w0 w) (_ho : o.length ≤ 100000)
    (hp : Prn [.nd .ex] (l.drop i) o l') (hq : Prn [sg [123], sg [125]] (l.drop (pos (kidsOf l) (i + 1) 0)) o l') :
    Calls Tryz.prog 68 #[v, .int .i64 (i : Int)] w fun e w' => ∃ u, e = .returned u ∧ TR w w' u o := by
  obtain ⟨p, c, hv, -⟩ := id ha.nds; subst hv; obtain ⟨g, o0, hp0, -, -, -, -, -, -, hr⟩ := ha.nds.node i ha.lt; subst hp0; rw [ha.is] at hr; have z0 : (0 : Int) ≤ (i : Int) := by omega
  have z1 : (i : Int) < (l.length : Int) := by have := ha.lt; omega
  obtain ⟨x, hx⟩ : ∃ x : Nd, x = ⟨25, 0, q, z, s⟩ := ⟨_, rfl⟩; rw [← hx] at hr; have HX := hid hx; clear hx; have HR := hid hr; have RK := hid (fun (W : World) (h : Below w.heap.size w W) => kids_at ha hp 0 rfl W h); obtain ⟨a0, ho0, hq0⟩ := hq.tok_inv; obtain ⟨a1, ho1, hq1⟩ := hq0.tok_inv; cases hq1
  have hoE : o = [sgn [123], sgn [125]] := by rw [ho0, ho1] <;> simp
  have hoL := congrArg List.length hoE; simp only [List.length_cons, List.length_nil] at hoL; have HE := hid hoE; have AR0 := hid (fun (va : Value) (W : World) (h1 : Strs W va [[123], [125]]) => all_any [[123], [125]] va W h1 (by decide) (by simp)); have HI := hid (n_info x); have hia := n_infoA x; have hla := n_all x; have HZ := hid (nb_zero w); have HPT := hid (nb_put w x); obtain ⟨n, hn⟩ : ∃ n, n = l.length := ⟨_, rfl⟩; rw [← hn] at z1 RK ⊢; clear hr hq ha hp _hw _hl hN _ho hn hoL ho0 hq0 ho1 hoE; go_enter Tryz.func68, Tryz.ntmps68
  go_upto_region 2 with (first
    | (refine wpList_load_mid rfl 58 (.tmp 14) rfl g (o0 + i * 5) rfl x.cells _ HR.out Tryz.underlying58 rfl HI.out ?_)
    | (refine wpList_store_mid rfl 58 (.tmp 5) (.tmp 15) rfl w.heap.size 0 x.cells.toArray rfl rfl HZ.out.room hia hla ?_; generalize World.setCells _ _ _ _ = W3 at HPT ⊢)
    | fail)
  go_wp2_with fail
  refine (RK.out W3 HPT.out.2).mono ?_; rintro e w4 ⟨kv, rfl, hk⟩; have HNB := hid (HPT.out.1.later hk.below); have HB4 := hid (chain2 HPT.out.2 hk.below); obtain ⟨p5, c5, hkv, -, -⟩ := Tr.own_form0 hk.row; rw [posI_len] at hkv; subst hkv; clear hk RK HPT; obtain ⟨c0, -, c2, c3, c4⟩ := HNB.out.at; rw [HX.out] at c0 c2 c3 c4; have HB44 := hid (Below.refl w4.heap.size w4); go_wp2_with fail
  refine (AR0.out _ _ (Strs.lit w4 [[123], [125]] 9 2 rfl)).mono ?_; rintro e w10 ⟨u0, rfl, hu0, -⟩; have hu := tr_from (w := w4) hu0 ((Below.refl _ _).alloc (Nat.le_refl _) _); have HBx0 := hid (chain2 HB4.out hu.below); have HBy0 := hid (chain2 HB44.out hu.below); obtain ⟨p8, n8, c8, hv8, hts⟩ := tr_ts (tr_from (w := w4) hu HB44.out); subst hv8; have HTS0 := hid hts; clear hts hu hu0 AR0; go_wp2; go_ret; exact ⟨_, rfl, by rw [HE.out]; exact tr_from HTS0.out.tr HB4.out⟩
theorem re_30 {l : List Nd} {v : Value} {w0 : World} {N : Nat} (hN : NodR l v w0 N) (i : Nat) (q : List UInt8) (z : Int) (s : List UInt8) (o : List Tk) (l' : List Nd) (w : World) (ha : NdAt l v w i ⟨30, 1, q, z, s⟩) (hl : (l.drop (i + 1)).length < N) (hw : Below w0.heap.size w0 w) (ho : o.length ≤ 100000)
    (hp : Prn [.nd .ex] (l.drop i) o l') (hq : Prn [sg [40], sg [115, 112, 97, 119, 110], .nd .ex, sg [41]] (l.drop (pos (kidsOf l) (i + 1) 0)) o l') :
    Calls Tryz.prog 68 #[v, .int .i64 (i : Int)] w fun e w' => ∃ u, e = .returned u ∧ TR w w' u o := by
  obtain ⟨p, c, hv, -⟩ := id ha.nds; subst hv; obtain ⟨g, o0, hp0, -, -, -, -, -, -, hr⟩ := ha.nds.node i ha.lt; subst hp0; rw [ha.is] at hr; have z0 : (0 : Int) ≤ (i : Int) := by omega
  have z1 : (i : Int) < (l.length : Int) := by have := ha.lt; omega
  obtain ⟨x, hx⟩ : ∃ x : Nd, x = ⟨30, 1, q, z, s⟩ := ⟨_, rfl⟩; rw [← hx] at hr; have HX := hid hx; clear hx; have HR := hid hr; have RK := hid (fun (W : World) (h : Below w.heap.size w W) => kids_at ha hp 1 rfl W h); obtain ⟨a0, ho0, hq0⟩ := hq.tok_inv; obtain ⟨a1, ho1, hq1⟩ := hq0.tok_inv; obtain ⟨b0, a2, l0, ho2, hk0, hq2⟩ := hq1.nd_cons; obtain rfl := prn_step hk0; obtain ⟨a3, ho3, hq3⟩ := hq2.tok_inv; cases hq3
  have hoE : o = ([sgn [40], sgn [115, 112, 97, 119, 110]] ++ b0 ++ [sgn [41]]) := by rw [ho0, ho1, ho2, ho3] <;> simp
  have hoL := congrArg List.length hoE; simp only [List.length_append, List.length_cons, List.length_nil] at hoL; have HE := hid hoE; have HPOS0 := hid (prn_pos1 _ (Nat.lt_succ_self _) hk0); have HBN0 : Hid (b0.length ≤ 100000) := hid (by omega); obtain ⟨P0, hP0⟩ : ∃ P, P = pos (kidsOf l) (i + 1) 0 := ⟨_, rfl⟩; have hlP0 : (l.drop P0).length < N := by rw [hP0]; exact drop_less (pos_ge _ _ _) hl
  rw [← hP0] at hk0; have HP0 := hid hP0; have AR0 := hid (fun (va : Value) (vb : Value) (W : World) (h : Below w.heap.size w W) (h1 : Strs W va [[40], [115, 112, 97, 119, 110]]) (h2 : Strs W vb [[41]]) => around_any hN [[40], [115, 112, 97, 119, 110]] [[41]] va vb P0 .ex b0 _ W hlP0 hk0 (chain2 hw h) h1 h2 (by decide) (by decide) (by simp) (by simp) (fun h => by cases h) (by omega)); have HI := hid (n_info x); have hia := n_infoA x; have hla := n_all x; have HZ := hid (nb_zero w); have HPT := hid (nb_put w x); obtain ⟨n, hn⟩ : ∃ n, n = l.length := ⟨_, rfl⟩; rw [← hn] at z1 RK AR0 ⊢; clear hr hq ha hp hw hl hN ho hn hoL ho0 hq0 ho1 hq1 ho2 hk0 hq2 ho3 hoE hP0 hlP0; go_enter Tryz.func68, Tryz.ntmps68
  go_upto_region 2 with (first
    | (refine wpList_load_mid rfl 58 (.tmp 14) rfl g (o0 + i * 5) rfl x.cells _ HR.out Tryz.underlying58 rfl HI.out ?_)
    | (refine wpList_store_mid rfl 58 (.tmp 5) (.tmp 15) rfl w.heap.size 0 x.cells.toArray rfl rfl HZ.out.room hia hla ?_; generalize World.setCells _ _ _ _ = W3 at HPT ⊢)
    | fail)
  go_wp2_with fail
  refine (RK.out W3 HPT.out.2).mono ?_; rintro e w4 ⟨kv, rfl, hk⟩; have HNB := hid (HPT.out.1.later hk.below); have HB4 := hid (chain2 HPT.out.2 hk.below); obtain ⟨g5, c5, hkv⟩ := Tr.own_form hk.row (by rw [posI_len]; decide)
  rw [posI_len] at hkv; subst hkv; have HK := hid hk.ins; have HG5 : Hid (g5 < w4.heap.size) := hid (by obtain ⟨_, _, h6, h7, -⟩ := HK.out.int 0 (by rw [posI_len]; decide); simp only [Option.some.injEq, Addr.mk.injEq, and_true] at h6; obtain ⟨rfl, rfl⟩ := h6; exact h7)
  obtain ⟨g6, o6, hp6, hg6, k0⟩ := HK.out.int 0 (by rw [posI_len]; decide)
  rw [posI_at] at k0; simp only [Option.some.injEq, Addr.mk.injEq, and_true] at hp6; obtain ⟨rfl, rfl⟩ := hp6; rw [show pos (kidsOf l) (i + 1) (0 + 0) = P0 from (by rw [Nat.zero_add]; exact HP0.out.symm), Nat.zero_add] at k0
  have HK0 : Hid (∀ W, Below w4.heap.size w4 W → W.cell? ⟨g5, 0, none⟩ = some (.int .i64 (P0 : Int))) := hid (fun W hb => (World.cell?_of_block (a := ⟨g5, 0, none⟩) (hb.block g5 hg6)).trans k0); clear hg6 k0; clear hk RK HPT; obtain ⟨c0, -, c2, c3, c4⟩ := HNB.out.at; rw [HX.out] at c0 c2 c3 c4; have HB44 := hid (Below.refl w4.heap.size w4); have kk := HK0.out w4 HB44.out; have hgk := Nat.lt_of_lt_of_le HG5.out HB44.out.size; go_wp2_with fail
  refine (AR0.out _ _ _ (chain2 HB4.out (below2 w4 _ _)) ((Strs.lit w4 [[40], [115, 112, 97, 119, 110]] 9 2 rfl).later ((Below.refl _ _).alloc (Nat.le_refl _) _)) (strs_lit2 w4 _ [[41]] 9 1 rfl)).mono ?_; rintro e w10 ⟨u0, rfl, hu0⟩; have hu := tr_from (w := w4) hu0 (below2 w4 _ _); have HBx0 := hid (chain2 HB4.out hu.below); have HBy0 := hid (chain2 HB44.out hu.below); obtain ⟨p8, n8, c8, hv8, hts⟩ := tr_ts (tr_from (w := w4) hu HB44.out); subst hv8; have HTS0 := hid hts; clear hts hu hu0 AR0 kk hgk; go_wp2; go_ret; exact ⟨_, rfl, by rw [HE.out]; exact tr_from HTS0.out.tr HB4.out⟩
theorem re_26 {l : List Nd} {v : Value} {w0 : World} {N : Nat} (hN : NodR l v w0 N) (i : Nat) (q : List UInt8) (z : Int) (s : List UInt8) (o : List Tk) (l' : List Nd) (w : World) (ha : NdAt l v w i ⟨26, 2, q, z, s⟩) (hl : (l.drop (i + 1)).length < N) (hw : Below w0.heap.size w0 w) (ho : o.length ≤ 100000)
    (hp : Prn [.nd .ex] (l.drop i) o l') (hq : Prn [.nd .ex, sg [91], .nd .ex, sg [93]] (l.drop (pos (kidsOf l) (i + 1) 0)) o l') :
    Calls Tryz.prog 68 #[v, .int .i64 (i : Int)] w fun e w' => ∃ u, e = .returned u ∧ TR w w' u o := by
  obtain ⟨p, c, hv, -⟩ := id ha.nds; subst hv; obtain ⟨g, o0, hp0, -, -, -, -, -, -, hr⟩ := ha.nds.node i ha.lt; subst hp0; rw [ha.is] at hr; have z0 : (0 : Int) ≤ (i : Int) := by omega
  have z1 : (i : Int) < (l.length : Int) := by have := ha.lt; omega
  obtain ⟨x, hx⟩ : ∃ x : Nd, x = ⟨26, 2, q, z, s⟩ := ⟨_, rfl⟩; rw [← hx] at hr; have HX := hid hx; clear hx; have HR := hid hr; have RK := hid (fun (W : World) (h : Below w.heap.size w W) => kids_at ha hp 2 rfl W h); obtain ⟨b0, a0, l0, ho0, hk0, hq0⟩ := hq.nd_cons; obtain rfl := prn_step hk0; obtain ⟨a1, ho1, hq1⟩ := hq0.tok_inv; obtain ⟨b1, a2, l1, ho2, hk1, hq2⟩ := hq1.nd_cons; obtain rfl := prn_step hk1; obtain ⟨a3, ho3, hq3⟩ := hq2.tok_inv; cases hq3
  have hoE : o = ([] ++ b0 ++ [sgn [91]]) ++ ([] ++ b1 ++ [sgn [93]]) := by rw [ho0, ho1, ho2, ho3] <;> simp
  have hoL := congrArg List.length hoE; simp only [List.length_append, List.length_cons, List.length_nil] at hoL; have HE := hid hoE; have HPOS0 := hid (prn_pos1 _ (Nat.lt_succ_self _) hk0); have HBN0 : Hid (b0.length ≤ 100000) := hid (by omega); obtain ⟨P0, hP0⟩ : ∃ P, P = pos (kidsOf l) (i + 1) 0 := ⟨_, rfl⟩; have hlP0 : (l.drop P0).length < N := by rw [hP0]; exact drop_less (pos_ge _ _ _) hl
  rw [← hP0] at hk0; have HP0 := hid hP0; have HPOS1 := hid (prn_pos1 _ (Nat.lt_succ_self _) hk1); have HBN1 : Hid (b1.length ≤ 100000) := hid (by omega); obtain ⟨P1, hP1⟩ : ∃ P, P = pos (kidsOf l) (i + 1) 1 := ⟨_, rfl⟩; have hlP1 : (l.drop P1).length < N := by rw [hP1]; exact drop_less (pos_ge _ _ _) hl
  rw [← hP1] at hk1; have HP1 := hid hP1; have AR0 := hid (fun (vb : Value) (W : World) (h : Below w.heap.size w W) (h2 : Strs W vb [[91]]) => around_any hN [] [[91]] (.slice none 0 0) vb P0 .ex b0 _ W hlP0 hk0 (chain2 hw h) (strs_none W) h2 (by decide) (by decide) (by simp) (by simp) (fun h => by cases h) (by omega)); have AR1 := hid (fun (vb : Value) (W : World) (h : Below w.heap.size w W) (h2 : Strs W vb [[93]]) => around_any hN [] [[93]] (.slice none 0 0) vb P1 .ex b1 _ W hlP1 hk1 (chain2 hw h) (strs_none W) h2 (by decide) (by decide) (by simp) (by simp) (fun h => by cases h) (by omega)); have HI := hid (n_info x); have hia := n_infoA x; have hla := n_all x; have HZ := hid (nb_zero w); have HPT := hid (nb_put w x); obtain ⟨n, hn⟩ : ∃ n, n = l.length := ⟨_, rfl⟩; rw [← hn] at z1 RK AR0 AR1 ⊢; clear hr hq ha hp hw hl hN ho hn hoL ho0 hk0 hq0 ho1 hq1 ho2 hk1 hq2 ho3 hoE hP0 hlP0 hP1 hlP1; go_enter Tryz.func68, Tryz.ntmps68
  go_upto_region 2 with (first
    | (refine wpList_load_mid rfl 58 (.tmp 14) rfl g (o0 + i * 5) rfl x.cells _ HR.out Tryz.underlying58 rfl HI.out ?_)
    | (refine wpList_store_mid rfl 58 (.tmp 5) (.tmp 15) rfl w.heap.size 0 x.cells.toArray rfl rfl HZ.out.room hia hla ?_; generalize World.setCells _ _ _ _ = W3 at HPT ⊢)
    | fail)
  go_wp2_with fail
  refine (RK.out W3 HPT.out.2).mono ?_; rintro e w4 ⟨kv, rfl, hk⟩; have HNB := hid (HPT.out.1.later hk.below); have HB4 := hid (chain2 HPT.out.2 hk.below); obtain ⟨g5, c5, hkv⟩ := Tr.own_form hk.row (by rw [posI_len]; decide)
  rw [posI_len] at hkv; subst hkv; have HK := hid hk.ins; have HG5 : Hid (g5 < w4.heap.size) := hid (by obtain ⟨_, _, h6, h7, -⟩ := HK.out.int 0 (by rw [posI_len]; decide); simp only [Option.some.injEq, Addr.mk.injEq, and_true] at h6; obtain ⟨rfl, rfl⟩ := h6; exact h7)
  obtain ⟨g6, o6, hp6, hg6, k0⟩ := HK.out.int 0 (by rw [posI_len]; decide)
  rw [posI_at] at k0; simp only [Option.some.injEq, Addr.mk.injEq, and_true] at hp6; obtain ⟨rfl, rfl⟩ := hp6; rw [show pos (kidsOf l) (i + 1) (0 + 0) = P0 from (by rw [Nat.zero_add]; exact HP0.out.symm), Nat.zero_add] at k0
  have HK0 : Hid (∀ W, Below w4.heap.size w4 W → W.cell? ⟨g5, 0, none⟩ = some (.int .i64 (P0 : Int))) := hid (fun W hb => (World.cell?_of_block (a := ⟨g5, 0, none⟩) (hb.block g5 hg6)).trans k0); clear hg6 k0; obtain ⟨g6, o6, hp6, hg6, k1⟩ := HK.out.int 1 (by rw [posI_len]; decide)
  rw [posI_at] at k1; simp only [Option.some.injEq, Addr.mk.injEq, and_true] at hp6; obtain ⟨rfl, rfl⟩ := hp6; rw [show pos (kidsOf l) (i + 1) (0 + 1) = P1 from (by rw [Nat.zero_add]; exact HP1.out.symm), Nat.zero_add] at k1
  have HK1 : Hid (∀ W, Below w4.heap.size w4 W → W.cell? ⟨g5, 1, none⟩ = some (.int .i64 (P1 : Int))) := hid (fun W hb => (World.cell?_of_block (a := ⟨g5, 1, none⟩) (hb.block g5 hg6)).trans k1); clear hg6 k1; clear hk RK HPT; obtain ⟨c0, -, c2, c3, c4⟩ := HNB.out.at; rw [HX.out] at c0 c2 c3 c4; have HB44 := hid (Below.refl w4.heap.size w4); have kk := HK0.out w4 HB44.out; have hgk := Nat.lt_of_lt_of_le HG5.out HB44.out.size; go_wp2_with fail
  refine (AR0.out _ _ (chain2 HB4.out ((Below.refl _ _).alloc (Nat.le_refl _) _)) (Strs.lit w4 [[91]] 9 1 rfl)).mono ?_; rintro e w10 ⟨u0, rfl, hu0⟩; have hu := tr_from (w := w4) hu0 ((Below.refl _ _).alloc (Nat.le_refl _) _); have HBx0 := hid (chain2 HB4.out hu.below); have HBy0 := hid (chain2 HB44.out hu.below); obtain ⟨p8, n8, c8, hv8, hts⟩ := tr_ts (tr_from (w := w4) hu HB44.out); subst hv8; have HTS0 := hid hts; clear hts hu hu0 AR0 kk hgk; have kk := HK1.out w10 HBy0.out; have hgk := Nat.lt_of_lt_of_le HG5.out HBy0.out.size; go_wp2_with fail
  refine (AR1.out _ _ (chain2 HBx0.out ((Below.refl _ _).alloc (Nat.le_refl _) _)) (Strs.lit w10 [[93]] 9 1 rfl)).mono ?_; rintro e w11 ⟨u1, rfl, hu0⟩; have hu := tr_from (w := w10) hu0 ((Below.refl _ _).alloc (Nat.le_refl _) _); have HBx1 := hid (chain2 HBx0.out hu.below); have HBy1 := hid (chain2 HBy0.out hu.below); obtain ⟨g21, d21, e21, cap21, w31, m21, f21, hv, hrr, hts⟩ := ts_row HTS0.out hu (by have := HPOS1.out; simp; try omega) (by have h1 := HTS0.out.len; have := HBN0.out; have := HBN1.out; simp at h1 ⊢; omega)
  subst hv; have HTS1 := hid hts; have HBx1z := hid (chain2 HB4.out hts.below); have HBy1z := hid hts.below; clear hts hu hu0 AR1 HTS0 kk hgk; go_wp2_with (at_builtin; refine Lib.wpList_append_run _ rfl _ _ _ _ rfl _ _ rfl rfl _ _ hrr ?_)
  clear hrr; go_wp2; go_ret; exact ⟨_, rfl, by rw [HE.out]; exact tr_from HTS1.out.tr HB4.out⟩
end Go.Proofs.YtmljjpdodcpohaaGreatDoor.Sw

