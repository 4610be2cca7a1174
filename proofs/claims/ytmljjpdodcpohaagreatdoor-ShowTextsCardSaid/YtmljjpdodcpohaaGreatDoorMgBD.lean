/- The walk of post; The walk of block; What lies in a branch that was read; the walk of exprStmt. No condition but those that each states. -/
import Derived.Test.YtmljjpdodcpohaaGreatDoorMgBC
import Derived.Test.YtmljjpdodcpohaaGreatDoorMgAN
namespace Go.Proofs.YtmljjpdodcpohaaGreatDoor.Pa
open Lib (hid)
set_option maxRecDepth 100000
set_option maxHeartbeats 8000000
open Go.RowKit Dk Lx Tr
theorem few_max {m : Nat} (h : m ≤ 1000000 + 1) : 1 + m ≤ maxLen ∧ (1 + m) * 8 ≤ 140737488355328 := by
  unfold maxLen; omega
theorem post_rd (L : List Tk) (n : Nat) (hE : RdN L 231 [.e 0] n) (s : St) (hP : Rd L 260 [.prim] s) (hs : mu L s ≤ n) : Rd L 259 [.prim, .post] s := by
  intro g vt w h; have HE := hid hE; have HP := hid hP; have H0 := hid (On.start h); have HLT := hid h.lt; have HMU := hid hs; have HFEW := hid h.few; obtain ⟨i0, hi0, hy0, hy1, hy2⟩ := info_parts ptr_info3; clear hE hP h hs; go_enter Tryz.func259, Tryz.ntmps259
  go_wp2_with fail
  refine (HP.out g vt w H0.out.ps).mono ?_; rintro e w1 ⟨b, t, s1, hk⟩; obtain ⟨rfl, hl, hps, honly, hbr, hle⟩ := hk; have H1 := hid (H0.out.call hps honly)
  have HL1 : Hid (Leads L [.prim, .post] [] s [.post] [t] s1) := hid (by
    have := hl.over [.post] []
    exact this)
  have HB1 := hid hbr; have HLE1 := hid hle; have HM1 := hid (Nat.le_trans (mu_le hl.aft hle) HMU.out); clear hl hps honly hbr hle HP HMU; go_wp2; go_loopg [3] (L.length - nx L s1) (fun q vl wr => ∃ (b : Nat) (t : List Nd) (s1 : St), vl = ptr b ∧ Hid (SB wr (fun k => k < w.heap.size) b t s1) ∧ Hid (On L g vt w wr s1) ∧ Hid (Leads L [.prim, .post] [] s [.post] [t] s1) ∧ Hid (nx L s ≤ nx L s1) ∧ Hid (mu L s1 ≤ n) ∧ Hid (q = L.length - nx L s1))
  case atStart => exact ⟨b, t, s1, rfl, HB1, H1, HL1, HLE1, HM1, hid rfl⟩
  case round =>
    clear HB1 H1 HL1 HLE1 HM1; obtain ⟨b, t, s2, rfl, HB, HON, HL, HLE, HMU, HK⟩ := hrel; have SG := hid (sign_any HON.out.ps); have q1 := str_beq' (sgS L s2) [40]; have q2 := str_beq' (sgS L s2) [91]; by_cases hq : sgS L s2 = [40]
    · obtain ⟨j, rfl, hj, hjl⟩ := sgS_ok hq (by decide)
      have HL2 := hid (HL.out.trans (post_call [t] hj)); have HMK : Hid (markS L [40] (.ok j) = .ok (j + 1)) := hid (if_pos hj); have LS := hid (fun W (hp : PS L g vt W (.ok j)) => list_any L 231 enters_expr false n HE.out (.ok j) (by rw [HMK.out]; exact Nat.lt_of_lt_of_le (mu_next hjl) HMU.out) g vt W hp)
      rw [decide_eq_true hq] at q1; generalize strOf (sgS L (.ok j)) = o at *; have G := hid (fun p W => grow_any (nd 22) p 1 1 W); unfold nd Nd.cells at G; have HJ := hid hjl; clear q2 hq hj hjl HL; go_wp2_with fail
      refine SG.out.mono ?_; rintro e v1 ⟨rfl, hb⟩; have O1 := hid (HON.out.below hb); have B1 := hid (SB.below HB.out hb); clear hb; go_wp2_with fail
      refine (G.out _ _).mono ?_; rintro e v3 ⟨b6, rfl, hb, hB, hbel⟩; have O3 := hid ((O1.out.alloc (.cells #[ptr b] 128)).below hbel); have F3 : Hid (FB w v3 b6 (nd 22) 0 (.slice (some ⟨v1.heap.size, 0, none⟩) 1 1) [(b, t)] (.ok j)) := hid (FB.start (LR.lit (cs := [(b, t)]) (Kids.add (cs := []) (Kids.nil _ _ _) B1.out) O1.out.only.size rfl rfl (by decide)) ((O1.out.alloc _).only.size) hb hB hbel); clear hb hB hbel G LS; have LS := hid (fun W (hp : PS L g vt W (.ok j)) => list_any L 231 enters_expr false n HE.out (.ok j) (by rw [HMK.out]; exact Nat.lt_of_lt_of_le (mu_next HJ.out) HMU.out) g vt W hp)
      go_upto_region 6 with fail
      obtain ⟨-, -, -, -, -, c5⟩ := F3.out.bb.at; generalize v1.heap.size = B5 at *
      go_region_law (first
        | (go_simp; go_at_call 182; refine (LS.out _ (O3.out.below (Below.refl _ _).drew).ps).mono ?_; rintro e v4 ⟨v, cs, s4, hk⟩; have hfar := hk.far; rw [HMK.out] at hfar; have htl := hk.tail; rw [HMK.out] at htl; obtain ⟨rfl, hon, hlr, -, -, hfew, ⟨q, c, rfl⟩, hnil⟩ := hk; have O4 := hid ((O3.out.below (Below.refl _ _).drew).call hon.ps hon.only); have F4 : Hid (FB w v4 b6 (nd 22) 0 (.slice (some ⟨B5, 0, none⟩) 1 1) [(b, t)] s4) := hid (FB.aft (FB.call (FB.below F3.out (Below.refl _ _).drew) hon.only HLT.out) (fun _ _ => ⟨j, rfl⟩)); have N4 := hid (FB.newsK (FB.below F3.out (Below.refl _ _).drew) hlr.kids O3.out.only.size); have R4 := hid hlr.row; have K4 := hid (And.intro hfar (And.intro htl hnil)); have HB1 := hid (few_max (Nat.le_trans hfew (Nat.succ_le_succ (Nat.le_trans O4.out.ps.le HFEW.out)))); obtain ⟨-, -, -, -, -, c5'⟩ := F4.out.bb.at; clear hfar htl hon hlr hfew hnil)
        | (refine step_append_ls (by rfl) (.tmp 19) (.tmp 23) 172 (by rfl) i0 Tryz.underlying172 hi0 hy0 hy1 hy2 _ 1 (bp [b]) (by rfl) F4.out.row (by decide) q cs.length c (bp (cs.map (·.1))) (by rfl) R4.out (fun h => by have h3 := K4.out.2.2 (List.eq_nil_of_length_eq_zero h); simp only [Value.slice.injEq] at h3; exact ⟨h3.1, h3.2.2⟩) (bp_one _) HB1.out.1 HB1.out.2 O4.out.only.size ?_; intro g' cap w7 hrow hgr hgl; have HA := hid (FB.app F4.out (Below.refl _ _) hgr); have HP := hid (FB.push (n := 1 + cs.length) F4.out N4.out (Below.refl _ _) rfl hrow hgr hgl); clear hrow hgr hgl; obtain ⟨-, -, -, -, -, c7⟩ := HA.out.1.at; have f7 := HA.out.1.free 5 (by decide)))
      all_goals
        have HR : Hid (SB (w7.setCell ⟨b6, 5, none⟩ (.slice (some ⟨g', 0, none⟩) (1 + cs.length) cap)) (fun k => k < w.heap.size) b6 (join (nd 22) (t :: cs.map (·.2))) s4 ∧ On L g vt w (w7.setCell ⟨b6, 5, none⟩ (.slice (some ⟨g', 0, none⟩) (1 + cs.length) cap)) s4) := hid ⟨FB.sb HP.out.1, On.fb O4.out F4.out HP.out.2⟩
        have HLN : Hid (Leads L [.prim, .post] [] s [.post] [join (nd 22) (t :: cs.map (·.2))] s4) := hid (HL2.out.trans ((by
          have := (K4.out.2.1 (nd 22) 1).over [.post] [t]; rw [List.append_nil] at this
          exact this : Leads L [.lF false (nd 22) 1, .post] [t] (.ok (j + 1)) [.lC false (nd 22) (1 + cs.length), .post] (t :: cs.map (·.2)) s4).trans (by
          have := ((lC_args (x := nd 22) (m := 1 + cs.length) (t :: cs.map (·.2)) s4).trans (Leads.mk (L := L) (nd 22) (t :: cs.map (·.2)) (1 + cs.length) (by simp [Nat.add_comm]) s4)).over [.post] []
          exact this)))
        have HMN : Hid (mu L s4 ≤ n) := hid (Nat.le_trans (mu_le (s := .ok j) (fun _ _ => ⟨j, rfl⟩) (Nat.le_trans (Nat.le_succ j) K4.out.1)) HMU.out); clear HA HP c7 f7 c5; go_wp2; go_roundg (L.length - nx L s4)
        case rel => exact ⟨b6, _, s4, rfl, hid HR.out.1, hid HR.out.2, HLN, hid (Nat.le_trans HLE.out (Nat.le_trans (Nat.le_succ j) K4.out.1)), HMN, hid rfl⟩
        case measure => have := HK.out; have := K4.out.1; have := HJ.out; have e : nx L (.ok j) = j := rfl; have e2 : nx L (.ok (j + 1)) = j + 1 := rfl; omega
    · rw [decide_eq_false hq] at q1
      by_cases hq2 : sgS L s2 = [91]
      · obtain ⟨j, rfl, hj, hjl⟩ := sgS_ok hq2 (by decide)
        rw [decide_eq_true hq2] at q2; have HL2 := hid (HL.out.trans (post_index [t] hj)); have hmu : mu L (.ok (j + 1)) < n := Nat.lt_of_lt_of_le (mu_next hjl) HMU.out; have E2 := hid (HE.out (.ok (j + 1)) hmu); generalize strOf (sgS L (.ok j)) = o at *; have G := hid (fun p W => grow_any (nd 26) p 2 2 W); unfold nd Nd.cells at G; have HJ := hid hjl; have z9 : (j : Int) ≤ 1000000 := by have := HFEW.out; omega
        clear hq hq2 hj hjl HL hmu; go_wp2_with fail
        refine SG.out.mono ?_; rintro e v1 ⟨rfl, hb⟩; have O1 := hid (HON.out.below hb); have B1 := hid (SB.below HB.out hb); clear hb; obtain ⟨-, c1, -, -⟩ := O1.out.ps.at; obtain ⟨f1, -, -⟩ := O1.out.ps.free; rw [show nx L (.ok j) = j from rfl] at c1; have O2 := hid (O1.out.call (O1.out.ps.next HJ.out) (Only.of_setCell _)); have B2 := hid (SB.aft (SB.call B1.out (Only.of_setCell (g := g) (j := 1) (.int .i64 ((j : Int) + 1))) HLT.out) (s' := .ok (j + 1)) (fun _ _ => ⟨j, rfl⟩)); go_wp2_with fail
        generalize World.setCell _ _ _ = v3 at O2 B2 ⊢; clear c1 f1; refine (E2.out g vt v3 O2.out.ps).mono ?_; rintro e v4 ⟨b', t', s4, hk⟩; obtain ⟨rfl, hl, hps, honly, hbr, hle⟩ := hk; have O4 := hid (O2.out.call hps honly); have B4 := hid (SB.aft (SB.call B2.out honly HLT.out) hl.aft); have B4' : Hid (SB v4 (fun k => k < w.heap.size) b' t' s4) := hid (SB.weaken hbr (fun i _ hi => by have := O2.out.only.size; omega))
        have HL4 : Hid (Leads L [.prim, .post] [] s [.post] [join (nd 26) [t, t']] (markS L [93] s4)) := hid (HL2.out.trans ((by
          have := hl.over [.mark [93], .mk (nd 26) 2, .post] [t]; rw [List.append_nil] at this
          exact this : Leads L [.e 0, .mark [93], .mk (nd 26) 2, .post] [t] (.ok (j + 1)) [.mark [93], .mk (nd 26) 2, .post] [t, t'] s4).trans ((by
          have := (Leads.mark (L := L) [93] s4).over [.mk (nd 26) 2, .post] [t, t']
          exact this : Leads L [.mark [93], .mk (nd 26) 2, .post] [t, t'] s4 [.mk (nd 26) 2, .post] [t, t'] (markS L [93] s4)).trans (by
          have := (Leads.mk (L := L) (nd 26) [t, t'] 2 rfl (markS L [93] s4)).over [.post] []
          exact this))))
        have HAF : Hid (Aft s4 (markS L [93] s4)) := hid (Leads.mark (L := L) [93] s4).aft; have HFA : Hid (j + 1 ≤ nx L (markS L [93] s4)) := hid (Nat.le_trans hle (mark_le [93] hps.le)); have X := hid (fun W (hp : PS L g vt W s4) => expect_any [93] hp (by decide)); generalize markS L [93] s4 = s5 at *; have R4 : Hid (LR w (v4.alloc (.cells #[ptr b, ptr b'] 128)) (.slice (some ⟨v4.heap.size, 0, none⟩) 2 2) [(b, t), (b', t')] s4) := hid (LR.lit (Kids.add (Kids.add (Kids.nil _ _ _) B4.out) B4'.out) O4.out.only.size rfl rfl (by decide)); have O5 := hid (O4.out.alloc (.cells #[ptr b, ptr b'] 128)); clear hl hps honly hbr hle HL2 E2; go_wp2_with fail
        refine (G.out _ _).mono ?_; rintro e v6 ⟨b6, rfl, hb, hB, hbel⟩; have O6 := hid (O5.out.below hbel); have HSB : Hid (SB v6 (fun k => k < w.heap.size) b6 (join (nd 26) [t, t']) s4) := hid (sb_node (cs := [(b, t), (b', t')]) hB (by have := O5.out.only.size; omega) (R4.out.below hbel))
        clear hbel hb hB G; go_wp2_with fail
        refine (X.out _ O6.out.ps).mono ?_; rintro e v7 ⟨rfl, hp, ho⟩; have O7 := hid (O6.out.call hp ho); have HS7 := hid (SB.aft (SB.call HSB.out ho HLT.out) HAF.out); have HMN : Hid (mu L s5 ≤ n) := hid (Nat.le_trans (mu_le (s := .ok j) (fun _ _ => ⟨j, rfl⟩) (Nat.le_trans (Nat.le_succ j) HFA.out)) HMU.out); clear hp ho; go_wp2; go_roundg (L.length - nx L s5)
        case rel => exact ⟨b6, _, s5, rfl, HS7, O7, HL4, hid (Nat.le_trans HLE.out (Nat.le_trans (Nat.le_succ j) HFA.out)), HMN, hid rfl⟩
        case measure => have := HK.out; have := HFA.out; have := HJ.out; have e : nx L (.ok j) = j := rfl; omega
      · rw [decide_eq_false hq2] at q2
        have HL2 := hid (HL.out.trans (post_end [t] hq hq2)); generalize strOf (sgS L s2) = o at *; clear hq hq2 HL; go_wp2_with fail
        refine SG.out.mono ?_; rintro e v1 ⟨rfl, hb⟩; have O1 := hid (HON.out.below hb); have B1 := hid (SB.below HB.out hb); clear hb; go_wp2; go_ret; exact ⟨b, t, s2, rfl, HL2.out, O1.out.ps, O1.out.only, B1.out, HLE.out⟩
end Go.Proofs.YtmljjpdodcpohaaGreatDoor.Pa

namespace Go.Proofs.YtmljjpdodcpohaaGreatDoor.Pa
open Lib (hid)
set_option maxRecDepth 100000
set_option maxHeartbeats 8000000
open Go.RowKit Dk Lx Tr
def StRd (L : List Tk) (s : St) : Prop := ∀ (g : Nat) (vt : Value) (w : World), PS L g vt w s →
  Calls Tryz.prog 208 #[ptr g] w fun e w' => ∃ b t s', RdOk L g vt [.stmt] s w e w' b t s' ∧ ∀ i j, s = .ok i → s' = .ok j → i < j
theorem blk_lead {L : List Tk} (s : St) : Leads L [.blk] [] s [.mark [123], .sts 0] [] s := by
  cases s with
  | bad k => exact rfl
  | ok j => exact .yes (fun V => rfl)
theorem one_sts (L : List Tk) (m : Nat) (V : List (List Nd)) (i : Nat) : one L (.sts m) V i = if sg L i = [125] then some ([.mk (nd 5) m], V, i + 1) else some ([.stmt, .sts (m + 1)], V, i) := rfl
theorem sts_end {L : List Tk} {m j : Nat} (us : List (List Nd)) (h : sg L j = [125]) : Leads L [.sts m] us (.ok j) [.mk (nd 5) m] us (.ok (j + 1)) := .yes (fun V => by rw [one_sts, if_pos h])
theorem sts_more {L : List Tk} {m j : Nat} (us : List (List Nd)) (h : sg L j ≠ [125]) : Leads L [.sts m] us (.ok j) [.stmt, .sts (m + 1)] us (.ok j) := .yes (fun V => by rw [one_sts, if_neg h])
theorem block_rd (L : List Tk) (n : Nat) (hS : ∀ s, mu L s < n → StRd L s) (s : St) (hs : mu L s ≤ n) : Rd L 184 [.blk] s := by
  intro g vt w h; have HS := hid hS; have X1 := hid (expect_any [123] h (by decide))
  have HL1 : Hid (Leads L [.blk] [] s [.sts 0] [] (markS L [123] s)) := hid ((blk_lead s).trans (by
    have := (Leads.mark (L := L) [123] s).over [.sts 0] []
    exact this))
  have HLE1 := hid (mark_le [123] h.le)
  have HM1 : Hid (∀ i, markS L [123] s = .ok i → mu L (.ok i) < n) := hid (fun i hi => by
    obtain ⟨j, rfl, rfl⟩ := mark_ok rfl i hi
    have hjl : j < L.length := by
      unfold markS at hi; dsimp only at hi
      split at hi
      · rename_i h3; exact sg_lt (by rw [h3]; simp)
      · cases hi
    exact Nat.lt_of_lt_of_le (mu_next hjl) hs)
  generalize markS L [123] s = s1 at *; have H0 := hid (On.start h); have HLT := hid h.lt; have HFEW := hid h.few; have G := hid (fun W => grow_any (nd 5) none 0 0 W); unfold nd Nd.cells at G; obtain ⟨i0, hi0, hy0, hy1, hy2⟩ := info_parts ptr_info3; clear hS h hs; go_enter Tryz.func184, Tryz.ntmps184
  go_wp2_with fail
  refine X1.out.mono ?_; rintro e w1 ⟨rfl, hp, ho⟩; have H1 := hid (H0.out.call hp ho); clear hp ho; go_wp2_with fail
  refine (G.out _).mono ?_; rintro e w2 ⟨b, rfl, hb, hB, hbel⟩; have H2 := hid (H1.out.below hbel); have F2 : Hid (FB w w2 b (nd 5) 0 (.slice none 0 0) [] s1) := hid (FB.start (LR.nil w w1 s1) H1.out.only.size hb hB hbel); clear hb hB hbel G X1; go_wp2; go_loopg [] (mu L s1) (fun k wr => ∃ (cs : List (Nat × List Nd)) (s2 : St) (q : Option Addr) (m c : Nat), Hid (m = cs.length) ∧ Hid (FB w wr b (nd 5) 0 (.slice q m c) cs s2) ∧ Hid (On L g vt w wr s2) ∧ Hid (Leads L [.blk] [] s [.sts m] (cs.map (·.2)) s2) ∧ Hid (nx L s ≤ nx L s2) ∧ Hid (∀ i, s2 = .ok i → mu L (.ok i) < n) ∧ Hid (m ≤ nx L s2 + 1 ∧ ∀ i, s2 = .ok i → m ≤ i) ∧ Hid (k = mu L s2))
  case atStart => exact ⟨[], s1, none, 0, 0, hid rfl, F2, H2, HL1, HLE1, HM1, hid ⟨Nat.zero_le _, fun _ _ => Nat.zero_le _⟩, hid rfl⟩
  case round =>
    clear F2 H2 HL1 HLE1 HM1; obtain ⟨cs, s2, q, m, c, HM, HF, HO, HL, HLE, HMU, HC, HK⟩ := hrel; obtain ⟨-, -, c2, -⟩ := HO.out.ps.at; cases s2 with
    | bad k =>
      rw [show isBad (.bad k) = true from rfl] at c2; go_wp2; go_ret; exact ⟨b, _, .bad k, rfl, Leads.any' _ _ HL.out, HO.out.ps, HO.out.only, FB.sb HF.out, HLE.out⟩
    | ok i =>
      rw [show isBad (.ok i) = false from rfl] at c2; by_cases hq : sg L i = [125]
      · have A := hid (accept_yes [125] HO.out.ps (by decide) hq)
        have HL2 : Hid (Leads L [.blk] [] s [] [join (nd 5) (cs.map (·.2))] (.ok (i + 1))) := hid (HL.out.trans ((sts_end _ hq).trans (Leads.mk _ _ _ (by rw [HM.out]; simp) _)))
        clear hq; go_wp2_with fail
        refine A.out.mono ?_; rintro e v2 ⟨rfl, hp, ho⟩; have O2 := hid (HO.out.call hp ho); have F3 : Hid (FB w v2 b (nd 5) 0 (.slice q m c) cs (.ok (i + 1))) := hid (FB.aft (FB.call HF.out ho HLT.out) (fun _ _ => ⟨i, rfl⟩)); clear hp ho; go_wp2; go_ret; exact ⟨b, _, .ok (i + 1), rfl, HL2.out, O2.out.ps, O2.out.only, FB.sb F3.out, Nat.le_trans HLE.out (Nat.le_succ _)⟩
      · have A := hid (accept_no [125] HO.out.ps hq)
        have HL2 : Hid (Leads L [.blk] [] s [.stmt, .sts (m + 1)] (cs.map (·.2)) (.ok i)) := hid (HL.out.trans (sts_more _ hq)); have S1 := hid (HS.out (.ok i) (HMU.out i rfl)); have HM1 : Hid (m + 1 = cs.length + 1) := hid (by rw [HM.out]); have HRW : Hid (∀ W s', FB w W b (nd 5) 0 (.slice q m c) cs s' → ∀ b', (W.alloc (.cells #[ptr b'] 128)).ownsRow w.heap.size 128 1 (.slice q m c) m (bp (cs.map (·.1)))) := hid (fun W s' hf b' => by have := hf.row.alloc (.cells #[ptr b'] 128); rw [← HM.out] at this; exact this)
        have hmm : m ≤ 1000001 := by have := HC.out.1; have := HO.out.ps.le; have := HFEW.out; omega
        have HB1 : Hid (m + 1 ≤ maxLen) := hid (by unfold maxLen; omega)
        have HB2 : Hid ((m + 1) * 8 ≤ 140737488355328) := hid (by omega); have HB3 : Hid (∀ W s', On L g vt w W s' → ∀ b', w.heap.size ≤ (W.alloc (.cells #[ptr b'] 128)).heap.size) := hid (fun W s' ho b' => by have := ho.only.size; simp; omega)
        clear hq hmm; go_wp2_with fail
        refine A.out.mono ?_; rintro e v2 ⟨rfl, hb⟩; have O2 := hid (HO.out.below hb); have F2 := hid (FB.below HF.out hb); clear hb c2 A; go_upto_region 4 with fail
        obtain ⟨-, -, -, -, -, c5⟩ := F2.out.bb.at
        go_region_law (first
          | (go_simp; go_at_call 208; refine (S1.out g vt _ (O2.out.below (Below.refl _ _).drew).ps).mono ?_; rintro e w4 ⟨b', t', s4, hk, hst⟩; obtain ⟨rfl, hl, hps, honly, hbr, hle⟩ := hk; have O4 := hid ((O2.out.below (Below.refl _ _).drew).call hps honly); have F4 := hid (FB.aft (FB.call (FB.below F2.out (Below.refl _ _).drew) honly HLT.out) hl.aft); have N4 := hid (Kids.add (Kids.nil w4 (fun k => (k < w.heap.size ∨ (Value.slice q m c).ownBlock = some k) ∨ k = b) s4) (FB.news (FB.aft (FB.below F2.out (Below.refl _ _).drew) hl.aft) hbr O2.out.only.size)); have K4 := hid (And.intro hl (And.intro hle hst)); obtain ⟨-, -, -, -, -, c5'⟩ := F4.out.bb.at; obtain ⟨-, -, -, -, -, c5a⟩ := (FB.below F4.out ((Below.refl _ _).alloc (Nat.le_refl _) (.cells #[ptr b'] 128))).bb.at; have N1 := hid (news_at w4 #[ptr b'] 128); clear hl hps honly hbr hle hst)
          | (refine step_append_lies _ (by rfl) (.tmp 22) (.tmp 25) 172 (by rfl) w.heap.size 128 i0 (.pointer none) 1 8 Tryz.underlying172 hi0 hy0 hy1 hy2 (by rfl) (by decide) _ m (bp (cs.map (·.1))) (by rfl) (HRW.out _ _ F4.out _) ⟨w4.heap.size, 0, none⟩ 1 1 [ptr b'] (by rfl) (by rfl) N1.out (by simp [Value.oneCell']) (by decide) HB1.out HB2.out (HB3.out _ _ O4.out _) (w4.heap.size + 1) (by simp) ?_; intro g' cap w7 hrow hgr hgl hlt7; have HA := hid (FB.app F4.out ((Below.refl _ _).alloc (Nat.le_refl _) (.cells #[ptr b'] 128)) hgr); have HP := hid (FB.push F4.out N4.out ((Below.refl _ _).alloc (Nat.le_refl _) (.cells #[ptr b'] 128)) HM1.out hrow hgr (hgl.imp id (fun e => e.trans (by simp)))); clear hrow hgr hgl hlt7; obtain ⟨-, -, -, -, -, c7⟩ := HA.out.1.at; have f7 := HA.out.1.free 5 (by decide)))
        all_goals
          have O7 := hid (On.fb O4.out F4.out HP.out.2)
          have HLN : Hid (Leads L [.blk] [] s [.sts (m + 1)] ((cs ++ [(b', t')]).map (·.2)) s4) := hid (HL2.out.trans (by
            have := K4.out.1.over [.sts (m + 1)] (cs.map (·.2)); rw [List.append_nil] at this; rw [List.map_append]
            exact this))
          have HMN : Hid (∀ j, s4 = .ok j → mu L (.ok j) < n) := hid (fun j hj => by
            have h1 := K4.out.2.2 i j rfl hj; have h2 := HMU.out i rfl; have h3 : mu L (.ok j) ≤ mu L (.ok i) := mu_le (fun _ _ => ⟨i, rfl⟩) (Nat.le_of_lt h1)
            omega)
          have HCN : Hid (m + 1 ≤ nx L s4 + 1 ∧ ∀ j, s4 = .ok j → m + 1 ≤ j) := hid ⟨by have := HC.out.2 i rfl; have h2 : i ≤ nx L s4 := K4.out.2.1; omega, fun j hj => by have := HC.out.2 i rfl; have := K4.out.2.2 i j rfl hj; omega⟩
          have HMS : Hid (mu L s4 < mu L (.ok i)) := hid (by
            cases s4 with
            | bad k => exact Nat.succ_pos _
            | ok j =>
              have h1 := K4.out.2.2 i j rfl rfl; have h2 : j ≤ L.length := O4.out.ps.le; show L.length - j + 1 < L.length - i + 1
              omega)
          clear HA c7 f7 c5; go_wp2; go_roundg (mu L s4)
          case rel => exact ⟨_, s4, _, _, _, hid (by rw [List.length_append, ← HM.out]; rfl), hid HP.out.1, O7, HLN, hid (Nat.le_trans HLE.out K4.out.2.1), HMN, HCN, hid rfl⟩
          case measure => have := HK.out; have := HMS.out; omega
end Go.Proofs.YtmljjpdodcpohaaGreatDoor.Pa

namespace Go.Proofs.YtmljjpdodcpohaaGreatDoor.Pa
open Go.RowKit Dk Lx Tr
theorem tks_any (L : List Tk) : ∃ K, TkS K L := by
  induction L with
  | nil => exact ⟨0, fun t ht => by cases ht⟩
  | cons a L ih =>
    obtain ⟨K, hK⟩ := ih; refine ⟨max K a.text.length, fun t ht => ?_⟩; rcases List.mem_cons.1 ht with rfl | ht
    · exact Nat.le_max_right _ _
    · exact Nat.le_trans (hK t ht) (Nat.le_max_left _ _)
theorem br_whole {W : World} {X : Nat → Prop} {b : Nat} {t : List Nd} (h : Br W X b t) : endW 1 (kidsOf t) = some t.length := by
  induction h with
  | mk b x k v cs hc ht hb hX hr hs ih =>
    show endW (0 + 1) (((cs.map (·.2)).length : Int) :: kidsOf (cs.map (·.2)).flatten) = some ((cs.map (·.2)).flatten.length + 1)
    rw [endW_cons, if_neg (by omega), Nat.zero_add, Int.toNat_natCast, whole_many (cs.map (·.2)) (fun t ht => by
      obtain ⟨c, hc, rfl⟩ := List.mem_map.1 ht
      exact ih c hc)]
    rfl
theorem br_cells {W : World} {X : Nat → Prop} {b : Nat} {t : List Nd} (h : Br W X b t) : ∃ y r, t = y :: r ∧ W.cell? ⟨b, 0, none⟩ = some (.int .i64 y.kind) ∧ W.cell? ⟨b, 2, none⟩ = some (.string (strOf y.name)) := by
  cases h with
  | mk b x k v cs hc ht hb hX hr hs => exact ⟨_, _, rfl, hc 0 _ rfl, hc 2 _ rfl⟩
theorem br_two {W : World} {X : Nat → Prop} {b : Nat} {y : Nd} {r : List Nd} (h : Br W X b (y :: r)) (hk : y.kids = 2) :
    ∃ c r0 o0 b0 b1, W.cell? ⟨b, 5, none⟩ = some (.slice (some ⟨r0, o0, none⟩) 2 c) ∧ W.cell? ⟨r0, o0, none⟩ = some (ptr b0) ∧ W.cell? ⟨r0, o0 + 1, none⟩ = some (ptr b1) ∧ r0 < W.heap.size ∧ ¬X r0 ∧ Br W X b0 (r.take (firstZ r)) ∧ Br W X b1 (r.drop (firstZ r)) := by
  generalize ht : y :: r = t at h; cases h with
  | mk b x k v cs hc hroom hb hX hr hs =>
    unfold join at ht; injection ht with h1 h2
    have hl : cs.length = 2 := by
      have : y.kids = ((cs.map (·.2)).length : Int) := by rw [h1]
      rw [hk] at this; simp at this
      omega
    match cs, hl with
    | [(b0, t0), (b1, t1)], _ =>
      obtain ⟨p, c, hv, hcap, h0 | ⟨r0, o0, hp, hr0, hX0, hrow⟩⟩ := hr
      · cases h0
      · have e0 : r = t0 ++ t1 := by rw [h2]; simp
        have w0 := br_whole (hs (b0, t0) (by simp))
        have hz : firstZ r = t0.length := by
          unfold firstZ; have e : kidsOf r = kidsOf t0 ++ kidsOf t1 := by rw [e0]; simp [kidsOf]
          rw [e, endW_app _ _ _ _ w0]; rfl
        refine ⟨c, r0, o0, b0, b1, ?_, ?_, ?_, hr0, hX0, ?_, ?_⟩
        · have := hc 5 _ rfl
          rw [hv, hp] at this; exact this
        · exact hrow 0 _ rfl
        · exact hrow 1 _ rfl
        · rw [hz, e0, List.take_left']
          · exact hs (b0, t0) (by simp)
          · rfl
        · rw [hz, e0, List.drop_left']
          · exact hs (b1, t1) (by simp)
          · rfl
theorem sb_kind {W : World} {X : Nat → Prop} {b : Nat} {t : List Nd} {s : St} (h : SB W X b t s) : ∃ k, W.cell? ⟨b, 0, none⟩ = some (.int .i64 k) ∧ ∀ i, s = .ok i → ∃ y r, t = y :: r ∧ y.kind = k := by
  cases s with
  | ok i =>
    obtain ⟨y, r, rfl, h0, -⟩ := br_cells h; exact ⟨_, h0, fun _ _ => ⟨y, r, rfl, rfl⟩⟩
  | bad k => exact ⟨_, h.2.2.choose_spec, fun _ hi => by cases hi⟩
theorem asg_do {L : List Tk} (t : List Nd) {s : St} (h : sgS L s ≠ [61]) : Leads L [.asg] [t] s [.mark [59], .mk (nd 17) 1] [t] s := by
  cases s with
  | bad k => exact rfl
  | ok j => exact .yes (fun V => by
      change (if sg L j = [61] then _ else some ([Sy.mark [59], .mk (nd 17) 1], t :: V, j)) = _
      exact if_neg h)
theorem asg_no {L : List Tk} {y : Nd} {r : List Nd} {j : Nat} {B : List Sy} {ts : List (List Nd)} (h : sg L j = [61]) (h1 : y.kind ≠ 21) (h2 : y.kind ≠ 26) : Leads L [.asg] [y :: r] (.ok j) B ts (.bad j) := .no (fun V => by
  change (if sg L j = [61] then (if y.kind = 21 then some _ else if y.kind = 26 then some _ else none) else _) = _
  rw [if_pos h, if_neg h1, if_neg h2])
theorem asg_name {L : List Tk} {y : Nd} {r : List Nd} {j : Nat} (h : sg L j = [61]) (h1 : y.kind = 21) : Leads L [.asg] [y :: r] (.ok j) [.e 0, .mark [59], .mk { nd 7 with name := y.name } 1] [] (.ok (j + 1)) := .yes (fun V => by
  change (if sg L j = [61] then (if y.kind = 21 then some _ else if y.kind = 26 then some _ else none) else _) = _
  rw [if_pos h, if_pos h1]; rfl)
theorem asg_index {L : List Tk} {y : Nd} {r : List Nd} {j : Nat} (h : sg L j = [61]) (h1 : y.kind = 26) : Leads L [.asg] [y :: r] (.ok j) [.e 0, .mark [59], .mk (nd 8) 3] [r.take (firstZ r), r.drop (firstZ r)] (.ok (j + 1)) := .yes (fun V => by
  change (if sg L j = [61] then (if y.kind = 21 then some _ else if y.kind = 26 then some _ else none) else _) = _
  rw [if_pos h, if_neg (by rw [h1]; decide), if_pos h1]; rfl)
end Go.Proofs.YtmljjpdodcpohaaGreatDoor.Pa

