/- The walk of exprStmt; The walk of stmtKind. No condition but those that each states. -/
import Derived.Test.YtmljjpdodcpohaaGreatDoorMgBD
namespace Go.Proofs.YtmljjpdodcpohaaGreatDoor.Pa
open Lib (hid)
set_option maxRecDepth 100000
set_option maxHeartbeats 8000000
open Go.RowKit Dk Lx Tr
theorem strict_of {L : List Tk} {i0 : Nat} {q : List UInt8} {s s' : St} (h : s' = markS L q s) (hle : i0 ≤ nx L s) : ∀ i j, (St.ok i0) = .ok i → s' = .ok j → i < j := by
  intro i j hi hj; cases hi
  obtain ⟨a, rfl, rfl⟩ := mark_ok h j hj; exact Nat.lt_succ_of_le hle
theorem exprStmt_rd (L : List Tk) (n : Nat) (hE : RdN L 231 [.e 0] n) (s : St) (hs : mu L s < n) (g : Nat) (vt : Value) (w : World) (h : PS L g vt w s) :
    Calls Tryz.prog 230 #[ptr g] w fun e w' => ∃ b t s', RdOk L g vt [.e 0, .asg] s w e w' b t s' ∧ ∀ i j, s = .ok i → s' = .ok j → i < j := by
  have HE := hid hE; have H0 := hid (On.start h); have HLT := hid h.lt; have HMU := hid hs; have E1 := hid (hE s hs); have G := hid (fun p W => grow_any (nd 17) p 1 1 W); unfold nd Nd.cells at G; clear hE hs h; go_enter Tryz.func230, Tryz.ntmps230
  go_wp2_with fail
  refine (E1.out g vt w H0.out.ps).mono ?_; rintro e w1 ⟨b, t, s1, hk⟩; obtain ⟨rfl, hl, hps, honly, hbr, hle⟩ := hk; have H1 := hid (H0.out.call hps honly); have B1 : Hid (SB w1 (fun k => k < w.heap.size) b t s1) := hid hbr
  have HL1 : Hid (Leads L [.e 0, .asg] [] s [.asg] [t] s1) := hid (by
    have := hl.over [.asg] []
    exact this)
  have HT : Hid (∀ i, s1 = .ok i → ∃ K, Tok K t) := hid (fun i hi => by
    subst hi; obtain ⟨j, rfl⟩ := hl.aft i rfl; obtain ⟨K, hK⟩ := tks_any L
    exact ⟨K, hl.tok hK trivial⟩)
  have HLE1 := hid hle; have HAF1 := hid hl.aft; have HM1 := hid (Nat.lt_of_le_of_lt (mu_le hl.aft hle) HMU.out); clear hl hps honly hbr hle E1 HMU; go_wp2_with fail
  refine (G.out _ _).mono ?_; rintro e w2 ⟨bs, rfl, hb, hB, hbel⟩; have hb2 : Below w1.heap.size w1 w2 := ((Below.refl _ _).alloc (Nat.le_refl _) (.cells #[ptr b] 128)).trans (hbel.mono (by simp)); have H2 := hid (H1.out.below hb2); have B2 := hid (SB.below B1.out hb2); have F2 : Hid (SB w2 (fun k => k < w.heap.size) bs (join (nd 17) [t]) s1) := hid (sb_node (cs := [(b, t)]) hB (by have := (H1.out.alloc (.cells #[ptr b] 128)).only.size; omega) (LR.below (LR.lit (cs := [(b, t)]) (Kids.add (cs := []) (Kids.nil _ _ _) B1.out) H1.out.only.size rfl rfl (by decide)) hbel))
  clear hb hB hbel hb2 G B1 H1; obtain ⟨k, hk0, hky⟩ := sb_kind B2.out; have HKY := hid hky; clear hky; by_cases hyes : sgS L s1 = [61] ∧ (k = 21 ∨ k = 26)
  · obtain ⟨hq, hk⟩ := hyes
    obtain ⟨j, rfl, hj, hjl⟩ := sgS_ok hq (by decide); obtain ⟨y, r, rfl, hyk⟩ := HKY.out j rfl; have A := hid (accept_yes [61] H2.out.ps (by decide) hj); have hmu : mu L (.ok (j + 1)) < n := Nat.lt_trans (mu_next hjl) HM1.out; have E2 := hid (HE.out (.ok (j + 1)) hmu); have HJS : Hid (∀ i, s = .ok i → i ≤ j) := hid (fun i hi => by have h := HLE1.out; rw [hi] at h; exact h)
    obtain ⟨js, rfl⟩ := HAF1.out j rfl; have HJ0 := hid (HJS.out js rfl); rcases hk with rfl | rfl
    · have HL2 := hid (HL1.out.trans (asg_name hj hyk))
      obtain ⟨y', r', e', -, hnm⟩ := br_cells B2.out; cases e'
      have HNM := hid hnm; have HBB := hid (Br.lt B2.out); have G2 : Hid (∀ (p : Option Addr) (W : World), Calls Tryz.prog 145 #[.agg #[.int .i64 7, .int .i64 0, .string (strOf y.name), .int .i64 0, .string ⟨#[]⟩], .slice p 1 1] W fun e w' => ∃ b, e = .returned (ptr b) ∧ W.heap.size ≤ b ∧ BB w' b ⟨7, 0, y.name, 0, []⟩ 0 (.slice p 1 1) ∧ Below W.heap.size W w') := hid (fun p W => grow_any ⟨7, 0, y.name, 0, []⟩ p 1 1 W); clear hq hj hjl hmu hyk HL1 hnm HJS HM1 HE; generalize y.name = nm at *; go_wp2_with fail
      refine A.out.mono ?_; rintro e w3 ⟨rfl, hp, ho⟩; have H3 := hid (H2.out.call hp ho)
      have HQ3 : Hid (∀ W W', Only (fun k => k = g) W W' → b < W.heap.size → W.cell? ⟨b, 2, none⟩ = some (.string (strOf nm)) → W'.cell? ⟨b, 2, none⟩ = some (.string (strOf nm)) ∧ b < W'.heap.size) := hid (fun W W' hO h1 h3 =>
        ⟨(World.cell?_of_block (a := ⟨b, 2, none⟩) (hO.block b h1 (by have := HBB.out.2; have := HLT.out; omega))).trans h3, Nat.lt_of_lt_of_le h1 hO.size⟩)
      have HQW3 := hid (HQ3.out _ _ ho HBB.out.1 HNM.out); have hnm3 := HQW3.out.1; clear hp ho A hk0; go_upto_region 4 with fail
      go_region_held3 (fun W => W.cell? ⟨b, 2, none⟩ = some (.string (strOf nm))) (first | assumption | exact hnm3 | exact hnm4 | exact hnm5 | exact hnm6) (first
        | (go_at_call 231; refine (E2.out g vt _ (H3.out.below (Below.refl _ _).drew).ps).mono ?_; rintro e w4 ⟨b', t', s4, hk⟩; obtain ⟨rfl, hl, hps, honly, hbr, hle⟩ := hk; have H4 := hid ((H3.out.below (Below.refl _ _).drew).call hps honly); have HQW4 := hid (HQ3.out w3 _ ((Only.refl (fun k => k = g) w3).drew.trans honly (fun _ _ h => h)) HQW3.out.2 hnm3); have hnm4 := HQW4.out.1; have HK4 := hid (And.intro hl (And.intro hbr hle)); have HQW5 := hid (HQ3.out w4 (w4.alloc (.cells #[ptr b'] 128)) (Only.of_below ((Below.refl _ _).alloc (Nat.le_refl _) _)) HQW4.out.2 hnm4); have hnm5 := HQW5.out.1; clear hl hps honly hbr hle)
        | (go_at_call 145; refine (G2.out _ _).mono ?_; rintro e w6 ⟨b6, rfl, hb, hB, hbel⟩; have HG := hid (And.intro hb (And.intro hB hbel)); have hnm6 := (HQ3.out _ _ (Only.of_below hbel) HQW5.out.2 hnm5).1; clear hb hB hbel))
      have O6 := hid ((H4.out.alloc (.cells #[ptr b'] 128)).below HG.out.2.2); have S6 : Hid (SB w6 (fun k => k < w.heap.size) b6 (join { nd 7 with name := nm } [t']) s4) := hid (sb_node (cs := [(b', t')]) HG.out.2.1 (by have := (H4.out.alloc (.cells #[ptr b'] 128)).only.size; have := HG.out.1; omega) (LR.below (LR.lit (cs := [(b', t')]) (Kids.add (cs := []) (Kids.nil _ _ _) (SB.weaken HK4.out.2.1 (fun i _ hi => by have := H3.out.only.size; exact Nat.lt_of_lt_of_le hi this))) H4.out.only.size rfl rfl (by decide)) HG.out.2.2))
      have HL6 : Hid (Leads L [.e 0, .asg] [] (.ok js) [] [join { nd 7 with name := nm } [t']] (markS L [59] s4)) := hid (HL2.out.trans ((by
        have := HK4.out.1.over [.mark [59], .mk { nd 7 with name := nm } 1] []
        exact this : Leads L [.e 0, .mark [59], .mk { nd 7 with name := nm } 1] [] (.ok (j + 1)) [.mark [59], .mk { nd 7 with name := nm } 1] [t'] s4).trans ((by
        have := (Leads.mark (L := L) [59] s4).over [.mk { nd 7 with name := nm } 1] [t']
        exact this : Leads L [.mark [59], .mk { nd 7 with name := nm } 1] [t'] s4 [.mk { nd 7 with name := nm } 1] [t'] (markS L [59] s4)).trans (Leads.mk _ [t'] 1 rfl _))))
      have X := hid (fun W (hp : PS L g vt W s4) => expect_any [59] hp (by decide)); have HAF : Hid (Aft s4 (markS L [59] s4)) := hid (Leads.mark (L := L) [59] s4).aft; have HLX : Hid (js ≤ nx L s4) := hid (Nat.le_trans HJ0.out (Nat.le_trans (Nat.le_succ j) HK4.out.2.2)); have HLE : Hid (js ≤ nx L (markS L [59] s4)) := hid (Nat.le_trans HLX.out (mark_le [59] H4.out.ps.le)); have HST : Hid (∀ i j, (St.ok js) = .ok i → markS L [59] s4 = .ok j → i < j) := hid (strict_of rfl HLX.out); generalize markS L [59] s4 = s9 at *; go_wp2_with fail
      refine (X.out _ O6.out.ps).mono ?_; rintro e v9 ⟨rfl, hp, ho⟩; have O9 := hid (O6.out.call hp ho); have S9 := hid (SB.aft (SB.call S6.out ho HLT.out) HAF.out); clear hp ho; go_wp2; go_ret; exact ⟨b6, _, s9, ⟨rfl, HL6.out, O9.out.ps, O9.out.only, S9.out, HLE.out⟩, HST.out⟩
    · have HL2 := hid (HL1.out.trans (asg_index hj hyk))
      obtain ⟨K, hK⟩ := HT.out j rfl; obtain ⟨c, r0, o0, b0, b1, c5, d0, d1, hr0, hX0, hb0, hb1⟩ := br_two B2.out ((hK.nodes y (List.mem_cons_self ..)).1 hyk); have HC := hid (And.intro c5 (And.intro d0 d1)); have HBB := hid (Br.lt B2.out); have HR0 : Hid (r0 < w2.heap.size ∧ r0 ≠ g) := hid ⟨hr0, by have := HLT.out; omega⟩
      have HB0 : Hid (SB w2 (fun k => k < w.heap.size) b0 (r.take (firstZ r)) (.ok j)) := hid hb0; have HB1 : Hid (SB w2 (fun k => k < w.heap.size) b1 (r.drop (firstZ r)) (.ok j)) := hid hb1; have G2 := hid (fun p W => grow_any (nd 8) p 3 3 W); unfold nd Nd.cells at G2; clear hq hj hjl hmu hyk HL1 HJS HM1 HE hK c5 d0 d1 hr0 hX0 hb0 hb1; generalize r.take (firstZ r) = t0 at *; generalize r.drop (firstZ r) = t1 at *; go_wp2_with fail
      refine A.out.mono ?_; rintro e w3 ⟨rfl, hp, ho⟩; have H3 := hid (H2.out.call hp ho)
      have HQ3 : Hid (∀ W W', Only (fun k => k = g) W W' → b < W.heap.size → r0 < W.heap.size → (W.cell? ⟨b, 5, none⟩ = some (.slice (some ⟨r0, o0, none⟩) 2 c) ∧ W.cell? ⟨r0, o0, none⟩ = some (ptr b0) ∧ W.cell? ⟨r0, o0 + 1, none⟩ = some (ptr b1)) → (W'.cell? ⟨b, 5, none⟩ = some (.slice (some ⟨r0, o0, none⟩) 2 c) ∧ W'.cell? ⟨r0, o0, none⟩ = some (ptr b0) ∧ W'.cell? ⟨r0, o0 + 1, none⟩ = some (ptr b1)) ∧ b < W'.heap.size ∧ r0 < W'.heap.size) := hid (fun W W' hO h1 h2 h3 => by
        have e1 := hO.block b h1 (by have := HBB.out.2; have := HLT.out; omega)
        have e2 := hO.block r0 h2 HR0.out.2
        exact ⟨⟨(World.cell?_of_block (a := ⟨b, 5, none⟩) e1).trans h3.1, (World.cell?_of_block (a := ⟨r0, o0, none⟩) e2).trans h3.2.1, (World.cell?_of_block (a := ⟨r0, o0 + 1, none⟩) e2).trans h3.2.2⟩, Nat.lt_of_lt_of_le h1 hO.size, Nat.lt_of_lt_of_le h2 hO.size⟩)
      have HQW3 := hid (HQ3.out _ _ ho HBB.out.1 HR0.out.1 HC.out); have B03 := hid (SB.aft (SB.call HB0.out ho HLT.out) (s' := .ok (j + 1)) (fun _ _ => ⟨j, rfl⟩)); have B13 := hid (SB.aft (SB.call HB1.out ho HLT.out) (s' := .ok (j + 1)) (fun _ _ => ⟨j, rfl⟩)); have hq3 := HQW3.out.1; clear hp ho A hk0; go_upto_region 6 with fail
      go_region_held3 (fun W => W.cell? ⟨b, 5, none⟩ = some (.slice (some ⟨r0, o0, none⟩) 2 c) ∧ W.cell? ⟨r0, o0, none⟩ = some (ptr b0) ∧ W.cell? ⟨r0, o0 + 1, none⟩ = some (ptr b1)) (first | assumption | exact hq3 | exact hq4 | exact hq5 | exact hq6) (first
        | (go_at_call 231; refine (E2.out g vt _ (H3.out.below (Below.refl _ _).drew).ps).mono ?_; rintro e w4 ⟨b', t', s4, hk⟩; obtain ⟨rfl, hl, hps, honly, hbr, hle⟩ := hk; have H4 := hid ((H3.out.below (Below.refl _ _).drew).call hps honly); have HQW4 := hid (HQ3.out w3 _ ((Only.refl (fun k => k = g) w3).drew.trans honly (fun _ _ h => h)) HQW3.out.2.1 HQW3.out.2.2 hq3); have hq4 := HQW4.out.1; have B04 := hid (SB.aft (SB.call (SB.below B03.out (Below.refl _ _).drew) honly HLT.out) hl.aft); have B14 := hid (SB.aft (SB.call (SB.below B13.out (Below.refl _ _).drew) honly HLT.out) hl.aft); have HK4 := hid (And.intro hl (And.intro hbr hle)); have HQW5 := hid (HQ3.out w4 (w4.alloc (.cells #[ptr b0, ptr b1, ptr b'] 128)) (Only.of_below ((Below.refl _ _).alloc (Nat.le_refl _) _)) HQW4.out.2.1 HQW4.out.2.2 hq4); have hq5 := HQW5.out.1; clear hl hps honly hbr hle)
        | (go_at_call 145; refine (G2.out _ _).mono ?_; rintro e w6 ⟨b6, rfl, hb, hB, hbel⟩; have HG := hid (And.intro hb (And.intro hB hbel)); have hq6 := (HQ3.out _ _ (Only.of_below hbel) HQW5.out.2.1 HQW5.out.2.2 hq5).1; clear hb hB hbel))
      have O6 := hid ((H4.out.alloc (.cells #[ptr b0, ptr b1, ptr b'] 128)).below HG.out.2.2); have S6 : Hid (SB w6 (fun k => k < w.heap.size) b6 (join (nd 8) [t0, t1, t']) s4) := hid (sb_node (cs := [(b0, t0), (b1, t1), (b', t')]) HG.out.2.1 (by have := (H4.out.alloc (.cells #[ptr b0, ptr b1, ptr b'] 128)).only.size; have := HG.out.1; omega) (LR.below (LR.lit (cs := [(b0, t0), (b1, t1), (b', t')]) (Kids.add (cs := [(b0, t0), (b1, t1)]) (Kids.add (cs := [(b0, t0)]) (Kids.add (cs := []) (Kids.nil _ _ _) B04.out) B14.out) (SB.weaken HK4.out.2.1 (fun i _ hi => by have := H3.out.only.size; exact Nat.lt_of_lt_of_le hi this))) H4.out.only.size rfl rfl (by decide)) HG.out.2.2))
      have HL6 : Hid (Leads L [.e 0, .asg] [] (.ok js) [] [join (nd 8) [t0, t1, t']] (markS L [59] s4)) := hid (HL2.out.trans ((by
        have := HK4.out.1.over [.mark [59], .mk (nd 8) 3] [t0, t1]
        exact this : Leads L [.e 0, .mark [59], .mk (nd 8) 3] [t0, t1] (.ok (j + 1)) [.mark [59], .mk (nd 8) 3] [t0, t1, t'] s4).trans ((by
        have := (Leads.mark (L := L) [59] s4).over [.mk (nd 8) 3] [t0, t1, t']
        exact this : Leads L [.mark [59], .mk (nd 8) 3] [t0, t1, t'] s4 [.mk (nd 8) 3] [t0, t1, t'] (markS L [59] s4)).trans (Leads.mk _ [t0, t1, t'] 3 rfl _))))
      have X := hid (fun W (hp : PS L g vt W s4) => expect_any [59] hp (by decide)); have HAF : Hid (Aft s4 (markS L [59] s4)) := hid (Leads.mark (L := L) [59] s4).aft; have HLX : Hid (js ≤ nx L s4) := hid (Nat.le_trans HJ0.out (Nat.le_trans (Nat.le_succ j) HK4.out.2.2)); have HLE : Hid (js ≤ nx L (markS L [59] s4)) := hid (Nat.le_trans HLX.out (mark_le [59] H4.out.ps.le)); have HST : Hid (∀ i j, (St.ok js) = .ok i → markS L [59] s4 = .ok j → i < j) := hid (strict_of rfl HLX.out); generalize markS L [59] s4 = s9 at *; go_wp2_with fail
      refine (X.out _ O6.out.ps).mono ?_; rintro e v9 ⟨rfl, hp, ho⟩; have O9 := hid (O6.out.call hp ho); have S9 := hid (SB.aft (SB.call S6.out ho HLT.out) HAF.out); clear hp ho; go_wp2; go_ret; exact ⟨b6, _, s9, ⟨rfl, HL6.out, O9.out.ps, O9.out.only, S9.out, HLE.out⟩, HST.out⟩
  · have HL6 : Hid (Leads L [.e 0, .asg] [] s [] [join (nd 17) [t]] (markS L [59] s1)) := hid (HL1.out.trans (by
      by_cases hq : sgS L s1 = [61]
      · obtain ⟨j, rfl, hj, hjl⟩ := sgS_ok hq (by decide)
        obtain ⟨y, r, rfl, hyk⟩ := HKY.out j rfl; rw [show markS L [59] (.ok j) = .bad j from if_neg (by rw [hj]; decide)]
        exact asg_no hj (fun e => hyes ⟨hq, .inl (hyk ▸ e)⟩) (fun e => hyes ⟨hq, .inr (hyk ▸ e)⟩)
      · refine (asg_do t hq).trans ((by
          have := (Leads.mark (L := L) [59] s1).over [.mk (nd 17) 1] [t]
          exact this : Leads L [.mark [59], .mk (nd 17) 1] [t] s1 [.mk (nd 17) 1] [t] (markS L [59] s1)).trans (Leads.mk _ [t] 1 rfl _))))
    have A : Hid (k = 21 ∨ k = 26 → ∀ W, PS L g vt W s1 → Calls Tryz.prog 148 #[ptr g, .string (strOf [61])] W fun e w' => e = .returned (.bool false) ∧ Below W.heap.size W w') := hid (fun hk W hp => accept_no [61] hp (fun e => hyes ⟨e, hk⟩)); have X := hid (fun W (hp : PS L g vt W s1) => expect_any [59] hp (by decide)); have HAF : Hid (Aft s1 (markS L [59] s1)) := hid (Leads.mark (L := L) [59] s1).aft; have HLE : Hid (nx L s ≤ nx L (markS L [59] s1)) := hid (Nat.le_trans HLE1.out (mark_le [59] H2.out.ps.le))
    have HST : Hid (∀ i j, s = .ok i → markS L [59] s1 = .ok j → i < j) := hid (fun i j hi hj => by
      have h1 := HLE1.out; rw [hi] at h1
      exact strict_of rfl h1 i j rfl hj)
    have HBB := hid (SB.lt B2.out); generalize markS L [59] s1 = s9 at *; clear hyes HL1; by_cases k1 : k = 21
    · subst k1
      have A1 := hid (A.out (.inl rfl)); go_wp2_with fail
      refine (A1.out _ H2.out.ps).mono ?_; rintro e w3 ⟨rfl, hb⟩; have H3 := hid (H2.out.below hb); have F3 := hid (SB.below F2.out hb); have hk3 := (World.cell?_of_block (a := ⟨b, 0, none⟩) (hb.block b HBB.out.1)).trans hk0; clear hb hk0; go_wp2_with fail
      refine (X.out _ H3.out.ps).mono ?_; rintro e v9 ⟨rfl, hp, ho⟩; have O9 := hid (H3.out.call hp ho); have S9 := hid (SB.aft (SB.call F3.out ho HLT.out) HAF.out); clear hp ho; go_wp2; go_ret; exact ⟨bs, _, s9, ⟨rfl, HL6.out, O9.out.ps, O9.out.only, S9.out, HLE.out⟩, HST.out⟩
    · by_cases k2 : k = 26
      · subst k2
        have A1 := hid (A.out (.inr rfl)); go_wp2_with fail
        refine (A1.out _ H2.out.ps).mono ?_; rintro e w3 ⟨rfl, hb⟩; have H3 := hid (H2.out.below hb); have F3 := hid (SB.below F2.out hb); clear hb hk0; go_wp2_with fail
        refine (X.out _ H3.out.ps).mono ?_; rintro e v9 ⟨rfl, hp, ho⟩; have O9 := hid (H3.out.call hp ho); have S9 := hid (SB.aft (SB.call F3.out ho HLT.out) HAF.out); clear hp ho; go_wp2; go_ret; exact ⟨bs, _, s9, ⟨rfl, HL6.out, O9.out.ps, O9.out.only, S9.out, HLE.out⟩, HST.out⟩
      · have z1 : (k == 21) = false := beq_false_of_ne k1
        have z2 : (k == 26) = false := beq_false_of_ne k2; go_wp2_with fail
        refine (X.out _ H2.out.ps).mono ?_; rintro e v9 ⟨rfl, hp, ho⟩; have O9 := hid (H2.out.call hp ho); have S9 := hid (SB.aft (SB.call F2.out ho HLT.out) HAF.out); clear hp ho; go_wp2; go_ret; exact ⟨bs, _, s9, ⟨rfl, HL6.out, O9.out.ps, O9.out.only, S9.out, HLE.out⟩, HST.out⟩
end Go.Proofs.YtmljjpdodcpohaaGreatDoor.Pa

namespace Go.Proofs.YtmljjpdodcpohaaGreatDoor.Pa
set_option maxRecDepth 100000
set_option maxHeartbeats 1000000
open Go.RowKit Dk Lx Tr
theorem kind_let (w : World) : Calls Tryz.prog 229 #[.string (strOf [108, 101, 116])] w fun e w' => e = .returned (.int .i64 6) ∧ w = w' := by
  have q0 : ((strOf [108, 101, 116]).toList == ([108, 101, 116] : List UInt8)) = true := (str_beq' _ _).trans (by decide); generalize strOf [108, 101, 116] = o at *; go_enter Tryz.func229, Tryz.ntmps229
  go_wp2; go_ret; exact ⟨rfl, rfl⟩
theorem kind_if (w : World) : Calls Tryz.prog 229 #[.string (strOf [105, 102])] w fun e w' => e = .returned (.int .i64 9) ∧ w = w' := by
  have q0 : ((strOf [105, 102]).toList == ([108, 101, 116] : List UInt8)) = false := (str_beq' _ _).trans (by decide); have q1 : ((strOf [105, 102]).toList == ([105, 102] : List UInt8)) = true := (str_beq' _ _).trans (by decide); generalize strOf [105, 102] = o at *; go_enter Tryz.func229, Tryz.ntmps229
  go_wp2; go_ret; exact ⟨rfl, rfl⟩
theorem kind_while (w : World) : Calls Tryz.prog 229 #[.string (strOf [119, 104, 105, 108, 101])] w fun e w' => e = .returned (.int .i64 10) ∧ w = w' := by
  have q0 : ((strOf [119, 104, 105, 108, 101]).toList == ([108, 101, 116] : List UInt8)) = false := (str_beq' _ _).trans (by decide); have q1 : ((strOf [119, 104, 105, 108, 101]).toList == ([105, 102] : List UInt8)) = false := (str_beq' _ _).trans (by decide); have q2 : ((strOf [119, 104, 105, 108, 101]).toList == ([119, 104, 105, 108, 101] : List UInt8)) = true := (str_beq' _ _).trans (by decide); generalize strOf [119, 104, 105, 108, 101] = o at *; go_enter Tryz.func229, Tryz.ntmps229
  go_wp2; go_ret; exact ⟨rfl, rfl⟩
theorem kind_break (w : World) : Calls Tryz.prog 229 #[.string (strOf [98, 114, 101, 97, 107])] w fun e w' => e = .returned (.int .i64 11) ∧ w = w' := by
  have q0 : ((strOf [98, 114, 101, 97, 107]).toList == ([108, 101, 116] : List UInt8)) = false := (str_beq' _ _).trans (by decide); have q1 : ((strOf [98, 114, 101, 97, 107]).toList == ([105, 102] : List UInt8)) = false := (str_beq' _ _).trans (by decide); have q2 : ((strOf [98, 114, 101, 97, 107]).toList == ([119, 104, 105, 108, 101] : List UInt8)) = false := (str_beq' _ _).trans (by decide); have q3 : ((strOf [98, 114, 101, 97, 107]).toList == ([98, 114, 101, 97, 107] : List UInt8)) = true := (str_beq' _ _).trans (by decide); generalize strOf [98, 114, 101, 97, 107] = o at *; go_enter Tryz.func229, Tryz.ntmps229
  go_wp2; go_ret; exact ⟨rfl, rfl⟩
theorem kind_continue (w : World) : Calls Tryz.prog 229 #[.string (strOf [99, 111, 110, 116, 105, 110, 117, 101])] w fun e w' => e = .returned (.int .i64 12) ∧ w = w' := by
  have q0 : ((strOf [99, 111, 110, 116, 105, 110, 117, 101]).toList == ([108, 101, 116] : List UInt8)) = false := (str_beq' _ _).trans (by decide); have q1 : ((strOf [99, 111, 110, 116, 105, 110, 117, 101]).toList == ([105, 102] : List UInt8)) = false := (str_beq' _ _).trans (by decide); have q2 : ((strOf [99, 111, 110, 116, 105, 110, 117, 101]).toList == ([119, 104, 105, 108, 101] : List UInt8)) = false := (str_beq' _ _).trans (by decide); have q3 : ((strOf [99, 111, 110, 116, 105, 110, 117, 101]).toList == ([98, 114, 101, 97, 107] : List UInt8)) = false := (str_beq' _ _).trans (by decide); have q4 : ((strOf [99, 111, 110, 116, 105, 110, 117, 101]).toList == ([99, 111, 110, 116, 105, 110, 117, 101] : List UInt8)) = true := (str_beq' _ _).trans (by decide); generalize strOf [99, 111, 110, 116, 105, 110, 117, 101] = o at *; go_enter Tryz.func229, Tryz.ntmps229
  go_wp2; go_ret; exact ⟨rfl, rfl⟩
theorem kind_yield (w : World) : Calls Tryz.prog 229 #[.string (strOf [121, 105, 101, 108, 100])] w fun e w' => e = .returned (.int .i64 16) ∧ w = w' := by
  have q0 : ((strOf [121, 105, 101, 108, 100]).toList == ([108, 101, 116] : List UInt8)) = false := (str_beq' _ _).trans (by decide); have q1 : ((strOf [121, 105, 101, 108, 100]).toList == ([105, 102] : List UInt8)) = false := (str_beq' _ _).trans (by decide); have q2 : ((strOf [121, 105, 101, 108, 100]).toList == ([119, 104, 105, 108, 101] : List UInt8)) = false := (str_beq' _ _).trans (by decide); have q3 : ((strOf [121, 105, 101, 108, 100]).toList == ([98, 114, 101, 97, 107] : List UInt8)) = false := (str_beq' _ _).trans (by decide); have q4 : ((strOf [121, 105, 101, 108, 100]).toList == ([99, 111, 110, 116, 105, 110, 117, 101] : List UInt8)) = false := (str_beq' _ _).trans (by decide); have q5 : ((strOf [121, 105, 101, 108, 100]).toList == ([121, 105, 101, 108, 100] : List UInt8)) = true := (str_beq' _ _).trans (by decide); generalize strOf [121, 105, 101, 108, 100] = o at *; go_enter Tryz.func229, Tryz.ntmps229
  go_wp2; go_ret; exact ⟨rfl, rfl⟩
theorem kind_return (w : World) : Calls Tryz.prog 229 #[.string (strOf [114, 101, 116, 117, 114, 110])] w fun e w' => e = .returned (.int .i64 13) ∧ w = w' := by
  have q0 : ((strOf [114, 101, 116, 117, 114, 110]).toList == ([108, 101, 116] : List UInt8)) = false := (str_beq' _ _).trans (by decide); have q1 : ((strOf [114, 101, 116, 117, 114, 110]).toList == ([105, 102] : List UInt8)) = false := (str_beq' _ _).trans (by decide); have q2 : ((strOf [114, 101, 116, 117, 114, 110]).toList == ([119, 104, 105, 108, 101] : List UInt8)) = false := (str_beq' _ _).trans (by decide); have q3 : ((strOf [114, 101, 116, 117, 114, 110]).toList == ([98, 114, 101, 97, 107] : List UInt8)) = false := (str_beq' _ _).trans (by decide); have q4 : ((strOf [114, 101, 116, 117, 114, 110]).toList == ([99, 111, 110, 116, 105, 110, 117, 101] : List UInt8)) = false := (str_beq' _ _).trans (by decide); have q5 : ((strOf [114, 101, 116, 117, 114, 110]).toList == ([121, 105, 101, 108, 100] : List UInt8)) = false := (str_beq' _ _).trans (by decide); have q6 : ((strOf [114, 101, 116, 117, 114, 110]).toList == ([114, 101, 116, 117, 114, 110] : List UInt8)) = true := (str_beq' _ _).trans (by decide); generalize strOf [114, 101, 116, 117, 114, 110] = o at *; go_enter Tryz.func229, Tryz.ntmps229
  go_wp2; go_ret; exact ⟨rfl, rfl⟩
theorem kind_put (w : World) : Calls Tryz.prog 229 #[.string (strOf [112, 117, 116])] w fun e w' => e = .returned (.int .i64 14) ∧ w = w' := by
  have q0 : ((strOf [112, 117, 116]).toList == ([108, 101, 116] : List UInt8)) = false := (str_beq' _ _).trans (by decide); have q1 : ((strOf [112, 117, 116]).toList == ([105, 102] : List UInt8)) = false := (str_beq' _ _).trans (by decide); have q2 : ((strOf [112, 117, 116]).toList == ([119, 104, 105, 108, 101] : List UInt8)) = false := (str_beq' _ _).trans (by decide); have q3 : ((strOf [112, 117, 116]).toList == ([98, 114, 101, 97, 107] : List UInt8)) = false := (str_beq' _ _).trans (by decide); have q4 : ((strOf [112, 117, 116]).toList == ([99, 111, 110, 116, 105, 110, 117, 101] : List UInt8)) = false := (str_beq' _ _).trans (by decide); have q5 : ((strOf [112, 117, 116]).toList == ([121, 105, 101, 108, 100] : List UInt8)) = false := (str_beq' _ _).trans (by decide); have q6 : ((strOf [112, 117, 116]).toList == ([114, 101, 116, 117, 114, 110] : List UInt8)) = false := (str_beq' _ _).trans (by decide); have q7 : ((strOf [112, 117, 116]).toList == ([112, 117, 116] : List UInt8)) = true := (str_beq' _ _).trans (by decide); generalize strOf [112, 117, 116] = o at *; go_enter Tryz.func229, Tryz.ntmps229
  go_wp2; go_ret; exact ⟨rfl, rfl⟩
theorem kind_emit (w : World) : Calls Tryz.prog 229 #[.string (strOf [101, 109, 105, 116])] w fun e w' => e = .returned (.int .i64 15) ∧ w = w' := by
  have q0 : ((strOf [101, 109, 105, 116]).toList == ([108, 101, 116] : List UInt8)) = false := (str_beq' _ _).trans (by decide); have q1 : ((strOf [101, 109, 105, 116]).toList == ([105, 102] : List UInt8)) = false := (str_beq' _ _).trans (by decide); have q2 : ((strOf [101, 109, 105, 116]).toList == ([119, 104, 105, 108, 101] : List UInt8)) = false := (str_beq' _ _).trans (by decide); have q3 : ((strOf [101, 109, 105, 116]).toList == ([98, 114, 101, 97, 107] : List UInt8)) = false := (str_beq' _ _).trans (by decide); have q4 : ((strOf [101, 109, 105, 116]).toList == ([99, 111, 110, 116, 105, 110, 117, 101] : List UInt8)) = false := (str_beq' _ _).trans (by decide); have q5 : ((strOf [101, 109, 105, 116]).toList == ([121, 105, 101, 108, 100] : List UInt8)) = false := (str_beq' _ _).trans (by decide); have q6 : ((strOf [101, 109, 105, 116]).toList == ([114, 101, 116, 117, 114, 110] : List UInt8)) = false := (str_beq' _ _).trans (by decide); have q7 : ((strOf [101, 109, 105, 116]).toList == ([112, 117, 116] : List UInt8)) = false := (str_beq' _ _).trans (by decide); have q8 : ((strOf [101, 109, 105, 116]).toList == ([101, 109, 105, 116] : List UInt8)) = true := (str_beq' _ _).trans (by decide); generalize strOf [101, 109, 105, 116] = o at *; go_enter Tryz.func229, Tryz.ntmps229
  go_wp2; go_ret; exact ⟨rfl, rfl⟩
theorem kind_else (q : List UInt8) (hq : stmtA q = none) (w : World) : Calls Tryz.prog 229 #[.string (strOf q)] w fun e w' => e = .returned (.int .i64 17) ∧ w = w' := by
  have q0 : ((strOf q).toList == ([108, 101, 116] : List UInt8)) = false := (str_beq' _ _).trans (decide_eq_false (fun e => by rw [e] at hq; exact absurd hq (by simp [stmtA])))
  have q1 : ((strOf q).toList == ([105, 102] : List UInt8)) = false := (str_beq' _ _).trans (decide_eq_false (fun e => by rw [e] at hq; exact absurd hq (by simp [stmtA])))
  have q2 : ((strOf q).toList == ([119, 104, 105, 108, 101] : List UInt8)) = false := (str_beq' _ _).trans (decide_eq_false (fun e => by rw [e] at hq; exact absurd hq (by simp [stmtA])))
  have q3 : ((strOf q).toList == ([98, 114, 101, 97, 107] : List UInt8)) = false := (str_beq' _ _).trans (decide_eq_false (fun e => by rw [e] at hq; exact absurd hq (by simp [stmtA])))
  have q4 : ((strOf q).toList == ([99, 111, 110, 116, 105, 110, 117, 101] : List UInt8)) = false := (str_beq' _ _).trans (decide_eq_false (fun e => by rw [e] at hq; exact absurd hq (by simp [stmtA])))
  have q5 : ((strOf q).toList == ([121, 105, 101, 108, 100] : List UInt8)) = false := (str_beq' _ _).trans (decide_eq_false (fun e => by rw [e] at hq; exact absurd hq (by simp [stmtA])))
  have q6 : ((strOf q).toList == ([114, 101, 116, 117, 114, 110] : List UInt8)) = false := (str_beq' _ _).trans (decide_eq_false (fun e => by rw [e] at hq; exact absurd hq (by simp [stmtA])))
  have q7 : ((strOf q).toList == ([112, 117, 116] : List UInt8)) = false := (str_beq' _ _).trans (decide_eq_false (fun e => by rw [e] at hq; exact absurd hq (by simp [stmtA])))
  have q8 : ((strOf q).toList == ([101, 109, 105, 116] : List UInt8)) = false := (str_beq' _ _).trans (decide_eq_false (fun e => by rw [e] at hq; exact absurd hq (by simp [stmtA])))
  generalize strOf q = o at *; clear hq; go_enter Tryz.func229, Tryz.ntmps229
  go_wp2; go_ret; exact ⟨rfl, rfl⟩
theorem stmt_key {L : List Tk} {j : Nat} {A : List Sy} (h : stmtA (sg L j) = some A) : Leads L [.stmt] [] (.ok j) A [] (.ok (j + 1)) := .yes (fun V => by
  change (match stmtA (sg L j) with | some A => some (A, V, j + 1) | none => some ([Sy.e 0, .asg], V, j)) = _
  rw [h]; rfl)
theorem stmt_else {L : List Tk} {s : St} (h : stmtA (sgS L s) = none) : Leads L [.stmt] [] s [.e 0, .asg] [] s := by
  cases s with
  | bad k => exact rfl
  | ok j => exact .yes (fun V => by
      change (match stmtA (sg L j) with | some A => some (A, V, j + 1) | none => some ([Sy.e 0, .asg], V, j)) = _
      rw [show stmtA (sg L j) = none from h]; rfl)
def StOk (L : List Tk) (g : Nat) (vt : Value) (s : St) (w : World) (e : Ending) (w' : World) : Prop := ∃ b t s', RdOk L g vt [.stmt] s w e w' b t s' ∧ ∀ i j, s = .ok i → s' = .ok j → i < j
end Go.Proofs.YtmljjpdodcpohaaGreatDoor.Pa

