/- The walks of the document's function and ended: their contracts. The walk of the document's block: its contract. The walks of the document's level and op: their contracts. The walk of the document's at0: its contract. No condition but those that each states. -/
import Derived.Test.YtemlceicmpcboaaGreatDoorMgP
namespace Go.Proofs.YtemlceicmpcboaaGreatDoor.Pa
open Go.RowKit Dk Lx Tr

theorem lC_lead {L : List Tk} (x : Nd) (m : Nat) (us : List (List Nd)) (s : St) : Leads L [.lC true x m] us s [.blk, .mk x (m + 1)] us s := by
  cases s with
  | bad k => exact rfl
  | ok i => exact .yes (fun V => rfl)
theorem fn_lead1 {L : List Tk} (x : Nd) (s : St) : Leads L [.fn x] [] s [.mark [40], .lF true x 0] [] s := by
  cases s with
  | bad k => exact rfl
  | ok i => exact .yes (fun V => rfl)

/-- What function's call leaves. -/
structure FnOk (L : List Tk) (g : Nat) (vt : Value) (s : St) (w w' : World) (v : Value) (cs : List (Value × List Nd)) (s' : St) : Prop where
  leads : ∀ x, Leads L [.fn x] [] s [.mk x cs.length] (cs.map (·.2)) s'
  on : OnR L g vt w w' s'
  kr : KR w w' v cs
  le : atS s ≤ atS s'
  few : cs.length ≤ atS s' - atS s + 2
  size : (cs.map (·.2)).flatten.length ≤ 4 * (atS s' - atS s) + 4
  none : ∀ k, s = .bad k → (cs.map (·.2)).flatten.length ≤ 1

set_option maxHeartbeats 4000000 in
set_option maxRecDepth 100000 in
theorem function_rf (L : List Tk) (n : Nat) (hB : RfN L 136 .blk 2 n) (s : St) (hs : mu L s < n) (g : Nat) (vt : Value) (w : World) (h : RS L g vt w s) :
    Calls Tryz.prog 79 #[ptr g] w fun e w' => ∃ v cs s', e = .returned v ∧ FnOk L g vt s w w' v cs s' := by
  have P1 := Lib.hid (params_any L s g vt w h)
  have HB := Lib.hid hB
  have HLT := Lib.hid h.lt
  have HFEW := Lib.hid h.few
  have HMU := Lib.hid hs
  obtain ⟨i0, hi0, hy0, hy1, hy2⟩ := info_parts nds_info3
  clear h hB hs
  go_enter Tryz.func79, Tryz.ntmps79
  go_wp2_with fail
  refine P1.out.mono ?_
  rintro e w1 ⟨v1, cs, s1, rfl, hk⟩
  obtain ⟨q, m, c, hv1⟩ : ∃ q m c, v1 = .slice q m c ∧ m = cs.length := by
    obtain ⟨p, c, hv, -⟩ := hk.kr.ks.row
    exact ⟨p, _, c, hv, rfl⟩
  obtain ⟨rfl, hm⟩ := hv1
  have HM := Lib.hid hm
  have O1 := Lib.hid hk.on
  have R1 := Lib.hid hk.kr
  have HK := Lib.hid hk
  have HAF : Hid (Aft s s1) := Lib.hid (hk.leads (nd 0) 0).aft
  have E2 := Lib.hid (HB.out s1 (Nat.lt_of_le_of_lt (mu_leR HAF.out hk.le) HMU.out))
  clear hk hm P1
  go_wp2_with fail
  refine (E2.out g vt _ O1.out.ps).mono ?_
  rintro e v3 ⟨u, t, s5, rfl, hk⟩
  obtain ⟨up, un, uc, rfl⟩ := hk.row.form
  have O3 := Lib.hid (O1.out.call hk.rs hk.only)
  have R3 := Lib.hid (R1.out.only hk.only HLT.out)
  have HK2 := Lib.hid hk
  have HNX : Hid (NdX v3 (fun k => k < w.heap.size ∨ (Value.slice q m c).ownBlock = some k) (Value.slice up un uc) t) := Lib.hid (hk.row.weaken (fun i _ hi => by
    rcases hi with hi | hi
    · have := O1.out.only.size; omega
    · exact (Tr.own_lo R1.out.row i hi).2))
  have N1 := Lib.hid (news_at v3 #[Value.slice up un uc] 23)
  have HSZ := Lib.hid O3.out.only.size
  have hm1 : m ≤ 1000001 := by have := HM.out; have := HK.out.few; have := O1.out.ps.le; have := HFEW.out; omega
  have HL : Hid (∀ x, Leads L [.fn x] [] s [.mk x (cs ++ [(Value.slice up un uc, t)]).length] ((cs ++ [(Value.slice up un uc, t)]).map (·.2)) s5) := Lib.hid (fun x => by
    have h1 := (fn_lead1 (L := L) x s).trans (HK.out.leads x 0)
    rw [Nat.zero_add] at h1
    have h2 := h1.trans (lC_lead x cs.length _ s1)
    have h3 := hk.leads.over [.mk x (cs.length + 1)] (cs.map (·.2))
    rw [List.append_nil] at h3
    rw [List.length_append, List.map_append]
    exact h2.trans h3)
  clear hk E2
  go_wp2_with (refine wpList_append_lies _ rfl (.tmp 6) (.tmp 9) 124 rfl w.heap.size 23 i0 (.slice none 0 0) 1 24 Tryz.underlying124 hi0 hy0 hy1 hy2 rfl (by decide) _ m (cs.map (·.1)) rfl (by have := R3.out.row.alloc (.cells #[Value.slice up un uc] 23); rw [← HM.out] at this; exact this) ⟨v3.heap.size, 0, none⟩ 1 1 [Value.slice up un uc] rfl rfl N1.out (by intro x hx; rw [List.mem_singleton.1 hx]; rfl) (by decide) (by unfold maxLen; omega) (by omega) (by have := HSZ.out; simp; omega) (v3.heap.size + 1) (by simp) ?_; intro g' cap v7 hrow hgr hgl hlt7; have HP := Lib.hid (R3.out.push HM.out HNX.out hrow hgr hgl); have HOW := Lib.hid (Tr.own_lo R3.out.row); clear hrow hgr hgl hlt7)
  go_ret
  refine ⟨_, _, s5, rfl, ⟨HL.out, O3.out.own HP.out.2 (fun i hi => (HOW.out i hi).1), HP.out.1, Nat.le_trans HK.out.le HK2.out.le, ?_, ?_, ?_⟩⟩
  · have := HK.out.few; have := HK.out.le; have := HK2.out.le
    rw [List.length_append, List.length_singleton]; omega
  · have h1 := HK.out.size; have := HK.out.le; have := HK2.out.le
    rw [flat_snoc]
    cases hs1 : s1 with
    | bad k1 => have := HK2.out.size.1 k1 hs1; omega
    | ok i1 =>
      have h2 := HK2.out.len (by decide)
      have h3 : cnt (cs.map (·.2)) ≤ (atS s1 : Int) - (atS s : Int) := by
        rw [hs1] at HAF
        obtain ⟨i, hi⟩ := HAF.out i1 rfl
        have h4 := HK.out.leads (nd 0) 0
        rw [hs1, hi] at h4
        have h5 := h4.count
        rw [hs1, hi]
        simp only [cnt, phS, phi] at h5
        show _ ≤ (i1 : Int) - (i : Int)
        simp at h5
        omega
      rw [← cnt_flat] at h3
      omega
  · intro k hk
    have h1 := HK.out.none k hk
    subst h1
    have h2 : s1 = .bad k := by
      have := HK.out.leads (nd 0) 0
      rw [hk] at this
      cases s1 with
      | ok j => exact absurd this id
      | bad k' => exact congrArg St.bad (show k = k' from this).symm
    have := HK2.out.size.1 k h2
    simpa using this

set_option maxHeartbeats 4000000 in
set_option maxRecDepth 100000 in
theorem ended_any (L : List Tk) (n : Nat) (hE : RfN L 205 (.e 0) 2 n) (x : Nd) (s : St) (hs : mu L s < n) (g : Nat) (vt : Value) (w : World) (h : RS L g vt w s) :
    Calls Tryz.prog 204 #[ptr g, .agg x.cells.toArray] w fun e w' => ∃ v t s', e = .returned v ∧ Leads L [.e 0, .mark [59], .mk x 1] [] s [] [t] s' ∧ OnR L g vt w w' s' ∧ NdX w' (fun k => k < w.heap.size) v t ∧ atS s ≤ atS s' ∧
      (∀ k, s = .bad k → t.length ≤ 2) ∧ t.length ≤ 4 * (atS s' - atS s) + 4 := by
  have H0 := Lib.hid (OnR.start h)
  have E1 := Lib.hid (hE s hs)
  have HLT := Lib.hid h.lt
  have HFEW := Lib.hid h.few
  have HJ := Lib.hid (fun v cs W => join_any x v cs W)
  have HI := Lib.hid (n_info x)
  have HRG : Hid (NB (w.alloc (.cells x.cells.toArray 29)) w.heap.size x) := Lib.hid (nb_new w x 29)
  clear h hE hs
  go_enter Tryz.func204, Tryz.ntmps204
  go_wp2_with fail
  obtain ⟨w0, hw0⟩ : ∃ w0, w0 = w.alloc (.cells x.cells.toArray 29) := ⟨_, rfl⟩
  have O0 : Hid (OnR L g vt w w0 s) := Lib.hid (by rw [hw0]; exact H0.out.alloc _)
  have HS0 : Hid (w0.heap.size = w.heap.size + 1) := Lib.hid (by rw [hw0]; simp)
  rw [← hw0] at HRG ⊢
  clear hw0
  refine (E1.out g vt _ O0.out.ps).mono ?_
  rintro e w1 ⟨u, t, s1, rfl, hk⟩
  obtain ⟨up, un, uc, rfl⟩ := hk.row.form
  have O1 := Lib.hid (O0.out.call hk.rs hk.only)
  have N1 : Hid (NB w1 w.heap.size x) := Lib.hid (HRG.out.of_block (hk.only.block _ HRG.out.lt (by have := HLT.out; omega)) hk.only.size)
  have HK := Lib.hid hk
  have X1 := Lib.hid (fun W (hp : RS L g vt W s1) => must_any hp [59] (by decide))
  have HA := Lib.hid (atS_mark L [59] s1)
  have HLD : Hid (Leads L [.e 0, .mark [59], .mk x 1] [] s [] [join x [t]] (markS L [59] s1)) := Lib.hid (by
    have h1 := hk.leads.over [.mark [59], .mk x 1] []
    have h2 := (Leads.mark (L := L) [59] s1).over [.mk x 1] [t]
    have h3 := Leads.mk (L := L) x [t] 1 rfl (markS L [59] s1)
    rw [List.append_nil] at h1 h2
    exact (h1.trans h2).trans h3)
  generalize markS L [59] s1 = s2 at *
  clear hk E1
  go_wp2_with fail
  refine (X1.out _ O1.out.ps).mono ?_
  rintro e w2 ⟨rfl, hp, ho⟩
  have O2 := Lib.hid (O1.out.call hp ho)
  have N2 : Hid (NB w2 w.heap.size x) := Lib.hid (N1.out.of_block (ho.block _ N1.out.lt (by have := HLT.out; omega)) ho.size)
  have HR2 : Hid (NdX w2 (fun k => k < w0.heap.size) (Value.slice up un uc) t) := Lib.hid (HK.out.row.only ho (fun i _ hi => by have := HLT.out; have := HS0.out; omega))
  clear hp ho X1 N1 O1
  have HKS : Hid (KsW (w2.alloc (.cells #[Value.slice up un uc] 23)) (fun _ => False) (.slice (some ⟨w2.heap.size, 0, none⟩) 1 1) [(Value.slice up un uc, t)]) := Lib.hid (ks_lit (cs := [(Value.slice up un uc, t)]) (fun c hc => by rw [List.mem_singleton.1 hc]; exact HR2.out.weaken (fun _ _ h => h.elim)) (by simp) _ 1 rfl)
  have hlen : t.length ≤ 4000100 := by
    have h1 := HK.out.len (by decide)
    have h2 := HK.out.rs.le
    have := HFEW.out
    omega
  have J1 := Lib.hid (HJ.out _ _ _ HKS.out (by simp) (by simpa using (by omega : t.length ≤ 10000000)))
  clear hlen HJ HR2
  have O3 := Lib.hid (O2.out.alloc (.cells #[Value.slice up un uc] 23))
  go_wp2_with (first
    | (refine wpList_load_mid rfl 29 (.tmp 3) rfl w.heap.size 0 rfl x.cells _ N2.out.cells Tryz.underlying29 rfl HI.out ?_)
    | (go_at_call 78; refine J1.out.mono ?_; rintro e w4 ⟨u2, rfl, hr2⟩; have HR4 := Lib.hid hr2; clear hr2))
  go_ret
  refine ⟨_, join x [t], s2, rfl, HLD.out, O3.out.below HR4.out.below, ?_, Nat.le_trans HK.out.le HA.out.1, ?_, ?_⟩
  · exact NdX.of_own (_w := w) HR4.out.row (by simp [join]) (fun b hb hx => by have := O3.out.only.size; omega)
  · intro k hk
    have := HK.out.size.1 k hk
    simp [join]; omega
  · have h1 := HK.out.len (by decide)
    have := HA.out.1
    simp [join]
    omega

end Go.Proofs.YtemlceicmpcboaaGreatDoor.Pa
namespace Go.Proofs.YtemlceicmpcboaaGreatDoor.Pa
open Go.RowKit Dk Lx Tr

theorem sts_shutM {L : List Tk} {m : Nat} (us : List (List Nd)) {s : St} (h : isBad s = true ∨ isS L [125] s = true) : Leads L [.sts m] us s [.mk (nd 5) m] us (markS L [125] s) := by
  cases s with
  | bad k => exact rfl
  | ok j =>
    rcases h with h | h
    · cases h
    · have hs := isS_ok.1 h
      rw [show markS L [125] (.ok j) = .ok (j + 1) from if_pos hs]
      exact .yes (fun V => by
        show (if sg L j = [125] then some ([Sy.mk (nd 5) m], us.reverse ++ V, j + 1) else _) = _
        rw [if_pos hs])
theorem sts_moreF {L : List Tk} {m j : Nat} (us : List (List Nd)) (h : sg L j ≠ [125]) : Leads L [.sts m] us (.ok j) [.stmt, .sts (m + 1)] us (.ok j) := .yes (fun V => by
  show (if sg L j = [125] then _ else some ([Sy.stmt, .sts (m + 1)], us.reverse ++ V, j)) = _
  exact if_neg h)
theorem blk_leadF {L : List Tk} (s : St) : Leads L [.blk] [] s [.mark [123], .sts 0] [] s := by
  cases s with
  | bad k => exact rfl
  | ok i => exact .yes (fun V => rfl)

set_option maxHeartbeats 4000000 in
set_option maxRecDepth 100000 in
theorem block_any (L : List Tk) (n : Nat) (hE : ∀ s, mu L s < n → isBad s = false → Rf L 179 .stmt 3 s) (s : St) (hs : mu L (markS L [123] s) < n) : Rf L 136 .blk 2 s := by
  intro g vt w h
  have HE := Lib.hid hE
  have X1 := Lib.hid (must_any h [123] (by decide))
  have HA1 := Lib.hid (atS_mark L [123] s)
  have HS0 : Hid (∀ k, s = .bad k → markS L [123] s = .bad k) := Lib.hid (fun k hk => by subst hk; rfl)
  generalize hs1 : markS L [123] s = s1 at *
  have HS1 := Lib.hid hs1
  have H0 := Lib.hid (OnR.start h)
  have HLT := Lib.hid h.lt
  have HFEW := Lib.hid h.few
  have HMU := Lib.hid hs
  obtain ⟨i0, hi0, hy0, hy1, hy2⟩ := info_parts nds_info3
  clear h hE hs1 hs
  go_enter Tryz.func136, Tryz.ntmps136
  go_wp2_with fail
  refine X1.out.mono ?_
  rintro e w1 ⟨rfl, hp, ho⟩
  have H1 := Lib.hid (H0.out.call hp ho)
  clear hp ho X1
  go_wp2
  go_loopg [3] (mu L s1) (fun k vo wr => ∃ (cs : List (Value × List Nd)) (s3 : St) (q : Option Addr) (m c : Nat), vo = .slice q m c ∧ Hid (m = cs.length) ∧ Hid (KR w wr (.slice q m c) cs) ∧ Hid (OnR L g vt w wr s3) ∧
    Hid (Leads L [.sts 0] [] s1 [.sts cs.length] (cs.map (·.2)) s3) ∧ Hid (atS s1 ≤ atS s3) ∧ Hid (mu L s3 < n) ∧ Hid (Lz 4 s1 s3 cs) ∧ Hid (k = mu L s3) ∧ Hid (∀ k, s1 = .bad k → cs = []))
  case atStart => exact ⟨[], s1, _, 0, _, rfl, Lib.hid rfl, Lib.hid (KR.nil _ _), H1, Lib.hid (Leads.refl _ _ _), Lib.hid (Nat.le_refl _), HMU, Lib.hid (Lz.nil _ _), Lib.hid rfl, Lib.hid (fun _ _ => rfl)⟩
  case round =>
    obtain ⟨cs, s3, q, m, c, rfl, HM, HR, HO, HL, HLE, HMU3, HZ, HK, HNO⟩ := hrel
    have c2 := HO.out.ps.at.2.2
    cases hb : isBad s3 with
    | true =>
      rw [hb] at c2
      have HEND : Hid (isBad s3 = true ∨ isS L [125] s3 = true) := Lib.hid (.inl hb)
      have O2 := HO
      have R2 := HR
      clear hb
      have HLS : Hid (Leads L [.sts 0] [] s1 [.mk (nd 5) cs.length] (cs.map (·.2)) (markS L [125] s3)) := Lib.hid (HL.out.trans (sts_shutM _ HEND.out))
      have X2 := Lib.hid (fun W (hp : RS L g vt W s3) => must_any hp [125] (by decide))
      have HA2 := Lib.hid (atS_mark L [125] s3)
      generalize markS L [125] s3 = s5 at *
      go_wp2_with fail
      refine (X2.out _ O2.out.ps).mono ?_
      rintro e v3 ⟨rfl, hp, ho⟩
      have O3 := Lib.hid (O2.out.call hp ho)
      have R3 := Lib.hid (R2.out.only ho HLT.out)
      have hlen : cs.length ≤ 1000001 ∧ (cs.map (·.2)).flatten.length ≤ 4000004 := by have := HZ.out.few; have := HZ.out.size; have := HO.out.ps.le; have := HFEW.out; omega
      have J1 := Lib.hid (join_any (nd 5) (.slice q m c) cs v3 R3.out.ks (by omega) (by omega))
      simp only [Nd.cells] at J1
      clear hp ho hlen
      go_wp2_with (go_at_call 78; refine J1.out.mono ?_; rintro e w4 ⟨u2, rfl, hr2⟩; have HR4 := Lib.hid hr2; clear hr2)
      go_ret
      have hjl : (join (nd 5) (cs.map (·.2))).length = (cs.map (·.2)).flatten.length + 1 := rfl
      refine ⟨_, join (nd 5) (cs.map (·.2)), s5, rfl, ⟨?_, (O3.out.below HR4.out.below).ps, (O3.out.below HR4.out.below).only, ?_, ?_, ?_, ?_⟩⟩
      · refine (blk_leadF (L := L) s).trans ?_
        have h1 := (Leads.mark (L := L) [123] s).over [.sts 0] []
        rw [HS1.out] at h1
        exact (h1.trans HLS.out).trans (Leads.mk (L := L) (nd 5) (cs.map (·.2)) cs.length (by rw [List.length_map]) s5)
      · exact NdX.of_own (_w := w) HR4.out.row (by simp [join]) (fun b hb hx => by have := O3.out.only.size; omega)
      · have := HA1.out.1; have := HLE.out; have := HA2.out.1; omega
      · intro k hk
        have h1 := HNO.out k (HS0.out k hk)
        rw [hjl, h1]; simp
      · intro i k hi hk
        have h0 := HZ.out.size
        have h1 := HLE.out; have h2 := HA2.out.1
        rw [hjl]
        have e1 : atS s = i := by rw [hi]; rfl
        have e2 : atS s5 = k := by rw [hk]; rfl
        by_cases hcs : cs = []
        · rw [hcs]; simp
        · have h3 : atS s1 = atS s + 1 := by
            have h4 := HS1.out
            cases hs1 : s1 with
            | bad k1 => exact absurd (HNO.out k1 hs1) hcs
            | ok j1 =>
              rw [hi] at h4 ⊢
              rw [hs1] at h4
              have h5 : (if sg L i = [123] then St.ok (i + 1) else .bad i) = .ok j1 := h4
              split at h5
              · cases h5; rfl
              · cases h5
          omega
    | false =>
      rw [hb] at c2
      have HB3 := Lib.hid hb
      have HJ : Hid (s3 = .ok (atS s3)) := Lib.hid (by cases s3 with | ok j => rfl | bad k => cases hb)
      have HI := Lib.hid (is_any HO.out.ps [125] (by decide))
      cases hq : isS L [125] s3 with
      | true =>
        rw [hq] at HI
        have HEND : Hid (isBad s3 = true ∨ isS L [125] s3 = true) := Lib.hid (.inr hq)
        clear hb hq
        go_wp2_with fail
        refine HI.out.mono ?_
        rintro e v2 ⟨rfl, hb2⟩
        have O2 := Lib.hid (HO.out.below hb2)
        have R2 := Lib.hid (HR.out.below hb2)
        clear hb2 HI
        have HLS : Hid (Leads L [.sts 0] [] s1 [.mk (nd 5) cs.length] (cs.map (·.2)) (markS L [125] s3)) := Lib.hid (HL.out.trans (sts_shutM _ HEND.out))
        have X2 := Lib.hid (fun W (hp : RS L g vt W s3) => must_any hp [125] (by decide))
        have HA2 := Lib.hid (atS_mark L [125] s3)
        generalize markS L [125] s3 = s5 at *
        go_wp2_with fail
        refine (X2.out _ O2.out.ps).mono ?_
        rintro e v3 ⟨rfl, hp, ho⟩
        have O3 := Lib.hid (O2.out.call hp ho)
        have R3 := Lib.hid (R2.out.only ho HLT.out)
        have hlen : cs.length ≤ 1000001 ∧ (cs.map (·.2)).flatten.length ≤ 4000004 := by have := HZ.out.few; have := HZ.out.size; have := HO.out.ps.le; have := HFEW.out; omega
        have J1 := Lib.hid (join_any (nd 5) (.slice q m c) cs v3 R3.out.ks (by omega) (by omega))
        simp only [Nd.cells] at J1
        clear hp ho hlen
        go_wp2_with (go_at_call 78; refine J1.out.mono ?_; rintro e w4 ⟨u2, rfl, hr2⟩; have HR4 := Lib.hid hr2; clear hr2)
        go_ret
        have hjl : (join (nd 5) (cs.map (·.2))).length = (cs.map (·.2)).flatten.length + 1 := rfl
        refine ⟨_, join (nd 5) (cs.map (·.2)), s5, rfl, ⟨?_, (O3.out.below HR4.out.below).ps, (O3.out.below HR4.out.below).only, ?_, ?_, ?_, ?_⟩⟩
        · refine (blk_leadF (L := L) s).trans ?_
          have h1 := (Leads.mark (L := L) [123] s).over [.sts 0] []
          rw [HS1.out] at h1
          exact (h1.trans HLS.out).trans (Leads.mk (L := L) (nd 5) (cs.map (·.2)) cs.length (by rw [List.length_map]) s5)
        · exact NdX.of_own (_w := w) HR4.out.row (by simp [join]) (fun b hb hx => by have := O3.out.only.size; omega)
        · have := HA1.out.1; have := HLE.out; have := HA2.out.1; omega
        · intro k hk
          have h1 := HNO.out k (HS0.out k hk)
          rw [hjl, h1]; simp
        · intro i k hi hk
          have h0 := HZ.out.size
          have h1 := HLE.out; have h2 := HA2.out.1
          rw [hjl]
          have e1 : atS s = i := by rw [hi]; rfl
          have e2 : atS s5 = k := by rw [hk]; rfl
          by_cases hcs : cs = []
          · rw [hcs]; simp
          · have h3 : atS s1 = atS s + 1 := by
              have h4 := HS1.out
              cases hs1 : s1 with
              | bad k1 => exact absurd (HNO.out k1 hs1) hcs
              | ok j1 =>
                rw [hi] at h4 ⊢
                rw [hs1] at h4
                have h5 : (if sg L i = [123] then St.ok (i + 1) else .bad i) = .ok j1 := h4
                split at h5
                · cases h5; rfl
                · cases h5
            omega
      | false =>
        rw [hq] at HI
        have HQ : Hid (sg L (atS s3) ≠ [125]) := Lib.hid (fun e => by
          have h1 := HJ.out
          have h2 : isS L [125] (.ok (atS s3)) = true := isS_ok.2 e
          rw [← h1, hq] at h2; cases h2)
        clear hb hq
        obtain ⟨s4, hs4⟩ : ∃ s4, s4 = s3 := ⟨_, rfl⟩
        have H34 : Hid (atS s3 ≤ atS s4) := Lib.hid (by rw [hs4]; exact Nat.le_refl _)
        have HAF : Hid (Aft s3 s4) := Lib.hid (by rw [hs4]; exact Aft.refl _)
        have HL2 : Hid (Leads L [.sts 0] [] s1 [.stmt, .sts (cs.length + 1)] (cs.map (·.2)) s4) := Lib.hid (by
          refine HL.out.trans ?_
          rw [hs4, HJ.out]
          exact sts_moreF _ HQ.out)
        have E2 := Lib.hid (HE.out s4 (by rw [hs4]; exact HMU3.out) (by rw [hs4]; exact HB3.out))
        have HS4 := Lib.hid hs4
        clear hs4
        go_wp2_with fail
        refine HI.out.mono ?_
        rintro e v2 ⟨rfl, hb2⟩
        have O2 : Hid (OnR L g vt w v2 s4) := Lib.hid (by rw [HS4.out]; exact HO.out.below hb2)
        have R2 := Lib.hid (HR.out.below hb2)
        clear hb2 HI
        have R2m := Lib.hid R2.out
        go_wp2_with fail
        refine (E2.out g vt _ O2.out.ps).mono ?_
        rintro e v3 ⟨u, t, s5, rfl, hk⟩
        obtain ⟨up, un, uc, rfl⟩ := hk.row.form
        have O3 := Lib.hid (O2.out.call hk.rs hk.only)
        have R3 := Lib.hid (R2.out.only hk.only HLT.out)
        have HL4 : Hid (Leads L [.sts 0] [] s1 [.sts (cs ++ [(Value.slice up un uc, t)]).length] ((cs ++ [(Value.slice up un uc, t)]).map (·.2)) s5) := Lib.hid (by
          refine HL2.out.trans ?_
          have := hk.leads.over [.sts (cs.length + 1)] (cs.map (·.2))
          rw [List.append_nil] at this
          rw [List.length_append, List.map_append]
          exact this)
        have HZ4 := Lib.hid (HZ.out.add (L := L) (w := v2) (w' := v3) (u := Value.slice up un uc) (t := t) (s4 := s4) (s5 := s5) (K := 3) HB3.out H34.out HLE.out hk (by decide) rfl)
        have HLE5 := Lib.hid (Nat.le_trans HLE.out (Nat.le_trans H34.out hk.le))
        have HMU5 : Hid (mu L s5 < n ∧ mu L s5 < mu L s3) := Lib.hid (by
          have h4 : mu L s4 ≤ mu L s3 := mu_leR HAF.out H34.out
          have h5 : mu L s5 < mu L s3 := by
            cases hs5 : s5 with
            | bad k => have := HJ.out; rw [this]; exact Nat.succ_pos _
            | ok j5 =>
              rw [hs5] at hk
              obtain ⟨i4, hi4⟩ := hk.leads.aft j5 rfl
              rw [hi4] at hk h4
              have h6 := Leads.least hk.leads
              have h7 : mt .stmt = 1 := rfl
              have h8 : i4 ≤ j5 := by omega
              have h9 : j5 ≤ L.length := hk.rs.le
              show L.length - j5 + 1 < mu L s3
              have : mu L (.ok i4) = L.length - i4 + 1 := rfl
              omega
          exact ⟨Nat.lt_trans h5 HMU3.out, h5⟩)
        have HNX : Hid (NdX v3 (fun k => k < w.heap.size ∨ (Value.slice q m c).ownBlock = some k) (Value.slice up un uc) t) := Lib.hid (hk.row.weaken (fun i _ hi => by
          rcases hi with hi | hi
          · have := O2.out.only.size; omega
          · exact (Tr.own_lo R2.out.row i hi).2))
        have N1 := Lib.hid (news_at v3 #[Value.slice up un uc] 23)
        have HU1 := Lib.hid hk.row.one
        have hm1 : m ≤ 1000001 := by have := HM.out; have := HZ.out.few; have := HO.out.ps.le; have := HFEW.out; omega
        have HSZ := Lib.hid O3.out.only.size
        have HNO4 : Hid (∀ k, s1 = .bad k → cs ++ [(Value.slice up un uc, t)] = []) := Lib.hid (fun k hk1 => by
          obtain ⟨i1, hi1⟩ := HL.out.aft _ HJ.out
          rw [hk1] at hi1; cases hi1)
        clear hk HL2 E2 R2 R2m O2
        go_wp2_with (refine wpList_append_lies _ rfl (.tmp 16) (.tmp 19) 124 rfl w.heap.size 23 i0 (.slice none 0 0) 1 24 Tryz.underlying124 hi0 hy0 hy1 hy2 rfl (by decide) _ m (cs.map (·.1)) rfl (by have := R3.out.row.alloc (.cells #[Value.slice up un uc] 23); rw [← HM.out] at this; exact this) ⟨v3.heap.size, 0, none⟩ 1 1 [Value.slice up un uc] rfl rfl N1.out (by intro x hx; rw [List.mem_singleton.1 hx]; exact HU1.out) (by decide) (by unfold maxLen; omega) (by omega) (by have := HSZ.out; simp; omega) (v3.heap.size + 1) (by simp) ?_; intro g' cap v7 hrow hgr hgl hlt7; have HP := Lib.hid (R3.out.push HM.out HNX.out hrow hgr hgl); have HOW := Lib.hid (Tr.own_lo R3.out.row); clear hrow hgr hgl hlt7)
        have O7 := Lib.hid (O3.out.own HP.out.2 (fun i hi => (HOW.out i hi).1))
        go_roundg (mu L s5)
        case rel => exact ⟨_, s5, _, _, _, rfl, Lib.hid (by rw [List.length_append, ← HM.out]; rfl), Lib.hid HP.out.1, O7, HL4, HLE5, Lib.hid HMU5.out.1, HZ4, Lib.hid rfl, HNO4⟩
        case measure => have := HK.out; have := HMU5.out.2; omega

end Go.Proofs.YtemlceicmpcboaaGreatDoor.Pa
namespace Go.Proofs.YtemlceicmpcboaaGreatDoor.Pa
open Go.RowKit Dk Lx Tr

/-- A slice of texts. -/
def strCells (T : List (List UInt8)) : List Value := T.map fun q => Value.string (strOf q)
def StrW (B : Nat) (W : World) (v : Value) (T : List (List UInt8)) : Prop := ∃ b c, v = .slice (some ⟨b, 0, none⟩) T.length c ∧ T.length ≤ c ∧ B ≤ b ∧ b < W.heap.size ∧ W.rangeAt b 0 (strCells T)
theorem str_lit (W : World) (T : List (List UInt8)) (ty : TypeId) : StrW W.heap.size (W.alloc (.cells (strCells T).toArray ty)) (.slice (some ⟨W.heap.size, 0, none⟩) T.length T.length) T :=
  ⟨W.heap.size, _, rfl, Nat.le_refl _, Nat.le_refl _, by simp, range_new W (strCells T) ty⟩

set_option maxHeartbeats 1000000 in
set_option maxRecDepth 100000 in
theorem level_any (n : Nat) (hn : n ≤ 4) (w : World) : Calls Tryz.prog 262 #[.int .i64 (n : Int)] w fun e w' => ∃ v, e = .returned v ∧ StrW w.heap.size w' v (level n) ∧ Below w.heap.size w w' := by
  rcases (show n = 0 ∨ n = 1 ∨ n = 2 ∨ n = 3 ∨ n = 4 by omega) with rfl | rfl | rfl | rfl | rfl
  all_goals
    go_enter Tryz.func262, Tryz.ntmps262
    go_wp2
    go_ret
  · exact ⟨_, rfl, str_lit w (level 0) 9, (Below.refl _ _).alloc (Nat.le_refl _) _⟩
  · exact ⟨_, rfl, str_lit w (level 1) 9, (Below.refl _ _).alloc (Nat.le_refl _) _⟩
  · exact ⟨_, rfl, str_lit w (level 2) 9, (Below.refl _ _).alloc (Nat.le_refl _) _⟩
  · exact ⟨_, rfl, str_lit w (level 3) 9, (Below.refl _ _).alloc (Nat.le_refl _) _⟩
  · exact ⟨_, rfl, str_lit w (level 4) 9, (Below.refl _ _).alloc (Nat.le_refl _) _⟩

theorem lvl_ne {n : Nat} {q : List UInt8} (h : q ∈ level n) : q ≠ [] := by
  intro e
  subst e
  unfold level at h
  split at h <;> simp at h
theorem lvl_few (n : Nat) : (level n).length ≤ 4 := by unfold level; split <;> decide

/-- What op's call leaves. -/
def OpOk (L : List Tk) (g : Nat) (vt : Value) (n : Nat) (s : St) (w : World) (e : Ending) (w' : World) : Prop := OnR L g vt w w' s ∧ (∀ q ∈ level n, isS L q s = false) ∧ e = .returned (.string ⟨#[]⟩) ∨
  ∃ q ∈ level n, isS L q s = true ∧ OnR L g vt w w' (takeS L q s) ∧ e = .returned (.string (strOf q))

set_option maxHeartbeats 2000000 in
set_option maxRecDepth 100000 in
theorem op_rf {L : List Tk} {g : Nat} {vt : Value} {w : World} {s : St} (n : Nat) (hn : n ≤ 4) (h : RS L g vt w s) :
    Calls Tryz.prog 251 #[ptr g, .int .i64 (n : Int)] w fun e w' => OpOk L g vt n s w e w' := by
  have H0 := Lib.hid (OnR.start h)
  have V1 := Lib.hid (level_any n hn w)
  have HNE : Hid (∀ q ∈ level n, q ≠ []) := Lib.hid (fun q hq => lvl_ne hq)
  have HF := Lib.hid (lvl_few n)
  have HT := Lib.hid (fun W (hp : RS L g vt W s) q (hq : q ≠ []) => take_any hp q hq)
  have HLT := Lib.hid h.lt
  have HG : Hid (∀ e w', OnR L g vt w w' s ∧ (∀ q ∈ level n, isS L q s = false) ∧ e = .returned (.string ⟨#[]⟩) → OpOk L g vt n s w e w') := Lib.hid (fun _ _ h => .inl h)
  have HG2 : Hid (∀ e w' q, q ∈ level n → isS L q s = true → OnR L g vt w w' (takeS L q s) → e = .returned (.string (strOf q)) → OpOk L g vt n s w e w') := Lib.hid (fun _ _ q h1 h2 h3 h4 => .inr ⟨q, h1, h2, h3, h4⟩)
  obtain ⟨T, hT⟩ : ∃ T, T = level n := ⟨_, rfl⟩
  rw [← hT] at V1 HNE HF HG HG2
  clear hT
  clear h hn
  go_enter Tryz.func251, Tryz.ntmps251
  go_wp2_with fail
  refine V1.out.mono ?_
  rintro e w1 ⟨v, rfl, ⟨b, c, rfl, hc, hbw, hb, hr⟩, hb1⟩
  have H1 := Lib.hid (H0.out.below hb1)
  obtain ⟨m, hm⟩ : ∃ m, m = T.length := ⟨_, rfl⟩
  have HM := Lib.hid hm
  have HR := Lib.hid (show b < w1.heap.size ∧ w1.rangeAt b 0 (strCells T) ∧ w.heap.size ≤ w1.heap.size from ⟨hb, hr, hb1.size⟩)
  have HBN : Hid (b ≠ g) := Lib.hid (by have := HLT.out; omega)
  have hm4 : m ≤ 4 := by have := HF.out; omega
  rw [← hm]
  clear hc hb hbw hr hb1 hm V1
  go_wp2_with fail
  go_loopw [6] (fun vi wr => ∃ i : Nat, i ≤ m ∧ vi = .int .i64 (i : Int) ∧ Hid (OnR L g vt w wr s) ∧ Hid (b < wr.heap.size ∧ wr.rangeAt b 0 (strCells T)) ∧ Hid (∀ j (hj : j < T.length), j < i → isS L T[j] s = false)) (fun vi _ => m - (intOf vi).toNat)
  case atStart => exact ⟨0, Nat.zero_le _, rfl, H1, Lib.hid ⟨HR.out.1, HR.out.2.1⟩, Lib.hid (fun j _ h => by omega)⟩
  case round =>
    obtain ⟨i, hi, rfl, HO, HRW, HA⟩ := hrel
    by_cases hlt : i < m
    · have hil : i < T.length := by rw [← HM.out]; exact hlt
      have hc1 : wr.cell? ⟨b, i, none⟩ = some (.string (strOf T[i])) := by
        have := HRW.out.2 i (.string (strOf T[i])) (by unfold strCells; rw [List.getElem?_map, List.getElem?_eq_getElem hil]; rfl)
        rwa [Nat.zero_add] at this
      have hmem := List.getElem_mem hil
      have X1 := Lib.hid (HT.out wr HO.out.ps T[i] (HNE.out _ hmem))
      have HA2 : Hid (isS L T[i] s = false → ∀ j (hj : j < T.length), j < i + 1 → isS L T[j] s = false) := Lib.hid (fun h j hj hji => by
        by_cases e : j = i
        · subst e; exact h
        · exact HA.out j hj (by omega))
      have HMM := Lib.hid hmem
      have z0 : (0 : Int) ≤ (i : Int) := by omega
      have z1 : (i : Int) < (m : Int) := by omega
      generalize T[i] = q at *
      clear hmem hil HA
      cases hq : isS L q s with
      | true =>
        rw [hq] at X1
        have HQ := Lib.hid hq
        clear hq HA2
        go_wp2_with fail
        refine X1.out.mono ?_
        rintro e w2 ⟨rfl, hp, ho⟩
        have O2 := Lib.hid (HO.out.call hp ho)
        have hc2 : w2.cell? ⟨b, i, none⟩ = some (.string (strOf q)) := (World.cell?_of_block (a := ⟨b, i, none⟩) (ho.block b HRW.out.1 HBN.out)).trans hc1
        clear hp ho hc1 X1
        go_wp2
        go_ret
        exact HG2.out _ _ q HMM.out HQ.out O2.out rfl
      | false =>
        rw [hq] at X1
        have HT2 : Hid (takeS L q s = s) := Lib.hid (takeS_no hq)
        have HA3 := Lib.hid (HA2.out hq)
        rw [HT2.out] at X1
        clear hq HA2
        go_wp2_with fail
        refine X1.out.mono ?_
        rintro e w2 ⟨rfl, hp, ho⟩
        have O2 := Lib.hid (HO.out.call hp ho)
        have HRW2 : Hid (b < w2.heap.size ∧ w2.rangeAt b 0 (strCells T)) := Lib.hid ⟨Nat.lt_of_lt_of_le HRW.out.1 ho.size, rangeAt_block HRW.out.2 (ho.block b HRW.out.1 HBN.out)⟩
        clear hp ho hc1 X1
        go_wp2
        go_roundw
        case rel => exact ⟨i + 1, by omega, by go_num, O2, HRW2, HA3⟩
        case measure => simp [intOf]; omega
    · obtain rfl : m = i := by omega
      have HALL : Hid (∀ q ∈ T, isS L q s = false) := Lib.hid (fun q hq => by
        obtain ⟨j, hj, rfl⟩ := List.getElem_of_mem hq
        exact HA.out j hj (by rw [HM.out]; exact hj))
      clear HA hlt hi
      go_wp2
      go_ret
      exact HG.out _ _ ⟨HO.out, HALL.out, rfl⟩

end Go.Proofs.YtemlceicmpcboaaGreatDoor.Pa
namespace Go.Proofs.YtemlceicmpcboaaGreatDoor.Pa
open Go.RowKit Dk Lx Tr

/-- What at0 reads at a level. -/
def RfA (L : List Tk) (n : Nat) (s : St) : Prop := ∀ (g : Nat) (vt : Value) (w : World), RS L g vt w s →
  Calls Tryz.prog 231 #[ptr g, .int .i64 (n : Int)] w fun e w' => ∃ v t s', e = .returned v ∧ RfOk L g vt (.e n) 2 s w w' v t s'

theorem row_none {L : List Tk} {n j : Nat} (us : List (List Nd)) (h : ∀ q ∈ level n, isS L q (.ok j) = false) : Leads L [.row n] us (.ok j) [] us (.ok j) := .yes (fun V => by
  show (if sg L j ∈ level n then _ else some ([], us.reverse ++ V, j)) = _
  rw [if_neg (fun hm => by have := h _ hm; rw [isS_ok.2 rfl] at this; cases this)])
theorem row_some {L : List Tk} {n j : Nat} (us : List (List Nd)) {q : List UInt8} (hq : q ∈ level n) (h : sg L j = q) : Leads L [.row n] us (.ok j) (.e (n + 1) :: .mk { nd 27 with text := q } 2 :: (if n = 2 then [] else [.row n])) us (.ok (j + 1)) := .yes (fun V => by
  subst h
  show (if sg L j ∈ level n then some (Sy.e (n + 1) :: Sy.mk { nd 27 with text := sg L j } 2 :: (if n = 2 then [] else [Sy.row n]), us.reverse ++ V, j + 1) else _) = _
  rw [if_pos hq])
theorem e_lead {L : List Tk} {n : Nat} (hn : n < 5) (s : St) : Leads L [.e n] [] s [.e (n + 1), .row n] [] s := by
  cases s with
  | bad k => exact rfl
  | ok i => exact .yes (fun V => by
      show (if n < 5 then some ([Sy.e (n + 1), .row n], _, i) else _) = _
      rw [if_pos hn])

/-- What is left of a level. -/
def frE (n i : Nat) : List Sy := if n = 2 ∧ i ≠ 0 then [] else [.row n]

set_option maxHeartbeats 4000000 in
set_option maxRecDepth 100000 in
theorem at0_step (L : List Tk) (n N : Nat) (hn : n < 5) (hA : ∀ s, mu L s < N → RfA L (n + 1) s) (s : St) (hs : mu L s < N) : RfA L n s := by
  intro g vt w h
  have HA := Lib.hid hA
  have E1 := Lib.hid (hA s hs g vt w h)
  have H0 := Lib.hid (OnR.start h)
  have HLT := Lib.hid h.lt
  have HFEW := Lib.hid h.few
  have HMU := Lib.hid hs
  have HOP := Lib.hid (fun W s (hp : RS L g vt W s) => op_rf (w := W) n (by omega) hp)
  have z0 : ((n : Int) == 5) = false := by rw [beq_eq_false_iff_ne]; omega
  have HN5 := Lib.hid hn
  have hcast : ((n : Int) + 1) = ((n + 1 : Nat) : Int) := by omega
  have zw : IntKind.i64.wrap ((n : Int) + 1) = (n : Int) + 1 := IntWalk.i64_in _ (by omega)
  rw [← hcast] at E1
  have HA' : Hid (∀ s, mu L s < N → ∀ (g : Nat) (vt : Value) (w : World), RS L g vt w s → Calls Tryz.prog 231 #[ptr g, .int .i64 ((n : Int) + 1)] w fun e w' => ∃ v t s', e = .returned v ∧ RfOk L g vt (.e (n + 1)) 2 s w w' v t s') := Lib.hid (fun s hs g vt w h => by
    have := HA.out s hs g vt w h
    rw [← hcast] at this
    exact this)
  clear h hA hs hcast HA
  go_enter Tryz.func231, Tryz.ntmps231
  go_wp2_with fail
  refine E1.out.mono ?_
  rintro e w1 ⟨v1, t1, s1, rfl, hk⟩
  obtain ⟨q1, m1, c1, rfl⟩ := hk.row.form
  have H1 := Lib.hid (H0.out.call hk.rs hk.only)
  have HR1 := Lib.hid hk.row
  have HL1 : Hid (Leads L [.e n] [] s (frE n 0) [t1] s1) := Lib.hid (by
    have h1 := (e_lead (L := L) HN5.out s).trans (hk.leads.over [.row n] [])
    rw [show frE n 0 = [.row n] from if_neg (by simp)]
    exact h1)
  have HLE1 := Lib.hid hk.le
  have HZ1 := Lib.hid hk.size
  have HM1 : Hid (mu L s1 < N) := Lib.hid (Nat.lt_of_le_of_lt (mu_leR hk.leads.aft hk.le) HMU.out)
  clear hk E1
  go_wp2
  go_loopg [5, 6] (mu L s1) (fun k ve vi wr => ∃ (i : Nat) (t : List Nd) (s3 : St) (q : Option Addr) (m c : Nat), vi = .int .i64 (i : Int) ∧ ve = .slice q m c ∧ Hid (OnR L g vt w wr s3) ∧ Hid (NdX wr (fun k => k < w.heap.size) (.slice q m c) t) ∧
    Hid (Leads L [.e n] [] s (frE n i) [t] s3) ∧ Hid (atS s ≤ atS s3) ∧ Hid (mu L s3 < N) ∧ Hid (Sz 2 s s3 t.length) ∧ Hid (k = mu L s3) ∧ Hid (i ≤ atS s3))
  case atStart => exact ⟨0, t1, s1, _, _, _, rfl, rfl, H1, HR1, HL1, HLE1, HM1, HZ1, Lib.hid rfl, Lib.hid (Nat.zero_le _)⟩
  case round =>
    clear H1 HR1 HL1 HLE1 HM1 HZ1
    obtain ⟨i, t, s3, q, m, c, rfl, rfl, HO, HR, HL, HLE, HMU3, HZ, HK, HIC⟩ := hrel
    have c2 := HO.out.ps.at.2.2
    cases hb : isBad s3 with
    | true =>
      rw [hb] at c2
      have HL2 : Hid (Leads L [.e n] [] s [] [t] s3) := Lib.hid (by
        cases s3 with
        | ok j => cases hb
        | bad k => exact HL.out.any' _ _)
      clear hb
      go_wp2
      go_ret
      exact ⟨_, t, s3, rfl, ⟨HL2.out, HO.out.ps, HO.out.only, HR.out, HLE.out, HZ.out⟩⟩
    | false =>
      rw [hb] at c2
      have HJ : Hid (s3 = .ok (atS s3)) := Lib.hid (by cases s3 with | ok j => rfl | bad k => cases hb)
      clear hb
      by_cases hfin : n = 2 ∧ i ≠ 0
      · have HL2 : Hid (Leads L [.e n] [] s [] [t] s3) := Lib.hid (by have := HL.out; unfold frE at this; rw [if_pos hfin] at this; exact this)
        have y1 : ((n : Int) != 2) = false := by rw [hfin.1]; rfl
        have y2 : ((i : Int) == 0) = false := by rw [beq_eq_false_iff_ne]; omega
        clear hfin
        go_wp2
        go_ret
        exact ⟨_, t, s3, rfl, ⟨HL2.out, HO.out.ps, HO.out.only, HR.out, HLE.out, HZ.out⟩⟩
      · have HL2 : Hid (Leads L [.e n] [] s [.row n] [t] s3) := Lib.hid (by have := HL.out; unfold frE at this; rw [if_neg hfin] at this; exact this)
        have X1 := Lib.hid (HOP.out wr s3 HO.out.ps)
        have HFR : Hid ((if n = 2 then [] else [Sy.row n]) = frE n (i + 1)) := Lib.hid (by
          unfold frE
          by_cases h2 : n = 2
          · rw [if_pos h2, if_pos ⟨h2, by omega⟩]
          · rw [if_neg h2, if_neg (fun h => h2 h.1)])
        have HCO : Hid (s3 = .ok (atS s3) → ∃ i0, s = .ok i0 ∧ t.length + i0 ≤ atS s3) := Lib.hid (fun hj => by
          cases hs : s with
          | bad k =>
            have h1 := HL2.out
            rw [hs, hj] at h1
            exact absurd h1 (by intro h; cases h)
          | ok i0 =>
            have h1 := HL2.out
            rw [hs, hj] at h1
            have h2 := h1.count
            simp only [cnt, phS, phi] at h2
            exact ⟨i0, rfl, by omega⟩)
        have hc : (((n : Int) != 2) = true) ∨ (((n : Int) != 2) = false ∧ ((i : Int) == 0) = true) := by
          by_cases h2 : n = 2
          · have hi0 : i = 0 := by
              by_cases h0 : i = 0
              · exact h0
              · exact absurd ⟨h2, h0⟩ hfin
            refine .inr ⟨by rw [h2]; rfl, by rw [hi0]; rfl⟩
          · refine .inl ?_
            rw [bne_iff_ne]
            omega
        clear HL hfin
        rcases hc with y1 | ⟨y1, y2⟩
        all_goals
          go_wp2_with fail
          refine X1.out.mono ?_
          rintro e w2 (⟨hO, hno, rfl⟩ | ⟨q4, hq4, hs4, hO, rfl⟩)
          · have O2 := Lib.hid (HO.out.call hO.ps hO.only)
            have R2 := Lib.hid (HR.out.only hO.only (fun k _ hk => by have := HLT.out; omega))
            have HL3 : Hid (Leads L [.e n] [] s [] [t] s3) := Lib.hid (by
              have h1 := HL2.out
              have h2 := HJ.out
              rw [h2] at hno h1 ⊢
              exact h1.trans (row_none [t] hno))
            clear hO hno X1
            go_wp2
            go_ret
            exact ⟨_, t, s3, rfl, ⟨HL3.out, O2.out.ps, O2.out.only, R2.out, HLE.out, HZ.out⟩⟩
          · obtain ⟨j0, hj0, hg0, ht0⟩ := takeS_yes hs4
            have HJ0 := Lib.hid hj0
            have HT0 := Lib.hid ht0
            have O2 := Lib.hid (HO.out.call hO.ps hO.only)
            have R2 := Lib.hid (HR.out.only hO.only (fun k _ hk => by have := HLT.out; omega))
            have HL3 : Hid (Leads L [.e n] [] s (.e (n + 1) :: .mk { nd 27 with text := q4 } 2 :: frE n (i + 1)) [t] (takeS L q4 s3)) := Lib.hid (by
              have h1 := HL2.out
              rw [ht0]
              rw [hj0] at h1
              rw [← HFR.out]
              exact h1.trans (row_some [t] hq4 hg0))
            have HA4 : Hid (atS (takeS L q4 s3) = atS s3 + 1) := Lib.hid (by rw [ht0, hj0]; rfl)
            have HAF : Hid (Aft s3 (takeS L q4 s3)) := Lib.hid (by rw [ht0, hj0]; exact fun j _ => ⟨_, rfl⟩)
            have HM4 : Hid (mu L (takeS L q4 s3) < N) := Lib.hid (Nat.lt_of_le_of_lt (mu_leR HAF.out (by rw [HA4.out]; omega)) HMU3.out)
            have hne : (strOf q4).toList.isEmpty = false := by
              have := lvl_ne hq4
              rw [strOf_tl]
              cases q4 with
              | nil => exact absurd rfl this
              | cons => rfl
            have E4 := Lib.hid (HA'.out _ HM4.out)
            generalize takeS L q4 s3 = s4 at *
            clear hO X1 hs4 hq4 hg0 ht0 hj0
            go_wp2_with fail
            refine (E4.out g vt _ O2.out.ps).mono ?_
            rintro e w3 ⟨u, t2, s5, rfl, hk⟩
            obtain ⟨up, un, uc, rfl⟩ := hk.row.form
            have O3 := Lib.hid (O2.out.call hk.rs hk.only)
            have R3 := Lib.hid (R2.out.only hk.only (fun k _ hk => by have := HLT.out; omega))
            have HK5 := Lib.hid hk
            have HL5 : Hid (Leads L [.e n] [] s (frE n (i + 1)) [join { nd 27 with text := q4 } [t, t2]] s5) := Lib.hid (by
              have h1 := hk.leads.over (.mk { nd 27 with text := q4 } 2 :: frE n (i + 1)) [t]
              have h2 := (Leads.mk (L := L) { nd 27 with text := q4 } [t, t2] 2 rfl s5).over (frE n (i + 1)) []
              exact (HL3.out.trans h1).trans h2)
            have HM5 : Hid (mu L s5 < N) := Lib.hid (Nat.lt_of_le_of_lt (mu_leR hk.leads.aft hk.le) HM4.out)
            have HLE5 := Lib.hid hk.le
            have HAF5 := Lib.hid hk.leads.aft
            obtain ⟨i0, hi0, hc0⟩ := HCO.out HJ.out
            have HI0 := Lib.hid hi0
            have HC0 := Lib.hid hc0
            have hl2 : t2.length ≤ 4 * (atS s5 - atS s4) + 3 := hk.len (Int.le_refl 0)
            have hle := O3.out.ps.le
            have HKS : Hid (KsW (w3.alloc (.cells #[Value.slice q m c, Value.slice up un uc] 23)) (fun _ => False) (.slice (some ⟨w3.heap.size, 0, none⟩) 2 2) [(Value.slice q m c, t), (Value.slice up un uc, t2)]) := Lib.hid (ks_lit (cs := [(Value.slice q m c, t), (Value.slice up un uc, t2)]) (fun c hc => by
              rcases List.mem_cons.1 hc with rfl | hc
              · exact R3.out.weaken (fun _ _ h => h.elim)
              · rw [List.mem_singleton.1 hc]; exact hk.row.weaken (fun _ _ h => h.elim)) (by simp) _ 2 rfl)
            have hbig : t.length + t2.length ≤ 10000000 := by
              have := HFEW.out; have := HA4.out; have := HLE5.out
              omega
            have J1 := Lib.hid (join_any { nd 27 with text := q4 } _ _ _ HKS.out (by simp) (by simpa using hbig))
            simp only [Nd.cells, List.map_cons, List.map_nil] at J1
            have O4 := Lib.hid (O3.out.alloc (.cells #[Value.slice q m c, Value.slice up un uc] 23))
            have HSZ : Hid (Sz 2 s s5 (join { nd 27 with text := q4 } [t, t2]).length) := Lib.hid ⟨fun k hk => (by rw [HI0.out] at hk; cases hk), fun i1 k h1 h2 => by
              have e1 : i1 = i0 := by rw [HI0.out] at h1; cases h1; rfl
              have e3 : s4 = .ok (j0 + 1) := HT0.out
              have e4 := hk.size.2 _ k e3 h2
              have e5 : atS s3 = j0 := by rw [HJ0.out]; rfl
              have e6 := HLE5.out
              rw [h2, e3] at e6
              have e7 : j0 + 1 ≤ k := e6
              simp [join]
              omega⟩
            have hin : i + 1 ≤ atS s5 := by have := HA4.out; have := HLE5.out; have := HIC.out; omega
            have HIN := Lib.hid hin
            have HBI : Hid ((i : Int) + 1 < 2000000) := Lib.hid (by have := HFEW.out; omega)
            clear hk hi0 hc0 hl2 hle hbig E4 hin
            generalize hjt : join { nd 27 with text := q4 } [t, t2] = tj at *
            have HNJ : Hid (tj ≠ []) := Lib.hid (by rw [← hjt]; simp [join])
            clear hjt
            go_wp2_with (go_at_call 78; refine J1.out.mono ?_; rintro e w4 ⟨u2, rfl, hr2⟩; have HR4 := Lib.hid hr2; clear hr2)
            have O5 := Lib.hid (O4.out.below HR4.out.below)
            have HX : Hid (NdX w4 (fun k => k < w.heap.size) u2 tj) := Lib.hid (NdX.of_own (_w := w) HR4.out.row HNJ.out (fun b hb hx => by have := O3.out.only.size; simp at hb; omega))
            obtain ⟨p2, n2, cc2, rfl⟩ := HX.out.form
            have hbi := HBI.out
            clear HR4 J1 HKS
            go_wp2
            go_roundg (mu L s5)
            case rel => exact ⟨i + 1, tj, s5, _, _, _, congrArg (Value.int .i64) ((IntWalk.wrap64_in ((i : Int) + 1) (by omega)).trans (by omega)), rfl, O5, HX, HL5, Lib.hid (by have := HLE.out; have := HLE5.out; have := HA4.out; omega), HM5, HSZ, Lib.hid rfl, HIN⟩
            case measure =>
              have h1 : mu L s5 ≤ mu L s4 := mu_leR HAF5.out HLE5.out
              have h2 := HK.out
              have h3 : atS s4 ≤ L.length := O2.out.ps.le
              have h4 : mu L s4 < mu L s3 := by
                have h5 := HT0.out
                have h6 := HJ0.out
                rw [h5] at h3 ⊢
                rw [h6]
                have h7 : j0 + 1 ≤ L.length := h3
                show L.length - (j0 + 1) + 1 < L.length - j0 + 1
                omega
              omega

set_option maxHeartbeats 2000000 in
set_option maxRecDepth 100000 in
/-- What stands behind the products: what unary reads. -/
theorem at0_five (L : List Tk) (s : St) (hU : Rf L 250 (.e 5) 2 s) : RfA L 5 s := by
  intro g vt w h
  have E1 := Lib.hid (hU g vt w h)
  have z0 : ((5 : Int) == 5) = true := rfl
  clear h hU
  go_enter Tryz.func231, Tryz.ntmps231
  go_wp2_with fail
  refine E1.out.mono ?_
  rintro e w1 ⟨v1, t1, s1, rfl, hk⟩
  have HK := Lib.hid hk
  clear hk E1
  go_wp2
  go_ret
  exact ⟨_, t1, s1, rfl, HK.out⟩

theorem at0_any (L : List Tk) (N : Nat) (hU : RfN L 250 (.e 5) 2 N) (n : Nat) (hn : n ≤ 5) : ∀ s, mu L s < N → RfA L (5 - n) s := by
  induction n with
  | zero => exact fun s hs => at0_five L s (hU s hs)
  | succ m ih =>
    intro s hs
    have h1 := ih (by omega)
    rw [show 5 - m = 5 - (m + 1) + 1 by omega] at h1
    exact at0_step L _ N (by omega) h1 s hs

set_option maxHeartbeats 2000000 in
set_option maxRecDepth 100000 in
theorem expr_rf (L : List Tk) (N : Nat) (hU : RfN L 250 (.e 5) 2 N) : RfN L 205 (.e 0) 2 N := by
  intro s hs g vt w h
  have E1 := Lib.hid (at0_any L N hU 5 (Nat.le_refl _) s hs g vt w h)
  clear h hU
  go_enter Tryz.func205, Tryz.ntmps205
  go_wp2_with fail
  refine E1.out.mono ?_
  rintro e w1 ⟨v1, t1, s1, rfl, hk⟩
  have HK := Lib.hid hk
  clear hk E1
  go_wp2
  go_ret
  exact ⟨_, t1, s1, rfl, HK.out⟩

end Go.Proofs.YtemlceicmpcboaaGreatDoor.Pa
