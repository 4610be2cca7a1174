/- The walk of stmt; The walk of stmt. No condition but those that each states. -/
import Derived.Test.YtmljjpdodcpohaaGreatDoorMgBF
namespace Go.Proofs.YtmljjpdodcpohaaGreatDoor.Pa
open Lib (hid)
set_option maxRecDepth 100000
set_option maxHeartbeats 8000000
open Go.RowKit Dk Lx Tr
theorem let_lead {L : List Tk} (s : St) : Leads L [.letN] [] s [.mark [61], .e 0, .mark [59], .mk { nd 6 with name := (nameV L 1 s).text } 1] [] (needS L 1 s) :=
  need_lead .letN 1 [] s (fun t => [.mark [61], .e 0, .mark [59], .mk { nd 6 with name := t.text } 1]) (fun V i => by rw [← tx_getD]; rfl)
theorem strict_le {L : List Tk} {j : Nat} {s' : St} (h : j + 1 ≤ nx L s') : ∀ a b, (St.ok j) = .ok a → s' = .ok b → a < b := by
  intro a b ha hb; cases ha
  rw [hb] at h; exact h
theorem stmt_let (L : List Tk) (n : Nat) (hE : RdN L 231 [.e 0] n) (s : St) (hs : mu L s ≤ n) (hq : sgS L s = [108, 101, 116]) (g : Nat) (vt : Value) (w : World) (h : PS L g vt w s) : Calls Tryz.prog 208 #[ptr g] w (StOk L g vt s w) := by
  have SG := hid (sign_any h); rw [hq] at SG; obtain ⟨j, rfl, hj, hjl⟩ := sgS_ok hq (by decide); have HA : Hid (Leads L [.stmt] [] (.ok j) [.letN] [] (.ok (j + 1))) := hid (stmt_key (by rw [hj]; rfl))
  have SK := hid (fun W => kind_let W); have G := hid (fun W => grow_any (nd 6) none 0 0 W); unfold nd Nd.cells at G; have H0 := hid (On.start h); have HLT := hid h.lt; have HJ := hid hjl; have HFEW := hid h.few; obtain ⟨i0, hi0, hy0, hy1, hy2⟩ := info_parts ptr_info3; have z9 : (j : Int) ≤ 1000000 := by have := h.few; omega
  have HE := hid hE; have HM := hid (Nat.lt_of_lt_of_le (mu_next hjl) hs); clear hE hs; generalize strOf [108, 101, 116] = o at *; clear h hq hj hjl; go_enter Tryz.func208, Tryz.ntmps208
  go_wp2_with fail
  refine SG.out.mono ?_; rintro e v1 ⟨rfl, hb⟩; have O1 := hid (H0.out.below hb); clear hb SG; go_wp2_with fail
  refine (SK.out v1).mono ?_; rintro e v1' ⟨rfl, rfl⟩; obtain ⟨-, c1, -, -⟩ := O1.out.ps.at; obtain ⟨f1, -, -⟩ := O1.out.ps.free; rw [show nx L (.ok j) = j from rfl] at c1; have O2 := hid (O1.out.call (O1.out.ps.next HJ.out) (Only.of_setCell _)); go_wp2_with fail
  generalize World.setCell _ _ _ = v3 at O2 ⊢; clear c1 f1 SK; refine (G.out _).mono ?_; rintro e v4 ⟨bs, rfl, hb, hB, hbel⟩; have O4 := hid (O2.out.below hbel); have F4 : Hid (FB w v4 bs (nd 6) 0 (.slice none 0 0) [] (.ok (j + 1))) := hid (FB.start (LR.nil w v3 _) O2.out.only.size hb hB hbel); clear hb hB hbel G; have N := hid (name_rd O4.out.ps); have HL5 := hid (HA.out.trans (let_lead (.ok (j + 1)))); have HLE5 := hid (need_le 1 O4.out.ps.le); have HAF5 : Hid (Aft (.ok (j + 1)) (needS L 1 (.ok (j + 1)))) := hid (fun _ _ => ⟨j + 1, rfl⟩); generalize (nameV L 1 (.ok (j + 1))).text = q at *; generalize needS L 1 (.ok (j + 1)) = s5 at *; go_wp2_with fail
  refine N.out.mono ?_; rintro e v5 ⟨rfl, hp, ho⟩; have O5 := hid (O4.out.call hp ho); have F5 := hid (FB.aft (FB.call F4.out ho HLT.out) HAF5.out); clear hp ho N F4 O4; obtain ⟨-, -, c2, -⟩ := F5.out.bb.at; have f2 := F5.out.bb.free 2 (by decide); have O6 := hid (O5.out.setCell bs F5.out.own 2 (.string (strOf q))); have F6 : Hid (FB w (v5.setCell ⟨bs, 2, none⟩ (.string (strOf q))) bs { nd 6 with name := q } 0 (.slice none 0 0) [] s5) := hid (FB.put 2 F5.out (by decide) rfl); have X6 := hid (expect_any [61] O6.out.ps (by decide))
  have HL6 : Hid (Leads L [.stmt] [] (.ok j) [.e 0, .mark [59], .mk { nd 6 with name := q } 1] [] (markS L [61] s5)) := hid (HL5.out.trans (by
    have := (Leads.mark (L := L) [61] s5).over [.e 0, .mark [59], .mk { nd 6 with name := q } 1] []
    exact this))
  have HLE6 : Hid (j + 1 ≤ nx L (markS L [61] s5)) := hid (Nat.le_trans HLE5.out (mark_le [61] O5.out.ps.le)); have HAF6 : Hid (Aft s5 (markS L [61] s5)) := hid (Leads.mark (L := L) [61] s5).aft; have E1 := hid (HE.out (markS L [61] s5) (Nat.lt_of_le_of_lt (mu_le (HAF5.out.trans HAF6.out) HLE6.out) HM.out)); generalize markS L [61] s5 = s6 at *; clear HL5 HA HE; go_wp2_with fail
  generalize World.setCell _ _ _ = v6 at O6 F6 X6 ⊢; clear c2 f2; refine X6.out.mono ?_; rintro e v7 ⟨rfl, hp, ho⟩; have O4x := hid (O6.out.call hp ho); have F4x := hid (FB.aft (FB.call F6.out ho HLT.out) HAF6.out); clear hp ho X6; have HJS : Hid (j ≤ nx L s6) := hid (Nat.le_trans (Nat.le_succ j) HLE6.out); have HRW : Hid (∀ W s', FB w W bs { nd 6 with name := q } 0 (Value.slice none 0 0) ([] : List (Nat × List Nd)) s' → ∀ b', (W.alloc (.cells #[ptr b'] 128)).ownsRow w.heap.size 128 1 (Value.slice none 0 0) 0 (bp ((([] : List (Nat × List Nd))).map (·.1)))) := hid (fun W s' hf b' => by have := hf.row.alloc (.cells #[ptr b'] 128); exact this)
  have HB3 : Hid (∀ W s', On L g vt w W s' → ∀ b', w.heap.size ≤ (W.alloc (.cells #[ptr b'] 128)).heap.size) := hid (fun W s' ho b' => by have := ho.only.size; simp; omega)
  go_upto_region 18 with fail
  obtain ⟨-, -, -, -, -, c5⟩ := F4x.out.bb.at
  go_region_law (first
    | (go_simp; go_at_call 231; refine (E1.out g vt _ (O4x.out.below (Below.refl _ _).drew).ps).mono ?_; rintro e w4 ⟨b', t', s4, hk⟩; obtain ⟨rfl, hl, hps, honly, hbr, hle⟩ := hk; have O4' := hid ((O4x.out.below (Below.refl _ _).drew).call hps honly); have F4' := hid (FB.aft (FB.call (FB.below F4x.out (Below.refl _ _).drew) honly HLT.out) hl.aft); have N4 := hid (Kids.add (Kids.nil w4 (fun k => (k < w.heap.size ∨ (Value.slice none 0 0).ownBlock = some k) ∨ k = bs) s4) (FB.news (FB.aft (FB.below F4x.out (Below.refl _ _).drew) hl.aft) hbr O4x.out.only.size)); have K4 := hid (And.intro hl hle); obtain ⟨-, -, -, -, -, c5'⟩ := F4'.out.bb.at; obtain ⟨-, -, -, -, -, c5a⟩ := (FB.below F4'.out ((Below.refl _ _).alloc (Nat.le_refl _) (.cells #[ptr b'] 128))).bb.at; have N1 := hid (news_at w4 #[ptr b'] 128); clear hl hps honly hbr hle)
    | (refine step_append_lies _ (by rfl) (.tmp 74) (.tmp 77) 172 (by rfl) w.heap.size 128 i0 (.pointer none) 1 8 Tryz.underlying172 hi0 hy0 hy1 hy2 (by rfl) (by decide) _ 0 (bp ((([] : List (Nat × List Nd))).map (·.1))) (by rfl) (HRW.out _ _ F4'.out _) ⟨w4.heap.size, 0, none⟩ 1 1 [ptr b'] (by rfl) (by rfl) N1.out (by simp [Value.oneCell']) (by decide) (by decide) (by decide) (HB3.out _ _ O4'.out _) (w4.heap.size + 1) (by simp) ?_; intro g' cap w7 hrow hgr hgl hlt7; have HA7 := hid (FB.app F4'.out ((Below.refl _ _).alloc (Nat.le_refl _) (.cells #[ptr b'] 128)) hgr); have HP := hid (FB.push F4'.out N4.out ((Below.refl _ _).alloc (Nat.le_refl _) (.cells #[ptr b'] 128)) rfl hrow hgr (hgl.imp id (fun e => e.trans (by simp)))); clear hrow hgr hgl hlt7; obtain ⟨-, -, -, -, -, c7⟩ := HA7.out.1.at; have f7 := HA7.out.1.free 5 (by decide)))
  all_goals
    have O5 := hid (On.fb O4'.out F4'.out HP.out.2); have F5 := hid HP.out.1; have K5 : Hid (Leads1 L (.e 0) s6 t' s4) := hid K4.out; clear HA7 HP c7 f7 c5 HRW HB3; generalize t' = t5 at *; generalize s4 = s5 at *
    have HL5 : Hid (Leads L [.stmt] [] (.ok j) [.mark [59], .mk { nd 6 with name := q } 1] [t5] s5) := hid ((HL6.out).trans (by
      have := K5.out.1.over [.mark [59], .mk { nd 6 with name := q } 1] []
      exact this))
    have HLJ : Hid (j ≤ nx L s5) := hid (Nat.le_trans HJS.out K5.out.2)
    have HL9 : Hid (Leads L [.stmt] [] (.ok j) [] [join { nd 6 with name := q } [t5]] (markS L [59] s5)) := hid ((HL5.out).trans ((by
      have := (Leads.mark (L := L) [59] s5).over [.mk { nd 6 with name := q } 1] [t5]
      exact this : Leads L [.mark [59], .mk { nd 6 with name := q } 1] [t5] s5 [.mk { nd 6 with name := q } 1] [t5] (markS L [59] s5)).trans (Leads.mk _ [t5] 1 rfl _)))
    have X := hid (fun W (hp : PS L g vt W s5) => expect_any [59] hp (by decide)); have HAF : Hid (Aft s5 (markS L [59] s5)) := hid (Leads.mark (L := L) [59] s5).aft; have HLE9 : Hid (nx L (.ok j) ≤ nx L (markS L [59] s5)) := hid (Nat.le_trans HLJ.out (mark_le [59] O5.out.ps.le)); have HST : Hid (∀ a b, (St.ok j) = .ok a → markS L [59] s5 = .ok b → a < b) := hid (strict_of rfl HLJ.out); generalize markS L [59] s5 = s9 at *; go_wp2_with fail
    refine (X.out _ O5.out.ps).mono ?_; rintro e v9 ⟨rfl, hp, ho⟩; have O9 := hid (O5.out.call hp ho); have S9 := hid (FB.sb (FB.aft (FB.call F5.out ho HLT.out) HAF.out)); clear hp ho; go_wp2; go_ret; exact ⟨bs, _, s9, ⟨rfl, HL9.out, O9.out.ps, O9.out.only, S9.out, HLE9.out⟩, HST.out⟩
end Go.Proofs.YtmljjpdodcpohaaGreatDoor.Pa

namespace Go.Proofs.YtmljjpdodcpohaaGreatDoor.Pa
open Lib (hid)
set_option maxRecDepth 100000
set_option maxHeartbeats 8000000
open Go.RowKit Dk Lx Tr
def Leads2 (L : List Tk) (s : St) (t1 t2 : List Nd) (s' : St) : Prop := Leads L [.e 0, .blk] [] s [] [t1, t2] s' ∧ nx L s ≤ nx L s'
theorem els_yes {L : List Tk} {j : Nat} (us : List (List Nd)) (h : sg L j = [101, 108, 115, 101]) : Leads L [.els] us (.ok j) [.blk, .mk (nd 9) 3] us (.ok (j + 1)) := .yes (fun V => by
  change (if sg L j = [101, 108, 115, 101] then some ([Sy.blk, .mk (nd 9) 3], us.reverse ++ V, j + 1) else some ([.mk (nd 9) 2], us.reverse ++ V, j)) = _
  exact if_pos h)
theorem els_no {L : List Tk} (us : List (List Nd)) {s : St} (h : sgS L s ≠ [101, 108, 115, 101]) : Leads L [.els] us s [.mk (nd 9) 2] us s := by
  cases s with
  | bad k => exact rfl
  | ok j => exact .yes (fun V => by
      change (if sg L j = [101, 108, 115, 101] then some ([Sy.blk, .mk (nd 9) 3], us.reverse ++ V, j + 1) else some ([.mk (nd 9) 2], us.reverse ++ V, j)) = _
      exact if_neg h)
theorem stmt_while (L : List Tk) (n : Nat) (hE : RdN L 231 [.e 0] n) (hB : RdN L 184 [.blk] n) (s : St) (hs : mu L s ≤ n) (hq : sgS L s = [119, 104, 105, 108, 101]) (g : Nat) (vt : Value) (w : World) (h : PS L g vt w s) : Calls Tryz.prog 208 #[ptr g] w (StOk L g vt s w) := by
  have SG := hid (sign_any h); rw [hq] at SG; obtain ⟨j, rfl, hj, hjl⟩ := sgS_ok hq (by decide); have HA : Hid (Leads L [.stmt] [] (.ok j) [.e 0, .blk, .mk (nd 10) 2] [] (.ok (j + 1))) := hid (stmt_key (by rw [hj]; rfl))
  have SK := hid (fun W => kind_while W); have G := hid (fun W => grow_any (nd 10) none 0 0 W); unfold nd Nd.cells at G; have H0 := hid (On.start h); have HLT := hid h.lt; have HJ := hid hjl; have HFEW := hid h.few; obtain ⟨i0, hi0, hy0, hy1, hy2⟩ := info_parts ptr_info3; have z9 : (j : Int) ≤ 1000000 := by have := h.few; omega
  have HB := hid hB; have E1 := hid (hE (.ok (j + 1)) (Nat.lt_of_lt_of_le (mu_next hjl) hs)); have HM := hid (Nat.lt_of_lt_of_le (mu_next hjl) hs); clear hE hs hB; generalize strOf [119, 104, 105, 108, 101] = o at *; clear h hq hj hjl; go_enter Tryz.func208, Tryz.ntmps208
  go_wp2_with fail
  refine SG.out.mono ?_; rintro e v1 ⟨rfl, hb⟩; have O1 := hid (H0.out.below hb); clear hb SG; go_wp2_with fail
  refine (SK.out v1).mono ?_; rintro e v1' ⟨rfl, rfl⟩; obtain ⟨-, c1, -, -⟩ := O1.out.ps.at; obtain ⟨f1, -, -⟩ := O1.out.ps.free; rw [show nx L (.ok j) = j from rfl] at c1; have O2 := hid (O1.out.call (O1.out.ps.next HJ.out) (Only.of_setCell _)); go_wp2_with fail
  generalize World.setCell _ _ _ = v3 at O2 ⊢; clear c1 f1 SK; refine (G.out _).mono ?_; rintro e v4 ⟨bs, rfl, hb, hB, hbel⟩; have O4 := hid (O2.out.below hbel); have F4 : Hid (FB w v4 bs (nd 10) 0 (.slice none 0 0) [] (.ok (j + 1))) := hid (FB.start (LR.nil w v3 _) O2.out.only.size hb hB hbel); clear hb hB hbel G; have HRW : Hid (∀ W s', FB w W bs (nd 10) 0 (.slice none 0 0) [] s' → ∀ b' b'', (W.alloc (.cells #[ptr b', ptr b''] 128)).ownsRow w.heap.size 128 1 (.slice none 0 0) 0 (bp (([] : List (Nat × List Nd)).map (·.1)))) := hid (fun W s' hf b' b'' => by have := hf.row.alloc (.cells #[ptr b', ptr b''] 128); exact this)
  have HB3 : Hid (∀ W s', On L g vt w W s' → ∀ b' b'', w.heap.size ≤ (W.alloc (.cells #[ptr b', ptr b''] 128)).heap.size) := hid (fun W s' ho b' b'' => by have := ho.only.size; simp; omega)
  go_upto_region 13 with fail
  obtain ⟨-, -, -, -, -, c5⟩ := F4.out.bb.at; go_cut [] (fun wx => ∃ b1 t1 b2 t2 s5 g5 cap5, Hid (On L g vt w wx s5) ∧ Hid (FB w wx bs (nd 10) 0 (.slice (some ⟨g5, 0, none⟩) 2 cap5) [(b1, t1), (b2, t2)] s5) ∧ Hid (Leads2 L (.ok (j + 1)) t1 t2 s5))
  case first =>
    go_region_law (first
      | (go_simp; go_at_call 231; refine (E1.out g vt _ (O4.out.below (Below.refl _ _).drew).ps).mono ?_; rintro e w4 ⟨b1, t1, s4, hk⟩; obtain ⟨rfl, hl, hps, honly, hbr, hle⟩ := hk; have O5 := hid ((O4.out.below (Below.refl _ _).drew).call hps honly); have F5 := hid (FB.aft (FB.call (FB.below F4.out (Below.refl _ _).drew) honly HLT.out) hl.aft); have N4 := hid (FB.news (FB.aft (FB.below F4.out (Below.refl _ _).drew) hl.aft) hbr O4.out.only.size); have K4 := hid (And.intro hl hle); have HB4 := hid (HB.out s4 (Nat.lt_of_le_of_lt (mu_le hl.aft hle) HM.out)); obtain ⟨-, -, -, -, -, c5'⟩ := F5.out.bb.at; clear hl hps honly hbr hle)
      | (go_simp; go_at_call 184; refine (HB4.out g vt _ O5.out.ps).mono ?_; rintro e w5 ⟨b2, t2, s5, hk⟩; obtain ⟨rfl, hl, hps, honly, hbr, hle⟩ := hk; have O6 := hid (O5.out.call hps honly); have F6 := hid (FB.aft (FB.call F5.out honly HLT.out) hl.aft); have N5 := hid (Kids.add (Kids.add (Kids.nil w5 (fun k => (k < w.heap.size ∨ (Value.slice none 0 0).ownBlock = some k) ∨ k = bs) s5) (SB.aft (SB.only N4.out honly (fun i _ hi => .inl (.inl (by have := HLT.out; omega)))) hl.aft)) (FB.news (FB.aft F5.out hl.aft) hbr O5.out.only.size)); have K5 := hid (And.intro hl hle); obtain ⟨-, -, -, -, -, c6⟩ := F6.out.bb.at; obtain ⟨-, -, -, -, -, c6a⟩ := (FB.below F6.out ((Below.refl _ _).alloc (Nat.le_refl _) (.cells #[ptr b1, ptr b2] 128))).bb.at; have N1 := hid (news_at w5 #[ptr b1, ptr b2] 128); clear hl hps honly hbr hle)
      | (refine step_append_lies _ (by rfl) (.tmp 36) (.tmp 41) 172 (by rfl) w.heap.size 128 i0 (.pointer none) 1 8 Tryz.underlying172 hi0 hy0 hy1 hy2 (by rfl) (by decide) _ 0 (bp (([] : List (Nat × List Nd)).map (·.1))) (by rfl) (HRW.out _ _ F6.out _ _) ⟨w5.heap.size, 0, none⟩ 2 2 [ptr b1, ptr b2] (by rfl) (by rfl) N1.out (by simp [Value.oneCell']) (by decide) (by decide) (by decide) (HB3.out _ _ O6.out _ _) (w5.heap.size + 1) (by simp) ?_; intro g' cap w7 hrow hgr hgl hlt7; have HA7 := hid (FB.app F6.out ((Below.refl _ _).alloc (Nat.le_refl _) (.cells #[ptr b1, ptr b2] 128)) hgr); have HP := hid (FB.push (news := [(b1, t1), (b2, t2)]) F6.out N5.out ((Below.refl _ _).alloc (Nat.le_refl _) (.cells #[ptr b1, ptr b2] 128)) rfl hrow hgr (hgl.imp id (fun e => e.trans (by simp)))); clear hrow hgr hgl hlt7; obtain ⟨-, -, -, -, -, c7⟩ := HA7.out.1.at; have f7 := HA7.out.1.free 5 (by decide)))
    all_goals
      go_wp2_with fail
      go_meet
      refine ⟨b1, t1, b2, t2, s5, g', cap, hid (On.fb O6.out F6.out HP.out.2), hid HP.out.1, hid ⟨?_, Nat.le_trans K4.out.2 K5.out.2⟩⟩; have h1 := K4.out.1.over [.blk] []; have h2 := K5.out.1.over [] [t1]; exact (show Leads L [.e 0, .blk] [] (.ok (j + 1)) [.blk] [t1] s4 from h1).trans h2
  case rest =>
  obtain ⟨b1, t1, b2, t2, s5, g5, cap5, O5, F5, K5⟩ := hcut; clear c5 HRW HB3 O4 F4
  have HL9 : Hid (Leads L [.stmt] [] (.ok j) [] [join (nd 10) [t1, t2]] s5) := hid (HA.out.trans ((by
    have := K5.out.1.over [.mk (nd 10) 2] []
    exact this : Leads L [.e 0, .blk, .mk (nd 10) 2] [] (.ok (j + 1)) [.mk (nd 10) 2] [t1, t2] s5).trans (Leads.mk _ [t1, t2] 2 rfl _)))
  have HST : Hid (j + 1 ≤ nx L s5) := hid K5.out.2; have HLE9 : Hid (nx L (.ok j) ≤ nx L s5) := hid (Nat.le_trans (Nat.le_succ j) HST.out); go_wp2; go_ret; exact ⟨bs, _, s5, ⟨rfl, HL9.out, O5.out.ps, O5.out.only, FB.sb F5.out, HLE9.out⟩, strict_le HST.out⟩
theorem stmt_if (L : List Tk) (n : Nat) (hE : RdN L 231 [.e 0] n) (hB : RdN L 184 [.blk] n) (s : St) (hs : mu L s ≤ n) (hq : sgS L s = [105, 102]) (g : Nat) (vt : Value) (w : World) (h : PS L g vt w s) : Calls Tryz.prog 208 #[ptr g] w (StOk L g vt s w) := by
  have SG := hid (sign_any h); rw [hq] at SG; obtain ⟨j, rfl, hj, hjl⟩ := sgS_ok hq (by decide); have HA : Hid (Leads L [.stmt] [] (.ok j) [.e 0, .blk, .els] [] (.ok (j + 1))) := hid (stmt_key (by rw [hj]; rfl))
  have SK := hid (fun W => kind_if W); have G := hid (fun W => grow_any (nd 9) none 0 0 W); unfold nd Nd.cells at G; have H0 := hid (On.start h); have HLT := hid h.lt; have HJ := hid hjl; have HFEW := hid h.few; obtain ⟨i0, hi0, hy0, hy1, hy2⟩ := info_parts ptr_info3; have z9 : (j : Int) ≤ 1000000 := by have := h.few; omega
  have HB := hid hB; have E1 := hid (hE (.ok (j + 1)) (Nat.lt_of_lt_of_le (mu_next hjl) hs)); have HM := hid (Nat.lt_of_lt_of_le (mu_next hjl) hs); clear hE hs hB; generalize strOf [105, 102] = o at *; clear h hq hj hjl; go_enter Tryz.func208, Tryz.ntmps208
  go_wp2_with fail
  refine SG.out.mono ?_; rintro e v1 ⟨rfl, hb⟩; have O1 := hid (H0.out.below hb); clear hb SG; go_wp2_with fail
  refine (SK.out v1).mono ?_; rintro e v1' ⟨rfl, rfl⟩; obtain ⟨-, c1, -, -⟩ := O1.out.ps.at; obtain ⟨f1, -, -⟩ := O1.out.ps.free; rw [show nx L (.ok j) = j from rfl] at c1; have O2 := hid (O1.out.call (O1.out.ps.next HJ.out) (Only.of_setCell _)); go_wp2_with fail
  generalize World.setCell _ _ _ = v3 at O2 ⊢; clear c1 f1 SK; refine (G.out _).mono ?_; rintro e v4 ⟨bs, rfl, hb, hB, hbel⟩; have O4 := hid (O2.out.below hbel); have F4 : Hid (FB w v4 bs (nd 9) 0 (.slice none 0 0) [] (.ok (j + 1))) := hid (FB.start (LR.nil w v3 _) O2.out.only.size hb hB hbel); clear hb hB hbel G; have HRW : Hid (∀ W s', FB w W bs (nd 9) 0 (.slice none 0 0) [] s' → ∀ b' b'', (W.alloc (.cells #[ptr b', ptr b''] 128)).ownsRow w.heap.size 128 1 (.slice none 0 0) 0 (bp (([] : List (Nat × List Nd)).map (·.1)))) := hid (fun W s' hf b' b'' => by have := hf.row.alloc (.cells #[ptr b', ptr b''] 128); exact this)
  have HB3 : Hid (∀ W s', On L g vt w W s' → ∀ b' b'', w.heap.size ≤ (W.alloc (.cells #[ptr b', ptr b''] 128)).heap.size) := hid (fun W s' ho b' b'' => by have := ho.only.size; simp; omega)
  go_upto_region 13 with fail
  obtain ⟨-, -, -, -, -, c5⟩ := F4.out.bb.at; go_cut [] (fun wx => ∃ b1 t1 b2 t2 s5 g5 cap5, Hid (On L g vt w wx s5) ∧ Hid (FB w wx bs (nd 9) 0 (.slice (some ⟨g5, 0, none⟩) 2 cap5) [(b1, t1), (b2, t2)] s5) ∧ Hid (Leads2 L (.ok (j + 1)) t1 t2 s5))
  case first =>
    go_region_law (first
      | (go_simp; go_at_call 231; refine (E1.out g vt _ (O4.out.below (Below.refl _ _).drew).ps).mono ?_; rintro e w4 ⟨b1, t1, s4, hk⟩; obtain ⟨rfl, hl, hps, honly, hbr, hle⟩ := hk; have O5 := hid ((O4.out.below (Below.refl _ _).drew).call hps honly); have F5 := hid (FB.aft (FB.call (FB.below F4.out (Below.refl _ _).drew) honly HLT.out) hl.aft); have N4 := hid (FB.news (FB.aft (FB.below F4.out (Below.refl _ _).drew) hl.aft) hbr O4.out.only.size); have K4 := hid (And.intro hl hle); have HB4 := hid (HB.out s4 (Nat.lt_of_le_of_lt (mu_le hl.aft hle) HM.out)); obtain ⟨-, -, -, -, -, c5'⟩ := F5.out.bb.at; clear hl hps honly hbr hle)
      | (go_simp; go_at_call 184; refine (HB4.out g vt _ O5.out.ps).mono ?_; rintro e w5 ⟨b2, t2, s5, hk⟩; obtain ⟨rfl, hl, hps, honly, hbr, hle⟩ := hk; have O6 := hid (O5.out.call hps honly); have F6 := hid (FB.aft (FB.call F5.out honly HLT.out) hl.aft); have N5 := hid (Kids.add (Kids.add (Kids.nil w5 (fun k => (k < w.heap.size ∨ (Value.slice none 0 0).ownBlock = some k) ∨ k = bs) s5) (SB.aft (SB.only N4.out honly (fun i _ hi => .inl (.inl (by have := HLT.out; omega)))) hl.aft)) (FB.news (FB.aft F5.out hl.aft) hbr O5.out.only.size)); have K5 := hid (And.intro hl hle); obtain ⟨-, -, -, -, -, c6⟩ := F6.out.bb.at; obtain ⟨-, -, -, -, -, c6a⟩ := (FB.below F6.out ((Below.refl _ _).alloc (Nat.le_refl _) (.cells #[ptr b1, ptr b2] 128))).bb.at; have N1 := hid (news_at w5 #[ptr b1, ptr b2] 128); clear hl hps honly hbr hle)
      | (refine step_append_lies _ (by rfl) (.tmp 36) (.tmp 41) 172 (by rfl) w.heap.size 128 i0 (.pointer none) 1 8 Tryz.underlying172 hi0 hy0 hy1 hy2 (by rfl) (by decide) _ 0 (bp (([] : List (Nat × List Nd)).map (·.1))) (by rfl) (HRW.out _ _ F6.out _ _) ⟨w5.heap.size, 0, none⟩ 2 2 [ptr b1, ptr b2] (by rfl) (by rfl) N1.out (by simp [Value.oneCell']) (by decide) (by decide) (by decide) (HB3.out _ _ O6.out _ _) (w5.heap.size + 1) (by simp) ?_; intro g' cap w7 hrow hgr hgl hlt7; have HA7 := hid (FB.app F6.out ((Below.refl _ _).alloc (Nat.le_refl _) (.cells #[ptr b1, ptr b2] 128)) hgr); have HP := hid (FB.push (news := [(b1, t1), (b2, t2)]) F6.out N5.out ((Below.refl _ _).alloc (Nat.le_refl _) (.cells #[ptr b1, ptr b2] 128)) rfl hrow hgr (hgl.imp id (fun e => e.trans (by simp)))); clear hrow hgr hgl hlt7; obtain ⟨-, -, -, -, -, c7⟩ := HA7.out.1.at; have f7 := HA7.out.1.free 5 (by decide)))
    all_goals
      go_wp2_with fail
      go_meet
      refine ⟨b1, t1, b2, t2, s5, g', cap, hid (On.fb O6.out F6.out HP.out.2), hid HP.out.1, hid ⟨?_, Nat.le_trans K4.out.2 K5.out.2⟩⟩; have h1 := K4.out.1.over [.blk] []; have h2 := K5.out.1.over [] [t1]; exact (show Leads L [.e 0, .blk] [] (.ok (j + 1)) [.blk] [t1] s4 from h1).trans h2
  case rest =>
  obtain ⟨b1, t1, b2, t2, s5, g5, cap5, O5, F5, K5⟩ := hcut; clear c5 HRW HB3 O4 F4
  have HL5 : Hid (Leads L [.stmt] [] (.ok j) [.els] [t1, t2] s5) := hid (HA.out.trans (by
    have := K5.out.1.over [.els] []
    exact this))
  by_cases he : sgS L s5 = [101, 108, 115, 101]
  · obtain ⟨i, rfl, hi, hil⟩ := sgS_ok he (by decide)
    have A := hid (accept_yes [101, 108, 115, 101] O5.out.ps (by decide) hi); have HL6 := hid (HL5.out.trans (els_yes _ hi)); have HJI : Hid (j + 1 ≤ i) := hid K5.out.2; have HBE := hid (HB.out (.ok (i + 1)) (Nat.lt_of_le_of_lt (mu_le (s := .ok (j + 1)) (fun _ _ => ⟨j + 1, rfl⟩) (Nat.le_trans HJI.out (Nat.le_succ i))) HM.out)); clear he hi hil HL5; go_wp2_with fail
    refine A.out.mono ?_; rintro e v6 ⟨rfl, hp, ho⟩; have O4x := hid (O5.out.call hp ho); have F4x : Hid (FB w v6 bs (nd 9) 0 (.slice (some ⟨g5, 0, none⟩) 2 cap5) [(b1, t1), (b2, t2)] (.ok (i + 1))) := hid (FB.aft (FB.call F5.out ho HLT.out) (fun _ _ => ⟨i, rfl⟩)); clear hp ho A O5 F5 K5; have HRW : Hid (∀ W s', FB w W bs (nd 9) 0 (Value.slice (some ⟨g5, 0, none⟩) 2 cap5) [(b1, t1), (b2, t2)] s' → ∀ b', (W.alloc (.cells #[ptr b'] 128)).ownsRow w.heap.size 128 1 (Value.slice (some ⟨g5, 0, none⟩) 2 cap5) 2 (bp (([(b1, t1), (b2, t2)]).map (·.1)))) := hid (fun W s' hf b' => by have := hf.row.alloc (.cells #[ptr b'] 128); exact this)
    have HB3 : Hid (∀ W s', On L g vt w W s' → ∀ b', w.heap.size ≤ (W.alloc (.cells #[ptr b'] 128)).heap.size) := hid (fun W s' ho b' => by have := ho.only.size; simp; omega)
    go_upto_region 15 with fail
    obtain ⟨-, -, -, -, -, c5⟩ := F4x.out.bb.at
    go_region_law (first
      | (go_simp; go_at_call 184; refine (HBE.out g vt _ (O4x.out.below (Below.refl _ _).drew).ps).mono ?_; rintro e w4 ⟨b', t', s4, hk⟩; obtain ⟨rfl, hl, hps, honly, hbr, hle⟩ := hk; have O4' := hid ((O4x.out.below (Below.refl _ _).drew).call hps honly); have F4' := hid (FB.aft (FB.call (FB.below F4x.out (Below.refl _ _).drew) honly HLT.out) hl.aft); have N4 := hid (Kids.add (Kids.nil w4 (fun k => (k < w.heap.size ∨ (Value.slice (some ⟨g5, 0, none⟩) 2 cap5).ownBlock = some k) ∨ k = bs) s4) (FB.news (FB.aft (FB.below F4x.out (Below.refl _ _).drew) hl.aft) hbr O4x.out.only.size)); have K4 := hid (And.intro hl hle); obtain ⟨-, -, -, -, -, c5'⟩ := F4'.out.bb.at; obtain ⟨-, -, -, -, -, c5a⟩ := (FB.below F4'.out ((Below.refl _ _).alloc (Nat.le_refl _) (.cells #[ptr b'] 128))).bb.at; have N1 := hid (news_at w4 #[ptr b'] 128); clear hl hps honly hbr hle)
      | (refine step_append_lies _ (by rfl) (.tmp 55) (.tmp 58) 172 (by rfl) w.heap.size 128 i0 (.pointer none) 1 8 Tryz.underlying172 hi0 hy0 hy1 hy2 (by rfl) (by decide) _ 2 (bp (([(b1, t1), (b2, t2)]).map (·.1))) (by rfl) (HRW.out _ _ F4'.out _) ⟨w4.heap.size, 0, none⟩ 1 1 [ptr b'] (by rfl) (by rfl) N1.out (by simp [Value.oneCell']) (by decide) (by decide) (by decide) (HB3.out _ _ O4'.out _) (w4.heap.size + 1) (by simp) ?_; intro g' cap w7 hrow hgr hgl hlt7; have HA7 := hid (FB.app F4'.out ((Below.refl _ _).alloc (Nat.le_refl _) (.cells #[ptr b'] 128)) hgr); have HP := hid (FB.push F4'.out N4.out ((Below.refl _ _).alloc (Nat.le_refl _) (.cells #[ptr b'] 128)) rfl hrow hgr (hgl.imp id (fun e => e.trans (by simp)))); clear hrow hgr hgl hlt7; obtain ⟨-, -, -, -, -, c7⟩ := HA7.out.1.at; have f7 := HA7.out.1.free 5 (by decide)))
    all_goals
      have O5 := hid (On.fb O4'.out F4'.out HP.out.2); have F5 := hid HP.out.1; have K5 : Hid (Leads1 L .blk (.ok (i + 1)) t' s4) := hid K4.out; clear HA7 HP c7 f7 c5 HRW HB3; generalize t' = t5 at *; generalize s4 = s5 at *
      have HL9 : Hid (Leads L [.stmt] [] (.ok j) [] [join (nd 9) [t1, t2, t5]] s5) := hid (HL6.out.trans ((by
        have := K5.out.1.over [.mk (nd 9) 3] [t1, t2]
        exact this : Leads L [.blk, .mk (nd 9) 3] [t1, t2] (.ok (i + 1)) [.mk (nd 9) 3] [t1, t2, t5] s5).trans (Leads.mk _ [t1, t2, t5] 3 rfl _)))
      have HST : Hid (j + 1 ≤ nx L s5) := hid (Nat.le_trans (Nat.le_trans HJI.out (Nat.le_succ i)) K5.out.2); have HLE9 : Hid (nx L (.ok j) ≤ nx L s5) := hid (Nat.le_trans (Nat.le_succ j) HST.out); go_wp2; go_ret; exact ⟨bs, _, s5, ⟨rfl, HL9.out, O5.out.ps, O5.out.only, FB.sb F5.out, HLE9.out⟩, strict_le HST.out⟩
  · have A := hid (accept_no [101, 108, 115, 101] O5.out.ps he)
    have HL9 : Hid (Leads L [.stmt] [] (.ok j) [] [join (nd 9) [t1, t2]] s5) := hid (HL5.out.trans ((els_no _ he).trans (Leads.mk _ [t1, t2] 2 rfl _))); have HST : Hid (j + 1 ≤ nx L s5) := hid K5.out.2; have HLE9 : Hid (nx L (.ok j) ≤ nx L s5) := hid (Nat.le_trans (Nat.le_succ j) HST.out); clear he HL5; go_wp2_with fail
    refine A.out.mono ?_; rintro e v6 ⟨rfl, hb⟩; have O6 := hid (O5.out.below hb); have F6 := hid (FB.below F5.out hb); clear hb A; go_wp2; go_ret; exact ⟨bs, _, s5, ⟨rfl, HL9.out, O6.out.ps, O6.out.only, FB.sb F6.out, HLE9.out⟩, strict_le HST.out⟩
theorem stmt_else_rd (L : List Tk) (n : Nat) (hE : RdN L 231 [.e 0] n) (s : St) (hs : mu L s < n) (hq : stmtA (sgS L s) = none) (g : Nat) (vt : Value) (w : World) (h : PS L g vt w s) : Calls Tryz.prog 208 #[ptr g] w (StOk L g vt s w) := by
  have SG := hid (sign_any h); have SK := hid (fun W => kind_else (sgS L s) hq W); have HA := hid (stmt_else hq); have H0 := hid (On.start h); have XS := hid (fun W (hp : PS L g vt W s) => exprStmt_rd L n hE s hs g vt W hp); generalize strOf (sgS L s) = o at *; clear h hq hE hs; go_enter Tryz.func208, Tryz.ntmps208
  go_wp2_with fail
  refine SG.out.mono ?_; rintro e v1 ⟨rfl, hb⟩; have O1 := hid (H0.out.below hb); have HB := hid hb; clear hb SG; go_wp2_with fail
  refine (SK.out v1).mono ?_; rintro e v1' ⟨rfl, rfl⟩; go_wp2_with fail
  refine (XS.out _ O1.out.ps).mono ?_; rintro e v2 ⟨b, t, s2, hk, hst⟩; have HK := hid (hk.behind HB.out); have HST := hid hst; obtain ⟨rfl, -⟩ := hk; clear hst; go_wp2; go_ret; exact ⟨b, t, s2, ⟨rfl, HA.out.trans HK.out.leads, HK.out.ps, HK.out.only, HK.out.br, HK.out.le⟩, HST.out⟩
theorem stmt_rd (L : List Tk) (n : Nat) (hE : RdN L 231 [.e 0] (n + 1)) (hB : RdN L 184 [.blk] n) (s : St) (hs : mu L s ≤ n) : StRd L s := by
  intro g vt w h; have hE' : RdN L 231 [.e 0] n := fun s hs => hE s (Nat.lt_succ_of_lt hs)
  by_cases q : sgS L s = [108, 101, 116]
  · exact stmt_let L n hE' s hs q g vt w h
  have nlet := q; clear q; by_cases q : sgS L s = [105, 102]
  · exact stmt_if L n hE' hB s hs q g vt w h
  have nif := q; clear q; by_cases q : sgS L s = [119, 104, 105, 108, 101]
  · exact stmt_while L n hE' hB s hs q g vt w h
  have nwhile := q; clear q; by_cases q : sgS L s = [98, 114, 101, 97, 107]
  · exact stmt_break L s q g vt w h
  have nbreak := q; clear q; by_cases q : sgS L s = [99, 111, 110, 116, 105, 110, 117, 101]
  · exact stmt_continue L s q g vt w h
  have ncontinue := q; clear q; by_cases q : sgS L s = [121, 105, 101, 108, 100]
  · exact stmt_yield L s q g vt w h
  have nyield := q; clear q; by_cases q : sgS L s = [114, 101, 116, 117, 114, 110]
  · exact stmt_return L n hE' s hs q g vt w h
  have nreturn := q; clear q; by_cases q : sgS L s = [112, 117, 116]
  · exact stmt_put L n hE' s hs q g vt w h
  have nput := q; clear q; by_cases q : sgS L s = [101, 109, 105, 116]
  · exact stmt_emit L n hE' s hs q g vt w h
  have nemit := q; clear q
  exact stmt_else_rd L (n + 1) hE s (Nat.lt_succ_of_le hs) (by
    unfold stmtA
    rw [if_neg nlet, if_neg nif, if_neg nwhile, if_neg nbreak, if_neg ncontinue, if_neg nyield, if_neg nreturn, if_neg nput, if_neg nemit]) g vt w h
end Go.Proofs.YtmljjpdodcpohaaGreatDoor.Pa

