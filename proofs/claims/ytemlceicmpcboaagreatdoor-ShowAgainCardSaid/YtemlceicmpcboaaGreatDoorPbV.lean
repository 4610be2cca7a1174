/- The walk of stmt: let, while, if, and an expression. No condition but those that each states. -/
import Derived.Test.YtemlceicmpcboaaGreatDoorPbU
namespace Go.Proofs.YtemlceicmpcboaaGreatDoor.Pa
open Go.RowKit Dk Lx Tr

theorem let_lead {L : List Tk} (s : St) : Leads L [.letN] [] s [.mark [61], .e 0, .mark [59], .mk { nd 6 with name := (nameV L 1 s).text } 1] [] (needS L 1 s) :=
  need_lead .letN 1 [] s (fun t => [.mark [61], .e 0, .mark [59], .mk { nd 6 with name := t.text } 1]) (fun V i => by rw [← tx_getD]; rfl)
theorem strict_le {L : List Tk} {j : Nat} {s' : St} (h : j + 1 ≤ nx L s') : ∀ a b, (St.ok j) = .ok a → s' = .ok b → a < b := by
  intro a b ha hb
  cases ha
  rw [hb] at h
  exact h

set_option maxHeartbeats 8000000 in
set_option maxRecDepth 100000 in
theorem stmt_let (L : List Tk) (n : Nat) (hE : RdN L 203 [.e 0] n) (s : St) (hs : mu L s ≤ n) (hq : sgS L s = [108, 101, 116]) (g : Nat) (vt : Value) (w : World) (h : PS L g vt w s) : Calls Tryz.prog 178 #[ptr g] w (StOk L g vt s w) := by
  have SG := Lib.hid (sign_any h)
  rw [hq] at SG
  obtain ⟨j, rfl, hj, hjl⟩ := sgS_ok hq (by decide)
  have HA : Hid (Leads L [.stmt] [] (.ok j) [.letN] [] (.ok (j + 1))) := Lib.hid (stmt_key (by rw [hj]; rfl))
  have SK := Lib.hid (fun W => kind_let W)
  have G := Lib.hid (fun W => grow_any (nd 6) none 0 0 W)
  unfold nd Nd.cells at G
  have H0 := Lib.hid (On.start h)
  have HLT := Lib.hid h.lt
  have HJ := Lib.hid hjl
  have HFEW := Lib.hid h.few
  obtain ⟨i0, hi0, hy0, hy1, hy2⟩ := info_parts ptr_info3
  have z9 : (j : Int) ≤ 1000000 := by have := h.few; omega
  have HE := Lib.hid hE
  have HM := Lib.hid (Nat.lt_of_lt_of_le (mu_next hjl) hs)
  clear hE hs
  generalize strOf [108, 101, 116] = o at *
  clear h hq hj hjl
  go_enter Tryz.func178, Tryz.ntmps178
  go_wp2_with fail
  refine SG.out.mono ?_
  rintro e v1 ⟨rfl, hb⟩
  have O1 := Lib.hid (H0.out.below hb)
  clear hb SG
  go_wp2_with fail
  refine (SK.out v1).mono ?_
  rintro e v1' ⟨rfl, rfl⟩
  obtain ⟨-, c1, -, -⟩ := O1.out.ps.at
  obtain ⟨f1, -, -⟩ := O1.out.ps.free
  rw [show nx L (.ok j) = j from rfl] at c1
  have O2 := Lib.hid (O1.out.call (O1.out.ps.next HJ.out) (Only.of_setCell _))
  go_wp2_with fail
  generalize World.setCell _ _ _ = v3 at O2 ⊢
  clear c1 f1 SK
  refine (G.out _).mono ?_
  rintro e v4 ⟨bs, rfl, hb, hB, hbel⟩
  have O4 := Lib.hid (O2.out.below hbel)
  have F4 : Hid (FB w v4 bs (nd 6) 0 (.slice none 0 0) [] (.ok (j + 1))) := Lib.hid (FB.start (LR.nil w v3 _) O2.out.only.size hb hB hbel)
  clear hb hB hbel G
  have N := Lib.hid (name_rd O4.out.ps)
  have HL5 := Lib.hid (HA.out.trans (let_lead (.ok (j + 1))))
  have HLE5 := Lib.hid (need_le 1 O4.out.ps.le)
  have HAF5 : Hid (Aft (.ok (j + 1)) (needS L 1 (.ok (j + 1)))) := Lib.hid (fun _ _ => ⟨j + 1, rfl⟩)
  generalize (nameV L 1 (.ok (j + 1))).text = q at *
  generalize needS L 1 (.ok (j + 1)) = s5 at *
  go_wp2_with fail
  refine N.out.mono ?_
  rintro e v5 ⟨rfl, hp, ho⟩
  have O5 := Lib.hid (O4.out.call hp ho)
  have F5 := Lib.hid (FB.aft (FB.call F4.out ho HLT.out) HAF5.out)
  clear hp ho N F4 O4
  obtain ⟨-, -, c2, -⟩ := F5.out.bb.at
  have f2 := F5.out.bb.free 2 (by decide)
  have O6 := Lib.hid (O5.out.setCell bs F5.out.own 2 (.string (strOf q)))
  have F6 : Hid (FB w (v5.setCell ⟨bs, 2, none⟩ (.string (strOf q))) bs { nd 6 with name := q } 0 (.slice none 0 0) [] s5) := Lib.hid (FB.put 2 F5.out (by decide) rfl)
  have X6 := Lib.hid (expect_any [61] O6.out.ps (by decide))
  have HL6 : Hid (Leads L [.stmt] [] (.ok j) [.e 0, .mark [59], .mk { nd 6 with name := q } 1] [] (markS L [61] s5)) := Lib.hid (HL5.out.trans (by
    have := (Leads.mark (L := L) [61] s5).over [.e 0, .mark [59], .mk { nd 6 with name := q } 1] []
    exact this))
  have HLE6 : Hid (j + 1 ≤ nx L (markS L [61] s5)) := Lib.hid (Nat.le_trans HLE5.out (mark_le [61] O5.out.ps.le))
  have HAF6 : Hid (Aft s5 (markS L [61] s5)) := Lib.hid (Leads.mark (L := L) [61] s5).aft
  have E1 := Lib.hid (HE.out (markS L [61] s5) (Nat.lt_of_le_of_lt (mu_le (HAF5.out.trans HAF6.out) HLE6.out) HM.out))
  generalize markS L [61] s5 = s6 at *
  clear HL5 HA HE
  go_wp2_with fail
  generalize World.setCell _ _ _ = v6 at O6 F6 X6 ⊢
  clear c2 f2
  refine X6.out.mono ?_
  rintro e v7 ⟨rfl, hp, ho⟩
  have O4x := Lib.hid (O6.out.call hp ho)
  have F4x := Lib.hid (FB.aft (FB.call F6.out ho HLT.out) HAF6.out)
  clear hp ho X6
  have HJS : Hid (j ≤ nx L s6) := Lib.hid (Nat.le_trans (Nat.le_succ j) HLE6.out)
  have HRW : Hid (∀ W s', FB w W bs { nd 6 with name := q } 0 (Value.slice none 0 0) ([] : List (Nat × List Nd)) s' → ∀ b', (W.alloc (.cells #[ptr b'] 76)).ownsRow w.heap.size 76 1 (Value.slice none 0 0) 0 (bp ((([] : List (Nat × List Nd))).map (·.1)))) := Lib.hid (fun W s' hf b' => by have := hf.row.alloc (.cells #[ptr b'] 76); exact this)
  have HB3 : Hid (∀ W s', On L g vt w W s' → ∀ b', w.heap.size ≤ (W.alloc (.cells #[ptr b'] 76)).heap.size) := Lib.hid (fun W s' ho b' => by have := ho.only.size; simp; omega)
  go_upto_region 18 with fail
  obtain ⟨-, -, -, -, -, c5⟩ := F4x.out.bb.at
  go_region_law (first
    | (go_simp; go_at_call 203; refine (E1.out g vt _ (O4x.out.below (Below.refl _ _).drew).ps).mono ?_; rintro e w4 ⟨b', t', s4, hk⟩; obtain ⟨rfl, hl, hps, honly, hbr, hle⟩ := hk; have O4' := Lib.hid ((O4x.out.below (Below.refl _ _).drew).call hps honly); have F4' := Lib.hid (FB.aft (FB.call (FB.below F4x.out (Below.refl _ _).drew) honly HLT.out) hl.aft); have N4 := Lib.hid (Kids.add (Kids.nil w4 (fun k => (k < w.heap.size ∨ (Value.slice none 0 0).ownBlock = some k) ∨ k = bs) s4) (FB.news (FB.aft (FB.below F4x.out (Below.refl _ _).drew) hl.aft) hbr O4x.out.only.size)); have K4 := Lib.hid (And.intro hl hle); obtain ⟨-, -, -, -, -, c5'⟩ := F4'.out.bb.at; obtain ⟨-, -, -, -, -, c5a⟩ := (FB.below F4'.out ((Below.refl _ _).alloc (Nat.le_refl _) (.cells #[ptr b'] 76))).bb.at; have N1 := Lib.hid (news_at w4 #[ptr b'] 76); clear hl hps honly hbr hle)
    | (refine step_append_lies _ (by rfl) (.tmp 74) (.tmp 77) 116 (by rfl) w.heap.size 76 i0 (.pointer none) 1 8 Tryz.underlying116 hi0 hy0 hy1 hy2 (by rfl) (by decide) _ 0 (bp ((([] : List (Nat × List Nd))).map (·.1))) (by rfl) (HRW.out _ _ F4'.out _) ⟨w4.heap.size, 0, none⟩ 1 1 [ptr b'] (by rfl) (by rfl) N1.out (by simp [Value.oneCell']) (by decide) (by decide) (by decide) (HB3.out _ _ O4'.out _) (w4.heap.size + 1) (by simp) ?_; intro g' cap w7 hrow hgr hgl hlt7; have HA7 := Lib.hid (FB.app F4'.out ((Below.refl _ _).alloc (Nat.le_refl _) (.cells #[ptr b'] 76)) hgr); have HP := Lib.hid (FB.push F4'.out N4.out ((Below.refl _ _).alloc (Nat.le_refl _) (.cells #[ptr b'] 76)) rfl hrow hgr (hgl.imp id (fun e => e.trans (by simp)))); clear hrow hgr hgl hlt7; obtain ⟨-, -, -, -, -, c7⟩ := HA7.out.1.at; have f7 := HA7.out.1.free 5 (by decide)))
  all_goals
    have O5 := Lib.hid (On.fb O4'.out F4'.out HP.out.2)
    have F5 := Lib.hid HP.out.1
    have K5 : Hid (Leads1 L (.e 0) s6 t' s4) := Lib.hid K4.out
    clear HA7 HP c7 f7 c5 HRW HB3
    generalize t' = t5 at *
    generalize s4 = s5 at *
    have HL5 : Hid (Leads L [.stmt] [] (.ok j) [.mark [59], .mk { nd 6 with name := q } 1] [t5] s5) := Lib.hid ((HL6.out).trans (by
      have := K5.out.1.over [.mark [59], .mk { nd 6 with name := q } 1] []
      exact this))
    have HLJ : Hid (j ≤ nx L s5) := Lib.hid (Nat.le_trans HJS.out K5.out.2)
    have HL9 : Hid (Leads L [.stmt] [] (.ok j) [] [join { nd 6 with name := q } [t5]] (markS L [59] s5)) := Lib.hid ((HL5.out).trans ((by
      have := (Leads.mark (L := L) [59] s5).over [.mk { nd 6 with name := q } 1] [t5]
      exact this : Leads L [.mark [59], .mk { nd 6 with name := q } 1] [t5] s5 [.mk { nd 6 with name := q } 1] [t5] (markS L [59] s5)).trans (Leads.mk _ [t5] 1 rfl _)))
    have X := Lib.hid (fun W (hp : PS L g vt W s5) => expect_any [59] hp (by decide))
    have HAF : Hid (Aft s5 (markS L [59] s5)) := Lib.hid (Leads.mark (L := L) [59] s5).aft
    have HLE9 : Hid (nx L (.ok j) ≤ nx L (markS L [59] s5)) := Lib.hid (Nat.le_trans HLJ.out (mark_le [59] O5.out.ps.le))
    have HST : Hid (∀ a b, (St.ok j) = .ok a → markS L [59] s5 = .ok b → a < b) := Lib.hid (strict_of rfl HLJ.out)
    generalize markS L [59] s5 = s9 at *
    go_wp2_with fail
    refine (X.out _ O5.out.ps).mono ?_
    rintro e v9 ⟨rfl, hp, ho⟩
    have O9 := Lib.hid (O5.out.call hp ho)
    have S9 := Lib.hid (FB.sb (FB.aft (FB.call F5.out ho HLT.out) HAF.out))
    clear hp ho
    go_wp2
    go_ret
    exact ⟨bs, _, s9, ⟨rfl, HL9.out, O9.out.ps, O9.out.only, S9.out, HLE9.out⟩, HST.out⟩

end Go.Proofs.YtemlceicmpcboaaGreatDoor.Pa
