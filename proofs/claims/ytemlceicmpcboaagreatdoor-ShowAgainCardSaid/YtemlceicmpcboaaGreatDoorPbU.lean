/- The walk of stmt: statements that are a word, or a word and an expression. No condition but those that each states. -/
import Derived.Test.YtemlceicmpcboaaGreatDoorMgH
namespace Go.Proofs.YtemlceicmpcboaaGreatDoor.Pa
open Go.RowKit Dk Lx Tr

set_option maxHeartbeats 8000000 in
set_option maxRecDepth 100000 in
theorem stmt_break (L : List Tk) (s : St) (hq : sgS L s = [98, 114, 101, 97, 107]) (g : Nat) (vt : Value) (w : World) (h : PS L g vt w s) : Calls Tryz.prog 178 #[ptr g] w (StOk L g vt s w) := by
  have SG := Lib.hid (sign_any h)
  rw [hq] at SG
  obtain ⟨j, rfl, hj, hjl⟩ := sgS_ok hq (by decide)
  have HA : Hid (Leads L [.stmt] [] (.ok j) [.mark [59], .mk (nd 11) 0] [] (.ok (j + 1))) := Lib.hid (stmt_key (by rw [hj]; rfl))
  have SK := Lib.hid (fun W => kind_break W)
  have G := Lib.hid (fun W => grow_any (nd 11) none 0 0 W)
  unfold nd Nd.cells at G
  have H0 := Lib.hid (On.start h)
  have HLT := Lib.hid h.lt
  have HJ := Lib.hid hjl
  have HFEW := Lib.hid h.few
  obtain ⟨i0, hi0, hy0, hy1, hy2⟩ := info_parts ptr_info3
  have z9 : (j : Int) ≤ 1000000 := by have := h.few; omega
  generalize strOf [98, 114, 101, 97, 107] = o at *
  clear h hq hj hjl
  go_enter Tryz.func178, Tryz.ntmps178
  go_wp2_with fail
  refine SG.out.mono ?_
  rintro e v1 ⟨rfl, hb⟩
  have O1 := Lib.hid (H0.out.below hb)
  clear hb SG
  go_wp2_with fail
  refine (SK.out v1).mono ?_
  rintro e v1' ⟨rfl, rfl⟩
  obtain ⟨-, c1, -, -⟩ := O1.out.ps.at
  obtain ⟨f1, -, -⟩ := O1.out.ps.free
  rw [show nx L (.ok j) = j from rfl] at c1
  have O2 := Lib.hid (O1.out.call (O1.out.ps.next HJ.out) (Only.of_setCell _))
  go_wp2_with fail
  generalize World.setCell _ _ _ = v3 at O2 ⊢
  clear c1 f1 SK
  refine (G.out _).mono ?_
  rintro e v4 ⟨bs, rfl, hb, hB, hbel⟩
  have O4 := Lib.hid (O2.out.below hbel)
  have F4 : Hid (FB w v4 bs (nd 11) 0 (.slice none 0 0) [] (.ok (j + 1))) := Lib.hid (FB.start (LR.nil w v3 _) O2.out.only.size hb hB hbel)
  clear hb hB hbel G
  have HL9 : Hid (Leads L [.stmt] [] (.ok j) [] [join (nd 11) []] (markS L [59] (.ok (j + 1)))) := Lib.hid ((HA.out).trans ((by
    have := (Leads.mark (L := L) [59] (.ok (j + 1))).over [.mk (nd 11) 0] []
    exact this : Leads L [.mark [59], .mk (nd 11) 0] [] (.ok (j + 1)) [.mk (nd 11) 0] [] (markS L [59] (.ok (j + 1)))).trans (Leads.mk _ [] 0 rfl _)))
  have X := Lib.hid (fun W (hp : PS L g vt W (.ok (j + 1))) => expect_any [59] hp (by decide))
  have HAF : Hid (Aft (.ok (j + 1)) (markS L [59] (.ok (j + 1)))) := Lib.hid (Leads.mark (L := L) [59] (.ok (j + 1))).aft
  have HLE9 : Hid (nx L (.ok j) ≤ nx L (markS L [59] (.ok (j + 1)))) := Lib.hid (Nat.le_trans (Nat.le_succ j) (mark_le [59] O4.out.ps.le))
  have HST : Hid (∀ a b, (St.ok j) = .ok a → markS L [59] (.ok (j + 1)) = .ok b → a < b) := Lib.hid (strict_of rfl (Nat.le_succ j))
  generalize markS L [59] (.ok (j + 1)) = s9 at *
  go_wp2_with fail
  refine (X.out _ O4.out.ps).mono ?_
  rintro e v9 ⟨rfl, hp, ho⟩
  have O9 := Lib.hid (O4.out.call hp ho)
  have S9 := Lib.hid (FB.sb (FB.aft (FB.call F4.out ho HLT.out) HAF.out))
  clear hp ho
  go_wp2
  go_ret
  exact ⟨bs, _, s9, ⟨rfl, HL9.out, O9.out.ps, O9.out.only, S9.out, HLE9.out⟩, HST.out⟩

set_option maxHeartbeats 8000000 in
set_option maxRecDepth 100000 in
theorem stmt_continue (L : List Tk) (s : St) (hq : sgS L s = [99, 111, 110, 116, 105, 110, 117, 101]) (g : Nat) (vt : Value) (w : World) (h : PS L g vt w s) : Calls Tryz.prog 178 #[ptr g] w (StOk L g vt s w) := by
  have SG := Lib.hid (sign_any h)
  rw [hq] at SG
  obtain ⟨j, rfl, hj, hjl⟩ := sgS_ok hq (by decide)
  have HA : Hid (Leads L [.stmt] [] (.ok j) [.mark [59], .mk (nd 12) 0] [] (.ok (j + 1))) := Lib.hid (stmt_key (by rw [hj]; rfl))
  have SK := Lib.hid (fun W => kind_continue W)
  have G := Lib.hid (fun W => grow_any (nd 12) none 0 0 W)
  unfold nd Nd.cells at G
  have H0 := Lib.hid (On.start h)
  have HLT := Lib.hid h.lt
  have HJ := Lib.hid hjl
  have HFEW := Lib.hid h.few
  obtain ⟨i0, hi0, hy0, hy1, hy2⟩ := info_parts ptr_info3
  have z9 : (j : Int) ≤ 1000000 := by have := h.few; omega
  generalize strOf [99, 111, 110, 116, 105, 110, 117, 101] = o at *
  clear h hq hj hjl
  go_enter Tryz.func178, Tryz.ntmps178
  go_wp2_with fail
  refine SG.out.mono ?_
  rintro e v1 ⟨rfl, hb⟩
  have O1 := Lib.hid (H0.out.below hb)
  clear hb SG
  go_wp2_with fail
  refine (SK.out v1).mono ?_
  rintro e v1' ⟨rfl, rfl⟩
  obtain ⟨-, c1, -, -⟩ := O1.out.ps.at
  obtain ⟨f1, -, -⟩ := O1.out.ps.free
  rw [show nx L (.ok j) = j from rfl] at c1
  have O2 := Lib.hid (O1.out.call (O1.out.ps.next HJ.out) (Only.of_setCell _))
  go_wp2_with fail
  generalize World.setCell _ _ _ = v3 at O2 ⊢
  clear c1 f1 SK
  refine (G.out _).mono ?_
  rintro e v4 ⟨bs, rfl, hb, hB, hbel⟩
  have O4 := Lib.hid (O2.out.below hbel)
  have F4 : Hid (FB w v4 bs (nd 12) 0 (.slice none 0 0) [] (.ok (j + 1))) := Lib.hid (FB.start (LR.nil w v3 _) O2.out.only.size hb hB hbel)
  clear hb hB hbel G
  have HL9 : Hid (Leads L [.stmt] [] (.ok j) [] [join (nd 12) []] (markS L [59] (.ok (j + 1)))) := Lib.hid ((HA.out).trans ((by
    have := (Leads.mark (L := L) [59] (.ok (j + 1))).over [.mk (nd 12) 0] []
    exact this : Leads L [.mark [59], .mk (nd 12) 0] [] (.ok (j + 1)) [.mk (nd 12) 0] [] (markS L [59] (.ok (j + 1)))).trans (Leads.mk _ [] 0 rfl _)))
  have X := Lib.hid (fun W (hp : PS L g vt W (.ok (j + 1))) => expect_any [59] hp (by decide))
  have HAF : Hid (Aft (.ok (j + 1)) (markS L [59] (.ok (j + 1)))) := Lib.hid (Leads.mark (L := L) [59] (.ok (j + 1))).aft
  have HLE9 : Hid (nx L (.ok j) ≤ nx L (markS L [59] (.ok (j + 1)))) := Lib.hid (Nat.le_trans (Nat.le_succ j) (mark_le [59] O4.out.ps.le))
  have HST : Hid (∀ a b, (St.ok j) = .ok a → markS L [59] (.ok (j + 1)) = .ok b → a < b) := Lib.hid (strict_of rfl (Nat.le_succ j))
  generalize markS L [59] (.ok (j + 1)) = s9 at *
  go_wp2_with fail
  refine (X.out _ O4.out.ps).mono ?_
  rintro e v9 ⟨rfl, hp, ho⟩
  have O9 := Lib.hid (O4.out.call hp ho)
  have S9 := Lib.hid (FB.sb (FB.aft (FB.call F4.out ho HLT.out) HAF.out))
  clear hp ho
  go_wp2
  go_ret
  exact ⟨bs, _, s9, ⟨rfl, HL9.out, O9.out.ps, O9.out.only, S9.out, HLE9.out⟩, HST.out⟩

set_option maxHeartbeats 8000000 in
set_option maxRecDepth 100000 in
theorem stmt_yield (L : List Tk) (s : St) (hq : sgS L s = [121, 105, 101, 108, 100]) (g : Nat) (vt : Value) (w : World) (h : PS L g vt w s) : Calls Tryz.prog 178 #[ptr g] w (StOk L g vt s w) := by
  have SG := Lib.hid (sign_any h)
  rw [hq] at SG
  obtain ⟨j, rfl, hj, hjl⟩ := sgS_ok hq (by decide)
  have HA : Hid (Leads L [.stmt] [] (.ok j) [.mark [59], .mk (nd 16) 0] [] (.ok (j + 1))) := Lib.hid (stmt_key (by rw [hj]; rfl))
  have SK := Lib.hid (fun W => kind_yield W)
  have G := Lib.hid (fun W => grow_any (nd 16) none 0 0 W)
  unfold nd Nd.cells at G
  have H0 := Lib.hid (On.start h)
  have HLT := Lib.hid h.lt
  have HJ := Lib.hid hjl
  have HFEW := Lib.hid h.few
  obtain ⟨i0, hi0, hy0, hy1, hy2⟩ := info_parts ptr_info3
  have z9 : (j : Int) ≤ 1000000 := by have := h.few; omega
  generalize strOf [121, 105, 101, 108, 100] = o at *
  clear h hq hj hjl
  go_enter Tryz.func178, Tryz.ntmps178
  go_wp2_with fail
  refine SG.out.mono ?_
  rintro e v1 ⟨rfl, hb⟩
  have O1 := Lib.hid (H0.out.below hb)
  clear hb SG
  go_wp2_with fail
  refine (SK.out v1).mono ?_
  rintro e v1' ⟨rfl, rfl⟩
  obtain ⟨-, c1, -, -⟩ := O1.out.ps.at
  obtain ⟨f1, -, -⟩ := O1.out.ps.free
  rw [show nx L (.ok j) = j from rfl] at c1
  have O2 := Lib.hid (O1.out.call (O1.out.ps.next HJ.out) (Only.of_setCell _))
  go_wp2_with fail
  generalize World.setCell _ _ _ = v3 at O2 ⊢
  clear c1 f1 SK
  refine (G.out _).mono ?_
  rintro e v4 ⟨bs, rfl, hb, hB, hbel⟩
  have O4 := Lib.hid (O2.out.below hbel)
  have F4 : Hid (FB w v4 bs (nd 16) 0 (.slice none 0 0) [] (.ok (j + 1))) := Lib.hid (FB.start (LR.nil w v3 _) O2.out.only.size hb hB hbel)
  clear hb hB hbel G
  have HL9 : Hid (Leads L [.stmt] [] (.ok j) [] [join (nd 16) []] (markS L [59] (.ok (j + 1)))) := Lib.hid ((HA.out).trans ((by
    have := (Leads.mark (L := L) [59] (.ok (j + 1))).over [.mk (nd 16) 0] []
    exact this : Leads L [.mark [59], .mk (nd 16) 0] [] (.ok (j + 1)) [.mk (nd 16) 0] [] (markS L [59] (.ok (j + 1)))).trans (Leads.mk _ [] 0 rfl _)))
  have X := Lib.hid (fun W (hp : PS L g vt W (.ok (j + 1))) => expect_any [59] hp (by decide))
  have HAF : Hid (Aft (.ok (j + 1)) (markS L [59] (.ok (j + 1)))) := Lib.hid (Leads.mark (L := L) [59] (.ok (j + 1))).aft
  have HLE9 : Hid (nx L (.ok j) ≤ nx L (markS L [59] (.ok (j + 1)))) := Lib.hid (Nat.le_trans (Nat.le_succ j) (mark_le [59] O4.out.ps.le))
  have HST : Hid (∀ a b, (St.ok j) = .ok a → markS L [59] (.ok (j + 1)) = .ok b → a < b) := Lib.hid (strict_of rfl (Nat.le_succ j))
  generalize markS L [59] (.ok (j + 1)) = s9 at *
  go_wp2_with fail
  refine (X.out _ O4.out.ps).mono ?_
  rintro e v9 ⟨rfl, hp, ho⟩
  have O9 := Lib.hid (O4.out.call hp ho)
  have S9 := Lib.hid (FB.sb (FB.aft (FB.call F4.out ho HLT.out) HAF.out))
  clear hp ho
  go_wp2
  go_ret
  exact ⟨bs, _, s9, ⟨rfl, HL9.out, O9.out.ps, O9.out.only, S9.out, HLE9.out⟩, HST.out⟩

/-- One reader's part. -/
def Leads1 (L : List Tk) (a : Sy) (s : St) (t : List Nd) (s' : St) : Prop := Leads L [a] [] s [] [t] s' ∧ nx L s ≤ nx L s'

set_option maxHeartbeats 8000000 in
set_option maxRecDepth 100000 in
theorem stmt_return (L : List Tk) (n : Nat) (hE : RdN L 203 [.e 0] n) (s : St) (hs : mu L s ≤ n) (hq : sgS L s = [114, 101, 116, 117, 114, 110]) (g : Nat) (vt : Value) (w : World) (h : PS L g vt w s) : Calls Tryz.prog 178 #[ptr g] w (StOk L g vt s w) := by
  have SG := Lib.hid (sign_any h)
  rw [hq] at SG
  obtain ⟨j, rfl, hj, hjl⟩ := sgS_ok hq (by decide)
  have HA : Hid (Leads L [.stmt] [] (.ok j) [.e 0, .mark [59], .mk (nd 13) 1] [] (.ok (j + 1))) := Lib.hid (stmt_key (by rw [hj]; rfl))
  have SK := Lib.hid (fun W => kind_return W)
  have G := Lib.hid (fun W => grow_any (nd 13) none 0 0 W)
  unfold nd Nd.cells at G
  have H0 := Lib.hid (On.start h)
  have HLT := Lib.hid h.lt
  have HJ := Lib.hid hjl
  have HFEW := Lib.hid h.few
  obtain ⟨i0, hi0, hy0, hy1, hy2⟩ := info_parts ptr_info3
  have z9 : (j : Int) ≤ 1000000 := by have := h.few; omega
  have E1 := Lib.hid (hE (.ok (j + 1)) (Nat.lt_of_lt_of_le (mu_next hjl) hs))
  clear hE hs
  generalize strOf [114, 101, 116, 117, 114, 110] = o at *
  clear h hq hj hjl
  go_enter Tryz.func178, Tryz.ntmps178
  go_wp2_with fail
  refine SG.out.mono ?_
  rintro e v1 ⟨rfl, hb⟩
  have O1 := Lib.hid (H0.out.below hb)
  clear hb SG
  go_wp2_with fail
  refine (SK.out v1).mono ?_
  rintro e v1' ⟨rfl, rfl⟩
  obtain ⟨-, c1, -, -⟩ := O1.out.ps.at
  obtain ⟨f1, -, -⟩ := O1.out.ps.free
  rw [show nx L (.ok j) = j from rfl] at c1
  have O2 := Lib.hid (O1.out.call (O1.out.ps.next HJ.out) (Only.of_setCell _))
  go_wp2_with fail
  generalize World.setCell _ _ _ = v3 at O2 ⊢
  clear c1 f1 SK
  refine (G.out _).mono ?_
  rintro e v4 ⟨bs, rfl, hb, hB, hbel⟩
  have O4 := Lib.hid (O2.out.below hbel)
  have F4 : Hid (FB w v4 bs (nd 13) 0 (.slice none 0 0) [] (.ok (j + 1))) := Lib.hid (FB.start (LR.nil w v3 _) O2.out.only.size hb hB hbel)
  clear hb hB hbel G
  have HJS := Lib.hid (Nat.le_succ j)
  have O4x := O4
  have F4x := F4
  clear O4 F4
  have HRW : Hid (∀ W s', FB w W bs (nd 13) 0 (Value.slice none 0 0) ([] : List (Nat × List Nd)) s' → ∀ b', (W.alloc (.cells #[ptr b'] 76)).ownsRow w.heap.size 76 1 (Value.slice none 0 0) 0 (bp ((([] : List (Nat × List Nd))).map (·.1)))) := Lib.hid (fun W s' hf b' => by have := hf.row.alloc (.cells #[ptr b'] 76); exact this)
  have HB3 : Hid (∀ W s', On L g vt w W s' → ∀ b', w.heap.size ≤ (W.alloc (.cells #[ptr b'] 76)).heap.size) := Lib.hid (fun W s' ho b' => by have := ho.only.size; simp; omega)
  go_upto_region 18 with fail
  obtain ⟨-, -, -, -, -, c5⟩ := F4x.out.bb.at
  go_region_law (first
    | (go_simp; go_at_call 203; refine (E1.out g vt _ (O4x.out.below (Below.refl _ _).drew).ps).mono ?_; rintro e w4 ⟨b', t', s4, hk⟩; obtain ⟨rfl, hl, hps, honly, hbr, hle⟩ := hk; have O4' := Lib.hid ((O4x.out.below (Below.refl _ _).drew).call hps honly); have F4' := Lib.hid (FB.aft (FB.call (FB.below F4x.out (Below.refl _ _).drew) honly HLT.out) hl.aft); have N4 := Lib.hid (Kids.add (Kids.nil w4 (fun k => (k < w.heap.size ∨ (Value.slice none 0 0).ownBlock = some k) ∨ k = bs) s4) (FB.news (FB.aft (FB.below F4x.out (Below.refl _ _).drew) hl.aft) hbr O4x.out.only.size)); have K4 := Lib.hid (And.intro hl hle); obtain ⟨-, -, -, -, -, c5'⟩ := F4'.out.bb.at; obtain ⟨-, -, -, -, -, c5a⟩ := (FB.below F4'.out ((Below.refl _ _).alloc (Nat.le_refl _) (.cells #[ptr b'] 76))).bb.at; have N1 := Lib.hid (news_at w4 #[ptr b'] 76); clear hl hps honly hbr hle)
    | (refine step_append_lies _ (by rfl) (.tmp 74) (.tmp 77) 116 (by rfl) w.heap.size 76 i0 (.pointer none) 1 8 Tryz.underlying116 hi0 hy0 hy1 hy2 (by rfl) (by decide) _ 0 (bp ((([] : List (Nat × List Nd))).map (·.1))) (by rfl) (HRW.out _ _ F4'.out _) ⟨w4.heap.size, 0, none⟩ 1 1 [ptr b'] (by rfl) (by rfl) N1.out (by simp [Value.oneCell']) (by decide) (by decide) (by decide) (HB3.out _ _ O4'.out _) (w4.heap.size + 1) (by simp) ?_; intro g' cap w7 hrow hgr hgl hlt7; have HA7 := Lib.hid (FB.app F4'.out ((Below.refl _ _).alloc (Nat.le_refl _) (.cells #[ptr b'] 76)) hgr); have HP := Lib.hid (FB.push F4'.out N4.out ((Below.refl _ _).alloc (Nat.le_refl _) (.cells #[ptr b'] 76)) rfl hrow hgr (hgl.imp id (fun e => e.trans (by simp)))); clear hrow hgr hgl hlt7; obtain ⟨-, -, -, -, -, c7⟩ := HA7.out.1.at; have f7 := HA7.out.1.free 5 (by decide)))
  all_goals
    have O5 := Lib.hid (On.fb O4'.out F4'.out HP.out.2)
    have F5 := Lib.hid HP.out.1
    have K5 : Hid (Leads1 L (.e 0) (.ok (j + 1)) t' s4) := Lib.hid K4.out
    clear HA7 HP c7 f7 c5 HRW HB3
    generalize t' = t5 at *
    generalize s4 = s5 at *
    have HL5 : Hid (Leads L [.stmt] [] (.ok j) [.mark [59], .mk (nd 13) 1] [t5] s5) := Lib.hid ((HA.out).trans (by
      have := K5.out.1.over [.mark [59], .mk (nd 13) 1] []
      exact this))
    have HLJ : Hid (j ≤ nx L s5) := Lib.hid (Nat.le_trans HJS.out K5.out.2)
    have HL9 : Hid (Leads L [.stmt] [] (.ok j) [] [join (nd 13) [t5]] (markS L [59] s5)) := Lib.hid ((HL5.out).trans ((by
      have := (Leads.mark (L := L) [59] s5).over [.mk (nd 13) 1] [t5]
      exact this : Leads L [.mark [59], .mk (nd 13) 1] [t5] s5 [.mk (nd 13) 1] [t5] (markS L [59] s5)).trans (Leads.mk _ [t5] 1 rfl _)))
    have X := Lib.hid (fun W (hp : PS L g vt W s5) => expect_any [59] hp (by decide))
    have HAF : Hid (Aft s5 (markS L [59] s5)) := Lib.hid (Leads.mark (L := L) [59] s5).aft
    have HLE9 : Hid (nx L (.ok j) ≤ nx L (markS L [59] s5)) := Lib.hid (Nat.le_trans HLJ.out (mark_le [59] O5.out.ps.le))
    have HST : Hid (∀ a b, (St.ok j) = .ok a → markS L [59] s5 = .ok b → a < b) := Lib.hid (strict_of rfl HLJ.out)
    generalize markS L [59] s5 = s9 at *
    go_wp2_with fail
    refine (X.out _ O5.out.ps).mono ?_
    rintro e v9 ⟨rfl, hp, ho⟩
    have O9 := Lib.hid (O5.out.call hp ho)
    have S9 := Lib.hid (FB.sb (FB.aft (FB.call F5.out ho HLT.out) HAF.out))
    clear hp ho
    go_wp2
    go_ret
    exact ⟨bs, _, s9, ⟨rfl, HL9.out, O9.out.ps, O9.out.only, S9.out, HLE9.out⟩, HST.out⟩

set_option maxHeartbeats 8000000 in
set_option maxRecDepth 100000 in
theorem stmt_put (L : List Tk) (n : Nat) (hE : RdN L 203 [.e 0] n) (s : St) (hs : mu L s ≤ n) (hq : sgS L s = [112, 117, 116]) (g : Nat) (vt : Value) (w : World) (h : PS L g vt w s) : Calls Tryz.prog 178 #[ptr g] w (StOk L g vt s w) := by
  have SG := Lib.hid (sign_any h)
  rw [hq] at SG
  obtain ⟨j, rfl, hj, hjl⟩ := sgS_ok hq (by decide)
  have HA : Hid (Leads L [.stmt] [] (.ok j) [.e 0, .mark [59], .mk (nd 14) 1] [] (.ok (j + 1))) := Lib.hid (stmt_key (by rw [hj]; rfl))
  have SK := Lib.hid (fun W => kind_put W)
  have G := Lib.hid (fun W => grow_any (nd 14) none 0 0 W)
  unfold nd Nd.cells at G
  have H0 := Lib.hid (On.start h)
  have HLT := Lib.hid h.lt
  have HJ := Lib.hid hjl
  have HFEW := Lib.hid h.few
  obtain ⟨i0, hi0, hy0, hy1, hy2⟩ := info_parts ptr_info3
  have z9 : (j : Int) ≤ 1000000 := by have := h.few; omega
  have E1 := Lib.hid (hE (.ok (j + 1)) (Nat.lt_of_lt_of_le (mu_next hjl) hs))
  clear hE hs
  generalize strOf [112, 117, 116] = o at *
  clear h hq hj hjl
  go_enter Tryz.func178, Tryz.ntmps178
  go_wp2_with fail
  refine SG.out.mono ?_
  rintro e v1 ⟨rfl, hb⟩
  have O1 := Lib.hid (H0.out.below hb)
  clear hb SG
  go_wp2_with fail
  refine (SK.out v1).mono ?_
  rintro e v1' ⟨rfl, rfl⟩
  obtain ⟨-, c1, -, -⟩ := O1.out.ps.at
  obtain ⟨f1, -, -⟩ := O1.out.ps.free
  rw [show nx L (.ok j) = j from rfl] at c1
  have O2 := Lib.hid (O1.out.call (O1.out.ps.next HJ.out) (Only.of_setCell _))
  go_wp2_with fail
  generalize World.setCell _ _ _ = v3 at O2 ⊢
  clear c1 f1 SK
  refine (G.out _).mono ?_
  rintro e v4 ⟨bs, rfl, hb, hB, hbel⟩
  have O4 := Lib.hid (O2.out.below hbel)
  have F4 : Hid (FB w v4 bs (nd 14) 0 (.slice none 0 0) [] (.ok (j + 1))) := Lib.hid (FB.start (LR.nil w v3 _) O2.out.only.size hb hB hbel)
  clear hb hB hbel G
  have HJS := Lib.hid (Nat.le_succ j)
  have O4x := O4
  have F4x := F4
  clear O4 F4
  have HRW : Hid (∀ W s', FB w W bs (nd 14) 0 (Value.slice none 0 0) ([] : List (Nat × List Nd)) s' → ∀ b', (W.alloc (.cells #[ptr b'] 76)).ownsRow w.heap.size 76 1 (Value.slice none 0 0) 0 (bp ((([] : List (Nat × List Nd))).map (·.1)))) := Lib.hid (fun W s' hf b' => by have := hf.row.alloc (.cells #[ptr b'] 76); exact this)
  have HB3 : Hid (∀ W s', On L g vt w W s' → ∀ b', w.heap.size ≤ (W.alloc (.cells #[ptr b'] 76)).heap.size) := Lib.hid (fun W s' ho b' => by have := ho.only.size; simp; omega)
  go_upto_region 18 with fail
  obtain ⟨-, -, -, -, -, c5⟩ := F4x.out.bb.at
  go_region_law (first
    | (go_simp; go_at_call 203; refine (E1.out g vt _ (O4x.out.below (Below.refl _ _).drew).ps).mono ?_; rintro e w4 ⟨b', t', s4, hk⟩; obtain ⟨rfl, hl, hps, honly, hbr, hle⟩ := hk; have O4' := Lib.hid ((O4x.out.below (Below.refl _ _).drew).call hps honly); have F4' := Lib.hid (FB.aft (FB.call (FB.below F4x.out (Below.refl _ _).drew) honly HLT.out) hl.aft); have N4 := Lib.hid (Kids.add (Kids.nil w4 (fun k => (k < w.heap.size ∨ (Value.slice none 0 0).ownBlock = some k) ∨ k = bs) s4) (FB.news (FB.aft (FB.below F4x.out (Below.refl _ _).drew) hl.aft) hbr O4x.out.only.size)); have K4 := Lib.hid (And.intro hl hle); obtain ⟨-, -, -, -, -, c5'⟩ := F4'.out.bb.at; obtain ⟨-, -, -, -, -, c5a⟩ := (FB.below F4'.out ((Below.refl _ _).alloc (Nat.le_refl _) (.cells #[ptr b'] 76))).bb.at; have N1 := Lib.hid (news_at w4 #[ptr b'] 76); clear hl hps honly hbr hle)
    | (refine step_append_lies _ (by rfl) (.tmp 74) (.tmp 77) 116 (by rfl) w.heap.size 76 i0 (.pointer none) 1 8 Tryz.underlying116 hi0 hy0 hy1 hy2 (by rfl) (by decide) _ 0 (bp ((([] : List (Nat × List Nd))).map (·.1))) (by rfl) (HRW.out _ _ F4'.out _) ⟨w4.heap.size, 0, none⟩ 1 1 [ptr b'] (by rfl) (by rfl) N1.out (by simp [Value.oneCell']) (by decide) (by decide) (by decide) (HB3.out _ _ O4'.out _) (w4.heap.size + 1) (by simp) ?_; intro g' cap w7 hrow hgr hgl hlt7; have HA7 := Lib.hid (FB.app F4'.out ((Below.refl _ _).alloc (Nat.le_refl _) (.cells #[ptr b'] 76)) hgr); have HP := Lib.hid (FB.push F4'.out N4.out ((Below.refl _ _).alloc (Nat.le_refl _) (.cells #[ptr b'] 76)) rfl hrow hgr (hgl.imp id (fun e => e.trans (by simp)))); clear hrow hgr hgl hlt7; obtain ⟨-, -, -, -, -, c7⟩ := HA7.out.1.at; have f7 := HA7.out.1.free 5 (by decide)))
  all_goals
    have O5 := Lib.hid (On.fb O4'.out F4'.out HP.out.2)
    have F5 := Lib.hid HP.out.1
    have K5 : Hid (Leads1 L (.e 0) (.ok (j + 1)) t' s4) := Lib.hid K4.out
    clear HA7 HP c7 f7 c5 HRW HB3
    generalize t' = t5 at *
    generalize s4 = s5 at *
    have HL5 : Hid (Leads L [.stmt] [] (.ok j) [.mark [59], .mk (nd 14) 1] [t5] s5) := Lib.hid ((HA.out).trans (by
      have := K5.out.1.over [.mark [59], .mk (nd 14) 1] []
      exact this))
    have HLJ : Hid (j ≤ nx L s5) := Lib.hid (Nat.le_trans HJS.out K5.out.2)
    have HL9 : Hid (Leads L [.stmt] [] (.ok j) [] [join (nd 14) [t5]] (markS L [59] s5)) := Lib.hid ((HL5.out).trans ((by
      have := (Leads.mark (L := L) [59] s5).over [.mk (nd 14) 1] [t5]
      exact this : Leads L [.mark [59], .mk (nd 14) 1] [t5] s5 [.mk (nd 14) 1] [t5] (markS L [59] s5)).trans (Leads.mk _ [t5] 1 rfl _)))
    have X := Lib.hid (fun W (hp : PS L g vt W s5) => expect_any [59] hp (by decide))
    have HAF : Hid (Aft s5 (markS L [59] s5)) := Lib.hid (Leads.mark (L := L) [59] s5).aft
    have HLE9 : Hid (nx L (.ok j) ≤ nx L (markS L [59] s5)) := Lib.hid (Nat.le_trans HLJ.out (mark_le [59] O5.out.ps.le))
    have HST : Hid (∀ a b, (St.ok j) = .ok a → markS L [59] s5 = .ok b → a < b) := Lib.hid (strict_of rfl HLJ.out)
    generalize markS L [59] s5 = s9 at *
    go_wp2_with fail
    refine (X.out _ O5.out.ps).mono ?_
    rintro e v9 ⟨rfl, hp, ho⟩
    have O9 := Lib.hid (O5.out.call hp ho)
    have S9 := Lib.hid (FB.sb (FB.aft (FB.call F5.out ho HLT.out) HAF.out))
    clear hp ho
    go_wp2
    go_ret
    exact ⟨bs, _, s9, ⟨rfl, HL9.out, O9.out.ps, O9.out.only, S9.out, HLE9.out⟩, HST.out⟩

set_option maxHeartbeats 8000000 in
set_option maxRecDepth 100000 in
theorem stmt_emit (L : List Tk) (n : Nat) (hE : RdN L 203 [.e 0] n) (s : St) (hs : mu L s ≤ n) (hq : sgS L s = [101, 109, 105, 116]) (g : Nat) (vt : Value) (w : World) (h : PS L g vt w s) : Calls Tryz.prog 178 #[ptr g] w (StOk L g vt s w) := by
  have SG := Lib.hid (sign_any h)
  rw [hq] at SG
  obtain ⟨j, rfl, hj, hjl⟩ := sgS_ok hq (by decide)
  have HA : Hid (Leads L [.stmt] [] (.ok j) [.e 0, .mark [59], .mk (nd 15) 1] [] (.ok (j + 1))) := Lib.hid (stmt_key (by rw [hj]; rfl))
  have SK := Lib.hid (fun W => kind_emit W)
  have G := Lib.hid (fun W => grow_any (nd 15) none 0 0 W)
  unfold nd Nd.cells at G
  have H0 := Lib.hid (On.start h)
  have HLT := Lib.hid h.lt
  have HJ := Lib.hid hjl
  have HFEW := Lib.hid h.few
  obtain ⟨i0, hi0, hy0, hy1, hy2⟩ := info_parts ptr_info3
  have z9 : (j : Int) ≤ 1000000 := by have := h.few; omega
  have E1 := Lib.hid (hE (.ok (j + 1)) (Nat.lt_of_lt_of_le (mu_next hjl) hs))
  clear hE hs
  generalize strOf [101, 109, 105, 116] = o at *
  clear h hq hj hjl
  go_enter Tryz.func178, Tryz.ntmps178
  go_wp2_with fail
  refine SG.out.mono ?_
  rintro e v1 ⟨rfl, hb⟩
  have O1 := Lib.hid (H0.out.below hb)
  clear hb SG
  go_wp2_with fail
  refine (SK.out v1).mono ?_
  rintro e v1' ⟨rfl, rfl⟩
  obtain ⟨-, c1, -, -⟩ := O1.out.ps.at
  obtain ⟨f1, -, -⟩ := O1.out.ps.free
  rw [show nx L (.ok j) = j from rfl] at c1
  have O2 := Lib.hid (O1.out.call (O1.out.ps.next HJ.out) (Only.of_setCell _))
  go_wp2_with fail
  generalize World.setCell _ _ _ = v3 at O2 ⊢
  clear c1 f1 SK
  refine (G.out _).mono ?_
  rintro e v4 ⟨bs, rfl, hb, hB, hbel⟩
  have O4 := Lib.hid (O2.out.below hbel)
  have F4 : Hid (FB w v4 bs (nd 15) 0 (.slice none 0 0) [] (.ok (j + 1))) := Lib.hid (FB.start (LR.nil w v3 _) O2.out.only.size hb hB hbel)
  clear hb hB hbel G
  have HJS := Lib.hid (Nat.le_succ j)
  have O4x := O4
  have F4x := F4
  clear O4 F4
  have HRW : Hid (∀ W s', FB w W bs (nd 15) 0 (Value.slice none 0 0) ([] : List (Nat × List Nd)) s' → ∀ b', (W.alloc (.cells #[ptr b'] 76)).ownsRow w.heap.size 76 1 (Value.slice none 0 0) 0 (bp ((([] : List (Nat × List Nd))).map (·.1)))) := Lib.hid (fun W s' hf b' => by have := hf.row.alloc (.cells #[ptr b'] 76); exact this)
  have HB3 : Hid (∀ W s', On L g vt w W s' → ∀ b', w.heap.size ≤ (W.alloc (.cells #[ptr b'] 76)).heap.size) := Lib.hid (fun W s' ho b' => by have := ho.only.size; simp; omega)
  go_upto_region 18 with fail
  obtain ⟨-, -, -, -, -, c5⟩ := F4x.out.bb.at
  go_region_law (first
    | (go_simp; go_at_call 203; refine (E1.out g vt _ (O4x.out.below (Below.refl _ _).drew).ps).mono ?_; rintro e w4 ⟨b', t', s4, hk⟩; obtain ⟨rfl, hl, hps, honly, hbr, hle⟩ := hk; have O4' := Lib.hid ((O4x.out.below (Below.refl _ _).drew).call hps honly); have F4' := Lib.hid (FB.aft (FB.call (FB.below F4x.out (Below.refl _ _).drew) honly HLT.out) hl.aft); have N4 := Lib.hid (Kids.add (Kids.nil w4 (fun k => (k < w.heap.size ∨ (Value.slice none 0 0).ownBlock = some k) ∨ k = bs) s4) (FB.news (FB.aft (FB.below F4x.out (Below.refl _ _).drew) hl.aft) hbr O4x.out.only.size)); have K4 := Lib.hid (And.intro hl hle); obtain ⟨-, -, -, -, -, c5'⟩ := F4'.out.bb.at; obtain ⟨-, -, -, -, -, c5a⟩ := (FB.below F4'.out ((Below.refl _ _).alloc (Nat.le_refl _) (.cells #[ptr b'] 76))).bb.at; have N1 := Lib.hid (news_at w4 #[ptr b'] 76); clear hl hps honly hbr hle)
    | (refine step_append_lies _ (by rfl) (.tmp 74) (.tmp 77) 116 (by rfl) w.heap.size 76 i0 (.pointer none) 1 8 Tryz.underlying116 hi0 hy0 hy1 hy2 (by rfl) (by decide) _ 0 (bp ((([] : List (Nat × List Nd))).map (·.1))) (by rfl) (HRW.out _ _ F4'.out _) ⟨w4.heap.size, 0, none⟩ 1 1 [ptr b'] (by rfl) (by rfl) N1.out (by simp [Value.oneCell']) (by decide) (by decide) (by decide) (HB3.out _ _ O4'.out _) (w4.heap.size + 1) (by simp) ?_; intro g' cap w7 hrow hgr hgl hlt7; have HA7 := Lib.hid (FB.app F4'.out ((Below.refl _ _).alloc (Nat.le_refl _) (.cells #[ptr b'] 76)) hgr); have HP := Lib.hid (FB.push F4'.out N4.out ((Below.refl _ _).alloc (Nat.le_refl _) (.cells #[ptr b'] 76)) rfl hrow hgr (hgl.imp id (fun e => e.trans (by simp)))); clear hrow hgr hgl hlt7; obtain ⟨-, -, -, -, -, c7⟩ := HA7.out.1.at; have f7 := HA7.out.1.free 5 (by decide)))
  all_goals
    have O5 := Lib.hid (On.fb O4'.out F4'.out HP.out.2)
    have F5 := Lib.hid HP.out.1
    have K5 : Hid (Leads1 L (.e 0) (.ok (j + 1)) t' s4) := Lib.hid K4.out
    clear HA7 HP c7 f7 c5 HRW HB3
    generalize t' = t5 at *
    generalize s4 = s5 at *
    have HL5 : Hid (Leads L [.stmt] [] (.ok j) [.mark [59], .mk (nd 15) 1] [t5] s5) := Lib.hid ((HA.out).trans (by
      have := K5.out.1.over [.mark [59], .mk (nd 15) 1] []
      exact this))
    have HLJ : Hid (j ≤ nx L s5) := Lib.hid (Nat.le_trans HJS.out K5.out.2)
    have HL9 : Hid (Leads L [.stmt] [] (.ok j) [] [join (nd 15) [t5]] (markS L [59] s5)) := Lib.hid ((HL5.out).trans ((by
      have := (Leads.mark (L := L) [59] s5).over [.mk (nd 15) 1] [t5]
      exact this : Leads L [.mark [59], .mk (nd 15) 1] [t5] s5 [.mk (nd 15) 1] [t5] (markS L [59] s5)).trans (Leads.mk _ [t5] 1 rfl _)))
    have X := Lib.hid (fun W (hp : PS L g vt W s5) => expect_any [59] hp (by decide))
    have HAF : Hid (Aft s5 (markS L [59] s5)) := Lib.hid (Leads.mark (L := L) [59] s5).aft
    have HLE9 : Hid (nx L (.ok j) ≤ nx L (markS L [59] s5)) := Lib.hid (Nat.le_trans HLJ.out (mark_le [59] O5.out.ps.le))
    have HST : Hid (∀ a b, (St.ok j) = .ok a → markS L [59] s5 = .ok b → a < b) := Lib.hid (strict_of rfl HLJ.out)
    generalize markS L [59] s5 = s9 at *
    go_wp2_with fail
    refine (X.out _ O5.out.ps).mono ?_
    rintro e v9 ⟨rfl, hp, ho⟩
    have O9 := Lib.hid (O5.out.call hp ho)
    have S9 := Lib.hid (FB.sb (FB.aft (FB.call F5.out ho HLT.out) HAF.out))
    clear hp ho
    go_wp2
    go_ret
    exact ⟨bs, _, s9, ⟨rfl, HL9.out, O9.out.ps, O9.out.only, S9.out, HLE9.out⟩, HST.out⟩

end Go.Proofs.YtemlceicmpcboaaGreatDoor.Pa
