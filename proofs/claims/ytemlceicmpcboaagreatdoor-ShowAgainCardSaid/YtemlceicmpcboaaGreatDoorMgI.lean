/- All readers, whatever stands there; the walk of use: their contracts. The walk of module: its contract. A tree that the machine reads has no more nodes than tokens were read. No condition but those that each states. -/
import Derived.Test.YtemlceicmpcboaaGreatDoorMgG
import Derived.Test.YtemlceicmpcboaaGreatDoorPbW
import Derived.Test.YtemlceicmpcboaaGreatDoorMgH
namespace Go.Proofs.YtemlceicmpcboaaGreatDoor.Pa
open Go.RowKit Dk Lx Tr

/-- All that call one another. -/
structure All (L : List Tk) (s : St) : Prop where
  unary : Rd L 265 [.e 5] s
  expr : Rd L 203 [.e 0] s
  block : Rd L 132 [.blk] s
  stmt : StRd L s
  fn : ∀ x, FnRd L x s

theorem all_rd (L : List Tk) : ∀ n s, mu L s ≤ n → All L s := by
  intro n
  induction n using Nat.strongRecOn with
  | _ n ih =>
    have IH : ∀ s, mu L s < n → All L s := fun s hs => ih (mu L s) hs s (Nat.le_refl _)
    have hE : RdN L 203 [.e 0] n := fun s hs => (IH s hs).expr
    have hP : ∀ s, mu L s ≤ n → Rd L 266 [.prim, .post] s := fun s hs => post_rd L n hE s (prim_rd L n hE (fun s hs => (IH s hs).fn _) s hs) hs
    have h5 : RdN L 265 [.e 5] (n + 1) := fun s hs => unary_rd L n (fun s hs => (IH s hs).unary) s (hP s (Nat.le_of_lt_succ hs)) (Nat.le_of_lt_succ hs)
    have h4 : RdN L 264 [.e 4] (n + 1) := fun s hs => prod_rd L (n + 1) h5 s hs
    have h3 : RdN L 259 [.e 3] (n + 1) := fun s hs => sum_rd L (n + 1) h4 s hs
    have h2 : RdN L 249 [.e 2] (n + 1) := fun s hs => cmp_rd L (n + 1) h3 s hs
    have h1 : RdN L 230 [.e 1] (n + 1) := fun s hs => and_rd L (n + 1) h2 s hs
    have h0 : RdN L 203 [.e 0] (n + 1) := fun s hs => expr_rd L (n + 1) h1 s hs
    have hB : RdN L 132 [.blk] (n + 1) := fun s hs => block_rd L n (fun s hs => (IH s hs).stmt) s (Nat.le_of_lt_succ hs)
    intro s hs
    exact ⟨h5 s (Nat.lt_succ_of_le hs), h0 s (Nat.lt_succ_of_le hs), hB s (Nat.lt_succ_of_le hs), stmt_rd L n h0 (fun s hs => (IH s hs).block) s hs, fun x => function_rd L (n + 1) hB x s (Nat.lt_succ_of_le hs)⟩
theorem fn_all (L : List Tk) (x : Nd) (s : St) : FnRd L x s := (all_rd L (mu L s) s (Nat.le_refl _)).fn x

theorem use_lead1 {L : List Tk} (s : St) : Leads L [.useN] [] s [.mark [46], .useM (nameV L 1 s).text] [] (needS L 1 s) :=
  need_lead .useN 1 [] s (fun t => [.mark [46], .useM t.text]) (fun V i => by rw [← tx_getD]; rfl)
theorem use_lead2 {L : List Tk} (a : List UInt8) (s : St) : Leads L [.useM a] [] s [.mark [47], .useI a (nameV L 1 s).text] [] (needS L 1 s) :=
  need_lead (.useM a) 1 [] s (fun t => [.mark [47], .useI a t.text]) (fun V i => by rw [← tx_getD]; rfl)
theorem use_lead3 {L : List Tk} (a b : List UInt8) (s : St) : Leads L [.useI a b] [] s [.mark [59], .mk { nd 2 with name := a, text := b, n := (nameV L 2 s).n } 0] [] (needS L 2 s) :=
  need_lead (.useI a b) 2 [] s (fun t => [.mark [59], .mk { nd 2 with name := a, text := b, n := t.n } 0]) (fun V i => by rw [← nm_getD]; rfl)
theorem mark_lead {L : List Tk} (q : List UInt8) (A : List Sy) (us : List (List Nd)) (s : St) : Leads L (.mark q :: A) us s A us (markS L q s) := by
  have := (Leads.mark (L := L) q s).over A us
  rw [List.append_nil] at this
  exact this
theorem need_aft {L : List Tk} (k : Int) (s : St) : Aft s (needS L k s) := by
  cases s with
  | ok i => exact fun _ _ => ⟨i, rfl⟩
  | bad j => exact fun i hi => by cases hi
theorem mark_aft {L : List Tk} (q : List UInt8) (s : St) : Aft s (markS L q s) := (Leads.mark (L := L) q s).aft

set_option maxHeartbeats 4000000 in
set_option maxRecDepth 100000 in
theorem use_rd (L : List Tk) (s : St) : Rd L 71 [.useN] s := by
  intro g vt w h
  have H0 := Lib.hid (On.start h)
  have HLT := Lib.hid h.lt
  have G := Lib.hid (fun W => grow_any (nd 2) none 0 0 W)
  unfold nd Nd.cells at G
  have N1 := Lib.hid (fun W (hp : PS L g vt W s) => name_rd hp)
  have HL1 := Lib.hid (use_lead1 (L := L) s)
  have HA1 := Lib.hid (need_aft (L := L) 1 s)
  have HE1 := Lib.hid (need_le (L := L) 1 h.le)
  generalize (nameV L 1 s).text = a at *
  generalize needS L 1 s = s1 at *
  clear h
  go_enter Tryz.func71, Tryz.ntmps71
  go_wp2_with fail
  refine (G.out _).mono ?_
  rintro e w1 ⟨b, rfl, hb, hB, hbel⟩
  have O1 := Lib.hid (H0.out.below hbel)
  have F1 : Hid (FB w w1 b (nd 2) 0 (.slice none 0 0) [] s) := Lib.hid (FB.start (LR.nil w w _) (Nat.le_refl _) hb hB hbel)
  clear hb hB hbel G
  go_wp2_with fail
  refine (N1.out _ O1.out.ps).mono ?_
  rintro e w2 ⟨rfl, hp, ho⟩
  have O2 := Lib.hid (O1.out.call hp ho)
  have F2 := Lib.hid (FB.aft (FB.call F1.out ho HLT.out) HA1.out)
  clear hp ho N1
  obtain ⟨-, -, c2, -⟩ := F2.out.bb.at
  have f2 := F2.out.bb.free 2 (by decide)
  have O3 := Lib.hid (O2.out.setCell b F2.out.own 2 (.string (strOf a)))
  have F3 : Hid (FB w (w2.setCell ⟨b, 2, none⟩ (.string (strOf a))) b { nd 2 with name := a } 0 (.slice none 0 0) [] s1) := Lib.hid (FB.put 2 F2.out (by decide) rfl)
  have X3 := Lib.hid (expect_any [46] O3.out.ps (by decide))
  have HL3 := Lib.hid (HL1.out.trans (mark_lead [46] _ [] s1))
  have HA3 := Lib.hid (mark_aft (L := L) [46] s1)
  have HE3 := Lib.hid (Nat.le_trans HE1.out (mark_le [46] O2.out.ps.le))
  generalize markS L [46] s1 = s3 at *
  go_wp2_with fail
  generalize World.setCell _ _ _ = w3 at O3 F3 X3 ⊢
  clear c2 f2 HL1 HE1 O1 F1 O2 F2 H0
  refine X3.out.mono ?_
  rintro e w4 ⟨rfl, hp, ho⟩
  have O4 := Lib.hid (O3.out.call hp ho)
  have F4 := Lib.hid (FB.aft (FB.call F3.out ho HLT.out) HA3.out)
  clear hp ho X3 O3 F3
  have N5 := Lib.hid (name_rd O4.out.ps)
  have HL5 := Lib.hid (HL3.out.trans (use_lead2 (L := L) a s3))
  have HA5 := Lib.hid (need_aft (L := L) 1 s3)
  have HE5 := Lib.hid (Nat.le_trans HE3.out (need_le (L := L) 1 O4.out.ps.le))
  generalize (nameV L 1 s3).text = c at *
  generalize needS L 1 s3 = s5 at *
  clear HL3 HE3
  go_wp2_with fail
  refine N5.out.mono ?_
  rintro e w5 ⟨rfl, hp, ho⟩
  have O5 := Lib.hid (O4.out.call hp ho)
  have F5 := Lib.hid (FB.aft (FB.call F4.out ho HLT.out) HA5.out)
  clear hp ho N5
  obtain ⟨-, -, -, -, c4, -⟩ := F5.out.bb.at
  have f4 := F5.out.bb.free 4 (by decide)
  have O6 := Lib.hid (O5.out.setCell b F5.out.own 4 (.string (strOf c)))
  have F6 : Hid (FB w (w5.setCell ⟨b, 4, none⟩ (.string (strOf c))) b { nd 2 with name := a, text := c } 0 (.slice none 0 0) [] s5) := Lib.hid (FB.put 4 F5.out (by decide) rfl)
  have X6 := Lib.hid (expect_any [47] O6.out.ps (by decide))
  have HL6 := Lib.hid (HL5.out.trans (mark_lead [47] _ [] s5))
  have HA6 := Lib.hid (mark_aft (L := L) [47] s5)
  have HE6 := Lib.hid (Nat.le_trans HE5.out (mark_le [47] O5.out.ps.le))
  generalize markS L [47] s5 = s6 at *
  go_wp2_with fail
  generalize World.setCell _ _ _ = w6 at O6 F6 X6 ⊢
  clear c4 f4 HL5 HE5 O4 F4 O5 F5
  refine X6.out.mono ?_
  rintro e w7 ⟨rfl, hp, ho⟩
  have O7 := Lib.hid (O6.out.call hp ho)
  have F7 := Lib.hid (FB.aft (FB.call F6.out ho HLT.out) HA6.out)
  clear hp ho X6 O6 F6
  have N8 := Lib.hid (number_rd O7.out.ps)
  have HL8 := Lib.hid (HL6.out.trans (use_lead3 (L := L) a c s6))
  have HA8 := Lib.hid (need_aft (L := L) 2 s6)
  have HE8 := Lib.hid (Nat.le_trans HE6.out (need_le (L := L) 2 O7.out.ps.le))
  generalize (nameV L 2 s6).n = z at *
  generalize needS L 2 s6 = s8 at *
  clear HL6 HE6
  go_wp2_with fail
  refine N8.out.mono ?_
  rintro e w8 ⟨rfl, hp, ho⟩
  have O8 := Lib.hid (O7.out.call hp ho)
  have F8 := Lib.hid (FB.aft (FB.call F7.out ho HLT.out) HA8.out)
  clear hp ho N8
  obtain ⟨-, -, -, c3, -, -⟩ := F8.out.bb.at
  have f3 := F8.out.bb.free 3 (by decide)
  have O9 := Lib.hid (O8.out.setCell b F8.out.own 3 (.int .i64 z))
  have F9 : Hid (FB w (w8.setCell ⟨b, 3, none⟩ (.int .i64 z)) b { nd 2 with name := a, text := c, n := z } 0 (.slice none 0 0) [] s8) := Lib.hid (FB.put 3 F8.out (by decide) rfl)
  have X9 := Lib.hid (expect_any [59] O9.out.ps (by decide))
  have HL9 : Hid (Leads L [.useN] [] s [] [join { nd 2 with name := a, text := c, n := z } []] (markS L [59] s8)) := Lib.hid ((HL8.out.trans (mark_lead [59] _ [] s8)).trans (Leads.mk _ [] 0 rfl _))
  have HA9 := Lib.hid (mark_aft (L := L) [59] s8)
  have HE9 := Lib.hid (Nat.le_trans HE8.out (mark_le [59] O8.out.ps.le))
  generalize markS L [59] s8 = s9 at *
  go_wp2_with fail
  generalize World.setCell _ _ _ = w9 at O9 F9 X9 ⊢
  clear c3 f3 HL8 HE8 O7 F7 O8 F8
  refine X9.out.mono ?_
  rintro e w10 ⟨rfl, hp, ho⟩
  have O10 := Lib.hid (O9.out.call hp ho)
  have F10 := Lib.hid (FB.aft (FB.call F9.out ho HLT.out) HA9.out)
  clear hp ho X9
  go_wp2
  go_ret
  exact ⟨b, _, s9, rfl, HL9.out, O10.out.ps, O10.out.only, FB.sb F10.out, HE9.out⟩

end Go.Proofs.YtemlceicmpcboaaGreatDoor.Pa
namespace Go.Proofs.YtemlceicmpcboaaGreatDoor.Pa
open Go.RowKit Dk Lx Tr

/-- What the machine comes to, behind all tokens, or where one can't stand. -/
def ModRun (L : List Tk) (t : List Nd) : St → Prop
  | .ok _ => To L (.run [.mod] [] 0) (.fin [t])
  | .bad k => To L (.run [.mod] [] 0) (.bad k)
/-- What module's call leaves. -/
structure ModOk (L : List Tk) (g : Nat) (vt : Value) (w : World) (e : Ending) (w' : World) (b : Nat) (t : List Nd) (s' : St) : Prop where
  ret : e = .returned (ptr b)
  ps : PS L g vt w' s'
  only : Only (fun k => k = g) w w'
  br : SB w' (fun k => k < w.heap.size) b t s'
  run : ModRun L t s'

theorem mod_lead1 {L : List Tk} (s : St) : Leads L [.mod] [] s [.mark [109, 111, 100, 117, 108, 101], .modN] [] s := by
  cases s with
  | bad k => exact rfl
  | ok j => exact .yes (fun V => rfl)
theorem mod_lead2 {L : List Tk} (s : St) : Leads L [.modN] [] s [.modI (nameV L 1 s).text] [] (needS L 1 s) :=
  need_lead .modN 1 [] s (fun t => [.modI t.text]) (fun V i => by rw [← tx_getD]; rfl)
theorem mod_lead3 {L : List Tk} (a : List UInt8) (s : St) : Leads L [.modI a] [] s [.mark [59], .uses { nd 1 with name := a, n := (nameV L 2 s).n } 0] [] (needS L 2 s) :=
  need_lead (.modI a) 2 [] s (fun t => [.mark [59], .uses { nd 1 with name := a, n := t.n } 0]) (fun V i => by rw [← nm_getD]; rfl)
theorem uses_more {L : List Tk} {x : Nd} {m j : Nat} (us : List (List Nd)) (h : sg L j = [117, 115, 101]) : Leads L [.uses x m] us (.ok j) [.useN, .uses x (m + 1)] us (.ok (j + 1)) := .yes (fun V => by
  change (if sg L j = [117, 115, 101] then some ([Sy.useN, .uses x (m + 1)], us.reverse ++ V, j + 1) else some ([.funs x m], us.reverse ++ V, j)) = _
  exact if_pos h)
theorem uses_end {L : List Tk} {x : Nd} {m : Nat} (us : List (List Nd)) {s : St} (h : sgS L s ≠ [117, 115, 101]) : Leads L [.uses x m] us s [.funs x m] us s := by
  cases s with
  | bad k => exact rfl
  | ok j => exact .yes (fun V => by
      change (if sg L j = [117, 115, 101] then some ([Sy.useN, .uses x (m + 1)], us.reverse ++ V, j + 1) else some ([.funs x m], us.reverse ++ V, j)) = _
      exact if_neg h)
theorem funs_more {L : List Tk} {x : Nd} {m j : Nat} (us : List (List Nd)) (h : sg L j = [102, 110]) : Leads L [.funs x m] us (.ok j) [.funN, .funs x (m + 1)] us (.ok (j + 1)) := .yes (fun V => by
  change (if sg L j = [102, 110] then some ([Sy.funN, .funs x (m + 1)], us.reverse ++ V, j + 1) else some ([.mk x m], us.reverse ++ V, j)) = _
  exact if_pos h)
theorem funs_end {L : List Tk} {x : Nd} {m : Nat} (us : List (List Nd)) {s : St} (h : sgS L s ≠ [102, 110]) : Leads L [.funs x m] us s [.mk x m] us s := by
  cases s with
  | bad k => exact rfl
  | ok j => exact .yes (fun V => by
      change (if sg L j = [102, 110] then some ([Sy.funN, .funs x (m + 1)], us.reverse ++ V, j + 1) else some ([.mk x m], us.reverse ++ V, j)) = _
      exact if_neg h)
theorem funN_lead {L : List Tk} (us : List (List Nd)) (s : St) : Leads L [.funN] us s [.fn { nd 3 with name := (nameV L 1 s).text }] us (needS L 1 s) :=
  need_lead .funN 1 us s (fun t => [.fn { nd 3 with name := t.text }]) (fun V i => by rw [← tx_getD]; rfl)
/-- All is read, or what comes next can't stand there. -/
theorem mod_end {L : List Tk} {t : List Nd} {s : St} (h : Leads L [.mod] [] (.ok 0) [] [t] s) (hs : nx L s ≤ L.length) : ModRun L t (if nx L s < L.length then failS s else s) := by
  cases s with
  | bad k =>
    have e : nx L (.bad k) = L.length := rfl
    rw [if_neg (by omega)]
    have := h [] []
    exact this
  | ok i =>
    have h1 := h [] []
    have e : nx L (.ok i) = i := rfl
    by_cases hi : i < L.length
    · rw [if_pos (by omega)]
      exact To.trans h1 (To.head ⟨0, by
        show (if i = L.length then Cfg.fin [t] else Cfg.bad i) = _
        rw [if_neg (by omega)]⟩)
    · rw [if_neg (by omega)]
      exact To.trans h1 (To.head ⟨0, by
        show (if i = L.length then Cfg.fin [t] else Cfg.bad i) = _
        rw [if_pos (by omega)]⟩)

set_option maxHeartbeats 8000000 in
set_option maxRecDepth 100000 in
theorem module_rd (L : List Tk) (g : Nat) (vt : Value) (w : World) (h : PS L g vt w (.ok 0)) : Calls Tryz.prog 38 #[ptr g] w fun e w' => ∃ b t s', ModOk L g vt w e w' b t s' := by
  have H0 := Lib.hid (On.start h)
  have HLT := Lib.hid h.lt
  have HFEW := Lib.hid h.few
  have G := Lib.hid (fun W => grow_any (nd 1) none 0 0 W)
  unfold nd Nd.cells at G
  obtain ⟨pt, ct, hvt, hct⟩ := h.form
  obtain ⟨n, hn⟩ : ∃ n, n = L.length := ⟨_, rfl⟩
  have HN := Lib.hid hn
  have HVT : Hid (vt = .slice pt n ct) := Lib.hid (by rw [hvt, hn])
  obtain ⟨i0, hi0, hy0, hy1, hy2⟩ := info_parts ptr_info3
  have X1 := Lib.hid (expect_any [109, 111, 100, 117, 108, 101] h (by decide))
  have HL1 : Hid (Leads L [.mod] [] (.ok 0) [.modN] [] (markS L [109, 111, 100, 117, 108, 101] (.ok 0))) := Lib.hid ((mod_lead1 (.ok 0)).trans (mark_lead _ _ [] _))
  generalize markS L [109, 111, 100, 117, 108, 101] (.ok 0) = s1 at *
  clear h hvt hct hn
  go_enter Tryz.func38, Tryz.ntmps38
  go_wp2_with fail
  refine X1.out.mono ?_
  rintro e w1 ⟨rfl, hp, ho⟩
  have O1 := Lib.hid (H0.out.call hp ho)
  clear hp ho X1 H0
  go_wp2_with fail
  refine (G.out _).mono ?_
  rintro e w2 ⟨b, rfl, hb, hB, hbel⟩
  have O2 := Lib.hid (O1.out.below hbel)
  have F2 : Hid (FB w w2 b (nd 1) 0 (.slice none 0 0) [] s1) := Lib.hid (FB.start (LR.nil w w1 _) O1.out.only.size hb hB hbel)
  clear hb hB hbel G O1
  have N2 := Lib.hid (name_rd O2.out.ps)
  have HL3 := Lib.hid (HL1.out.trans (mod_lead2 (L := L) s1))
  have HA3 := Lib.hid (need_aft (L := L) 1 s1)
  generalize (nameV L 1 s1).text = q at *
  generalize needS L 1 s1 = s3 at *
  clear HL1
  go_wp2_with fail
  refine N2.out.mono ?_
  rintro e w3 ⟨rfl, hp, ho⟩
  have O3 := Lib.hid (O2.out.call hp ho)
  have F3 := Lib.hid (FB.aft (FB.call F2.out ho HLT.out) HA3.out)
  clear hp ho N2 O2 F2
  obtain ⟨-, -, c2, -⟩ := F3.out.bb.at
  have f2 := F3.out.bb.free 2 (by decide)
  have O4 := Lib.hid (O3.out.setCell b F3.out.own 2 (.string (strOf q)))
  have F4 : Hid (FB w (w3.setCell ⟨b, 2, none⟩ (.string (strOf q))) b { nd 1 with name := q } 0 (.slice none 0 0) [] s3) := Lib.hid (FB.put 2 F3.out (by decide) rfl)
  have N4 := Lib.hid (number_rd O4.out.ps)
  have HL5 := Lib.hid (HL3.out.trans (mod_lead3 (L := L) q s3))
  have HA5 := Lib.hid (need_aft (L := L) 2 s3)
  generalize (nameV L 2 s3).n = z at *
  generalize needS L 2 s3 = s5 at *
  go_wp2_with fail
  generalize World.setCell _ _ _ = w4 at O4 F4 N4 ⊢
  clear c2 f2 O3 F3 HL3
  refine N4.out.mono ?_
  rintro e w5 ⟨rfl, hp, ho⟩
  have O5 := Lib.hid (O4.out.call hp ho)
  have F5 := Lib.hid (FB.aft (FB.call F4.out ho HLT.out) HA5.out)
  clear hp ho N4 O4 F4
  obtain ⟨-, -, -, c3, -, -⟩ := F5.out.bb.at
  have f3 := F5.out.bb.free 3 (by decide)
  have O6 := Lib.hid (O5.out.setCell b F5.out.own 3 (.int .i64 z))
  have F6 : Hid (FB w (w5.setCell ⟨b, 3, none⟩ (.int .i64 z)) b { nd 1 with name := q, n := z } 0 (.slice none 0 0) [] s5) := Lib.hid (FB.put 3 F5.out (by decide) rfl)
  have X6 := Lib.hid (expect_any [59] O6.out.ps (by decide))
  have HL7 := Lib.hid (HL5.out.trans (mark_lead [59] _ [] s5))
  have HA7 := Lib.hid (mark_aft (L := L) [59] s5)
  generalize markS L [59] s5 = s7 at *
  go_wp2_with fail
  generalize World.setCell _ _ _ = w6 at O6 F6 X6 ⊢
  clear c3 f3 O5 F5 HL5
  refine X6.out.mono ?_
  rintro e w7 ⟨rfl, hp, ho⟩
  have O7 := Lib.hid (O6.out.call hp ho)
  have F7 := Lib.hid (FB.aft (FB.call F6.out ho HLT.out) HA7.out)
  clear hp ho X6 O6 F6
  go_wp2
  go_loopg [] (L.length - nx L s7) (fun k wr => ∃ (cs : List (Nat × List Nd)) (s2 : St) (p : Option Addr) (m c : Nat), Hid (m = cs.length) ∧ Hid (FB w wr b { nd 1 with name := q, n := z } 0 (.slice p m c) cs s2) ∧ Hid (On L g vt w wr s2) ∧ Hid (Leads L [.mod] [] (.ok 0) [.uses { nd 1 with name := q, n := z } m] (cs.map (·.2)) s2) ∧ Hid (m ≤ nx L s2) ∧ Hid (k = L.length - nx L s2))
  case atStart => exact ⟨[], s7, none, 0, 0, Lib.hid rfl, F7, O7, HL7, Lib.hid (Nat.zero_le _), Lib.hid rfl⟩
  case round =>
    clear F7 O7 HL7
    obtain ⟨cs, s2, p, m, c, HM, HF, HO, HL, HC, HK⟩ := hrel
    by_cases hq : sgS L s2 = [117, 115, 101]
    · obtain ⟨j, rfl, hj, hjl⟩ := sgS_ok hq (by decide)
      have A := Lib.hid (accept_yes [117, 115, 101] HO.out.ps (by decide) hj)
      have HL2 := Lib.hid (HL.out.trans (uses_more _ hj))
      have U := Lib.hid (use_rd L (.ok (j + 1)))
      have HJ := Lib.hid hjl
      have HM1 : Hid (m + 1 = cs.length + 1) := Lib.hid (by rw [HM.out])
      have HRW : Hid (∀ W s', FB w W b { nd 1 with name := q, n := z } 0 (.slice p m c) cs s' → ∀ b', (W.alloc (.cells #[ptr b'] 76)).ownsRow w.heap.size 76 1 (.slice p m c) m (bp (cs.map (·.1)))) := Lib.hid (fun W s' hf b' => by have := hf.row.alloc (.cells #[ptr b'] 76); rw [← HM.out] at this; exact this)
      have hmm : m ≤ 1000001 := by have := HC.out; have := HO.out.ps.le; have := HFEW.out; omega
      have HB1 : Hid (m + 1 ≤ maxLen) := Lib.hid (by unfold maxLen; omega)
      have HB2 : Hid ((m + 1) * 8 ≤ 140737488355328) := Lib.hid (by omega)
      have HB3 : Hid (∀ W s', On L g vt w W s' → ∀ b', w.heap.size ≤ (W.alloc (.cells #[ptr b'] 76)).heap.size) := Lib.hid (fun W s' ho b' => by have := ho.only.size; simp; omega)
      clear hmm
      clear hq hj hjl HL
      go_wp2_with fail
      refine A.out.mono ?_
      rintro e v2 ⟨rfl, hp, ho⟩
      have O2 := Lib.hid (HO.out.call hp ho)
      have F2 : Hid (FB w v2 b { nd 1 with name := q, n := z } 0 (.slice p m c) cs (.ok (j + 1))) := Lib.hid (FB.aft (FB.call HF.out ho HLT.out) (fun _ _ => ⟨j, rfl⟩))
      clear hp ho A HO HF
      go_upto_region 7 with fail
      obtain ⟨-, -, -, -, -, c5⟩ := F2.out.bb.at
      go_region_law (first
        | (go_simp; go_at_call 71; refine (U.out g vt _ (O2.out.below (Below.refl _ _).drew).ps).mono ?_; rintro e w4 ⟨b', t', s4, hk⟩; obtain ⟨rfl, hl, hps, honly, hbr, hle⟩ := hk; have O4 := Lib.hid ((O2.out.below (Below.refl _ _).drew).call hps honly); have F4 := Lib.hid (FB.aft (FB.call (FB.below F2.out (Below.refl _ _).drew) honly HLT.out) hl.aft); have N4 := Lib.hid (Kids.add (Kids.nil w4 (fun k => (k < w.heap.size ∨ (Value.slice p m c).ownBlock = some k) ∨ k = b) s4) (FB.news (FB.aft (FB.below F2.out (Below.refl _ _).drew) hl.aft) hbr O2.out.only.size)); have K4 := Lib.hid (And.intro hl hle); obtain ⟨-, -, -, -, -, c5'⟩ := F4.out.bb.at; obtain ⟨-, -, -, -, -, c5a⟩ := (FB.below F4.out ((Below.refl _ _).alloc (Nat.le_refl _) (.cells #[ptr b'] 76))).bb.at; have N1 := Lib.hid (news_at w4 #[ptr b'] 76); clear hl hps honly hbr hle)
        | (refine step_append_lies _ (by rfl) (.tmp 28) (.tmp 31) 116 (by rfl) w.heap.size 76 i0 (.pointer none) 1 8 Tryz.underlying116 hi0 hy0 hy1 hy2 (by rfl) (by decide) _ m (bp (cs.map (·.1))) (by rfl) (HRW.out _ _ F4.out _) ⟨w4.heap.size, 0, none⟩ 1 1 [ptr b'] (by rfl) (by rfl) N1.out (by simp [Value.oneCell']) (by decide) HB1.out HB2.out (HB3.out _ _ O4.out _) (w4.heap.size + 1) (by simp) ?_; intro g' cap w7 hrow hgr hgl hlt7; have HA := Lib.hid (FB.app F4.out ((Below.refl _ _).alloc (Nat.le_refl _) (.cells #[ptr b'] 76)) hgr); have HP := Lib.hid (FB.push F4.out N4.out ((Below.refl _ _).alloc (Nat.le_refl _) (.cells #[ptr b'] 76)) HM1.out hrow hgr (hgl.imp id (fun e => e.trans (by simp)))); clear hrow hgr hgl hlt7; obtain ⟨-, -, -, -, -, c7⟩ := HA.out.1.at; have f7 := HA.out.1.free 5 (by decide)))
      all_goals
        have O7 := Lib.hid (On.fb O4.out F4.out HP.out.2)
        have HLN : Hid (Leads L [.mod] [] (.ok 0) [.uses { nd 1 with name := q, n := z } (m + 1)] ((cs ++ [(b', t')]).map (·.2)) s4) := Lib.hid (HL2.out.trans (by
          have := K4.out.1.over [.uses { nd 1 with name := q, n := z } (m + 1)] (cs.map (·.2))
          rw [List.append_nil] at this
          rw [List.map_append]
          exact this))
        have HMS : Hid (m + 1 ≤ nx L s4 ∧ j + 1 ≤ nx L s4) := Lib.hid ⟨Nat.le_trans (Nat.succ_le_succ (show m ≤ j from HC.out)) K4.out.2, K4.out.2⟩
        clear HA c7 f7 c5
        go_wp2
        go_roundg (L.length - nx L s4)
        case rel => exact ⟨_, s4, _, _, _, Lib.hid (by rw [List.length_append, ← HM.out]; rfl), Lib.hid HP.out.1, O7, HLN, Lib.hid HMS.out.1, Lib.hid rfl⟩
        case measure => have := HK.out; have := HMS.out.2; have := HJ.out; have e : nx L (.ok j) = j := rfl; omega
    · have A := Lib.hid (accept_no [117, 115, 101] HO.out.ps hq)
      have HL2 := Lib.hid (HL.out.trans (uses_end _ hq))
      clear hq HL
      go_wp2_with fail
      refine A.out.mono ?_
      rintro e v2 ⟨rfl, hb⟩
      have O2 := Lib.hid (HO.out.below hb)
      have F2 := Lib.hid (FB.below HF.out hb)
      clear hb A HO HF
      go_wp2
      go_loopg [] (L.length - nx L s2) (fun k wr => ∃ (cs : List (Nat × List Nd)) (s2 : St) (p : Option Addr) (m c : Nat), Hid (m = cs.length) ∧ Hid (FB w wr b { nd 1 with name := q, n := z } 0 (.slice p m c) cs s2) ∧ Hid (On L g vt w wr s2) ∧ Hid (Leads L [.mod] [] (.ok 0) [.funs { nd 1 with name := q, n := z } m] (cs.map (·.2)) s2) ∧ Hid (m ≤ nx L s2) ∧ Hid (k = L.length - nx L s2))
      case atStart => exact ⟨cs, s2, p, m, c, HM, F2, O2, HL2, HC, Lib.hid rfl⟩
      case round =>
        clear F2 O2 HL2 HM HC HK
        obtain ⟨cs, s2, p, m, c, HM, HF, HO, HL, HC, HK⟩ := hrel
        by_cases hq : sgS L s2 = [102, 110]
        · obtain ⟨j, rfl, hj, hjl⟩ := sgS_ok hq (by decide)
          have A := Lib.hid (accept_yes [102, 110] HO.out.ps (by decide) hj)
          have HL2 := Lib.hid (HL.out.trans (funs_more _ hj))
          have HJ := Lib.hid hjl
          have NM := Lib.hid (fun W (hp : PS L g vt W (.ok (j + 1))) => name_rd hp)
          have HL3 := Lib.hid (HL2.out.trans (by
            have := (funN_lead (L := L) [] (.ok (j + 1))).over [.funs { nd 1 with name := q, n := z } (m + 1)] (cs.map (·.2))
            rw [List.append_nil] at this
            exact this))
          have HE3 := Lib.hid (need_le (L := L) 1 (s := .ok (j + 1)) hjl)
          have HA3 := Lib.hid (need_aft (L := L) 1 (.ok (j + 1)))
          generalize (nameV L 1 (.ok (j + 1))).text = fq at *
          generalize needS L 1 (.ok (j + 1)) = s3 at *
          have FN : Hid (∀ (W : World), PS L g vt W s3 → Calls Tryz.prog 72 #[ptr g, .agg #[.int .i64 3, .int .i64 0, .string (strOf fq), .int .i64 0, .string ⟨#[]⟩]] W fun e w' => ∃ b t s', RdOk L g vt [.fn ⟨3, 0, fq, 0, []⟩] s3 W e w' b t s') := Lib.hid (fun W hp => fn_all L ⟨3, 0, fq, 0, []⟩ s3 g vt W hp)
          have HM1 : Hid (m + 1 = cs.length + 1) := Lib.hid (by rw [HM.out])
          have HRW : Hid (∀ W s', FB w W b { nd 1 with name := q, n := z } 0 (.slice p m c) cs s' → ∀ b', (W.alloc (.cells #[ptr b'] 76)).ownsRow w.heap.size 76 1 (.slice p m c) m (bp (cs.map (·.1)))) := Lib.hid (fun W s' hf b' => by have := hf.row.alloc (.cells #[ptr b'] 76); rw [← HM.out] at this; exact this)
          have hmm : m ≤ 1000001 := by have := HC.out; have := HO.out.ps.le; have := HFEW.out; omega
          have HB1 : Hid (m + 1 ≤ maxLen) := Lib.hid (by unfold maxLen; omega)
          have HB2 : Hid ((m + 1) * 8 ≤ 140737488355328) := Lib.hid (by omega)
          have HB3 : Hid (∀ W s', On L g vt w W s' → ∀ b', w.heap.size ≤ (W.alloc (.cells #[ptr b'] 76)).heap.size) := Lib.hid (fun W s' ho b' => by have := ho.only.size; simp; omega)
          clear hmm
          clear hq hj hjl HL HL2
          go_wp2_with fail
          refine A.out.mono ?_
          rintro e v2 ⟨rfl, hp, ho⟩
          have O2 := Lib.hid (HO.out.call hp ho)
          have F2 : Hid (FB w v2 b { nd 1 with name := q, n := z } 0 (.slice p m c) cs (.ok (j + 1))) := Lib.hid (FB.aft (FB.call HF.out ho HLT.out) (fun _ _ => ⟨j, rfl⟩))
          clear hp ho A HO HF
          go_upto_region 9 with fail
          obtain ⟨-, -, -, -, -, c5⟩ := F2.out.bb.at
          go_region_law (first
            | (go_simp; go_at_call 68; refine (NM.out _ (O2.out.below (Below.refl _ _).drew).ps).mono ?_; rintro e w3 ⟨rfl, hp, ho⟩; have O3 := Lib.hid ((O2.out.below (Below.refl _ _).drew).call hp ho); have F3 := Lib.hid (FB.aft (FB.call (FB.below F2.out (Below.refl _ _).drew) ho HLT.out) HA3.out); obtain ⟨-, -, -, -, -, c5n⟩ := F3.out.bb.at; clear hp ho)
            | (go_simp; go_at_call 72; refine (FN.out _ O3.out.ps).mono ?_; rintro e w4 ⟨b', t', s4, hk⟩; obtain ⟨rfl, hl, hps, honly, hbr, hle⟩ := hk; have O4 := Lib.hid (O3.out.call hps honly); have F4 := Lib.hid (FB.aft (FB.call F3.out honly HLT.out) hl.aft); have N4 := Lib.hid (Kids.add (Kids.nil w4 (fun k => (k < w.heap.size ∨ (Value.slice p m c).ownBlock = some k) ∨ k = b) s4) (FB.news (FB.aft F3.out hl.aft) hbr O3.out.only.size)); have K4 := Lib.hid (And.intro hl hle); obtain ⟨-, -, -, -, -, c5'⟩ := F4.out.bb.at; obtain ⟨-, -, -, -, -, c5a⟩ := (FB.below F4.out ((Below.refl _ _).alloc (Nat.le_refl _) (.cells #[ptr b'] 76))).bb.at; have N1 := Lib.hid (news_at w4 #[ptr b'] 76); clear hl hps honly hbr hle)
            | (refine step_append_lies _ (by rfl) (.tmp 41) (.tmp 47) 116 (by rfl) w.heap.size 76 i0 (.pointer none) 1 8 Tryz.underlying116 hi0 hy0 hy1 hy2 (by rfl) (by decide) _ m (bp (cs.map (·.1))) (by rfl) (HRW.out _ _ F4.out _) ⟨w4.heap.size, 0, none⟩ 1 1 [ptr b'] (by rfl) (by rfl) N1.out (by simp [Value.oneCell']) (by decide) HB1.out HB2.out (HB3.out _ _ O4.out _) (w4.heap.size + 1) (by simp) ?_; intro g' cap w7 hrow hgr hgl hlt7; have HA := Lib.hid (FB.app F4.out ((Below.refl _ _).alloc (Nat.le_refl _) (.cells #[ptr b'] 76)) hgr); have HP := Lib.hid (FB.push F4.out N4.out ((Below.refl _ _).alloc (Nat.le_refl _) (.cells #[ptr b'] 76)) HM1.out hrow hgr (hgl.imp id (fun e => e.trans (by simp)))); clear hrow hgr hgl hlt7; obtain ⟨-, -, -, -, -, c7⟩ := HA.out.1.at; have f7 := HA.out.1.free 5 (by decide)))
          all_goals
            have O7 := Lib.hid (On.fb O4.out F4.out HP.out.2)
            have HLN : Hid (Leads L [.mod] [] (.ok 0) [.funs { nd 1 with name := q, n := z } (m + 1)] ((cs ++ [(b', t')]).map (·.2)) s4) := Lib.hid (HL3.out.trans (by
              have := K4.out.1.over [.funs { nd 1 with name := q, n := z } (m + 1)] (cs.map (·.2))
              rw [List.append_nil] at this
              rw [List.map_append]
              exact this))
            have HMS : Hid (m + 1 ≤ nx L s4 ∧ j + 1 ≤ nx L s4) := Lib.hid ⟨Nat.le_trans (Nat.succ_le_succ (show m ≤ j from HC.out)) (Nat.le_trans HE3.out K4.out.2), Nat.le_trans HE3.out K4.out.2⟩
            clear HA c7 f7 c5
            go_wp2
            go_roundg (L.length - nx L s4)
            case rel => exact ⟨_, s4, _, _, _, Lib.hid (by rw [List.length_append, ← HM.out]; rfl), Lib.hid HP.out.1, O7, HLN, Lib.hid HMS.out.1, Lib.hid rfl⟩
            case measure => have := HK.out; have := HMS.out.2; have := HJ.out; have e : nx L (.ok j) = j := rfl; omega
        · have A := Lib.hid (accept_no [102, 110] HO.out.ps hq)
          have HL2 : Hid (Leads L [.mod] [] (.ok 0) [] [join { nd 1 with name := q, n := z } (cs.map (·.2))] s2) := Lib.hid (HL.out.trans ((funs_end _ hq).trans (Leads.mk _ _ _ (by rw [HM.out]; simp) _)))
          have HR := Lib.hid (mod_end HL2.out HO.out.ps.le)
          clear hq HL
          go_wp2_with fail
          refine A.out.mono ?_
          rintro e v2 ⟨rfl, hb⟩
          have O2 := Lib.hid (HO.out.below hb)
          have F2 := Lib.hid (FB.below HF.out hb)
          clear hb A HO HF HL2
          obtain ⟨c0, c1, -, -⟩ := O2.out.ps.at
          rw [HVT.out] at c0
          have FL := Lib.hid (fun W (hp : PS L g vt W s2) => fail_any hp)
          by_cases hlt : nx L s2 < L.length
          · rw [if_pos hlt] at HR
            have z1 : ((nx L s2 : Nat) : Int) < (n : Int) := by have := HN.out; omega
            have HAF : Hid (Aft s2 (failS s2)) := Lib.hid (by cases s2 with | ok i => exact (fun _ _ => ⟨i, rfl⟩) | bad k => exact (fun _ hi => by cases hi))
            clear hlt
            go_wp2_with fail
            go_quiet (fail)
            clear c0 c1
            go_wp2_with fail
            refine (FL.out _ (O2.out.below (bdN (Below.refl _ _) _)).ps).mono ?_
            rintro e v4 ⟨rfl, hp, ho⟩
            have O4 := Lib.hid ((O2.out.below (bdN (Below.refl _ _) _)).call hp ho)
            have F4 := Lib.hid (FB.aft (FB.call (FB.below F2.out (bdN (Below.refl _ _) _)) ho HLT.out) HAF.out)
            clear hp ho
            go_wp2
            go_ret
            exact ⟨b, _, _, rfl, O4.out.ps, O4.out.only, FB.sb F4.out, HR.out⟩
          · rw [if_neg hlt] at HR
            have z1 : ¬((nx L s2 : Nat) : Int) < (n : Int) := by have := HN.out; omega
            clear hlt
            go_wp2_with fail
            go_quiet (fail)
            clear c0 c1
            go_wp2
            go_ret
            exact ⟨b, _, s2, rfl, (O2.out.below (bdN (Below.refl _ _) _)).ps, (O2.out.below (bdN (Below.refl _ _) _)).only, FB.sb (FB.below F2.out (bdN (Below.refl _ _) _)), HR.out⟩

end Go.Proofs.YtemlceicmpcboaaGreatDoor.Pa
namespace Go.Proofs.YtemlceicmpcboaaGreatDoor.Pa
open Lx Tr

/-- How many nodes. -/
def cnt : List (List Nd) → Int
  | [] => 0
  | t :: V => (t.length : Int) + cnt V
/-- How many nodes come of it, less the tokens that it reads. -/
def phi : Sy → Int
  | .mark _ => -1
  | .outer _ => 1
  | .lC p _ _ => if p then 0 else 1
  | .blk => -1
  | .els => 1
  | .mk _ _ => 1
  | .uses _ _ => 1
  | .funs _ _ => 1
  | _ => 0
def phS : List Sy → Int
  | [] => 0
  | a :: A => phi a + phS A
theorem phS_app (A B : List Sy) : phS (A ++ B) = phS A + phS B := by
  induction A with
  | nil => simp [phS]
  | cons a A ih => rw [List.cons_append, phS, phS, ih]; omega
theorem cnt_app (A B : List (List Nd)) : cnt (A ++ B) = cnt A + cnt B := by
  induction A with
  | nil => simp [cnt]
  | cons a A ih => rw [List.cons_append, cnt, cnt, ih]; omega
theorem cnt_flat (A : List (List Nd)) : (A.flatten.length : Int) = cnt A := by
  induction A with
  | nil => rfl
  | cons a A ih => rw [List.flatten_cons, List.length_append, cnt, ← ih]; omega
theorem cnt_rev (A : List (List Nd)) : cnt A.reverse = cnt A := by
  induction A with
  | nil => rfl
  | cons a A ih => rw [List.reverse_cons, cnt_app, ih, cnt, cnt, cnt]; omega

theorem stmtA_phi {s : List UInt8} {A : List Sy} (h : stmtA s = some A) : phS A ≤ 1 := by
  unfold stmtA at h
  repeat' split at h
  all_goals (cases h; try decide)
theorem primA_phi {s : List UInt8} {A : List Sy} (h : primA s = some A) : phS A ≤ 1 := by
  unfold primA at h
  repeat' split at h
  all_goals (cases h; try decide)

theorem one_count {L : List Tk} {a : Sy} {B : List Sy} {V V' : List (List Nd)} {i j : Nat} (h : one L a V i = some (B, V', j)) : cnt V' + phS B - (j : Int) ≤ cnt V + phi a - (i : Int) := by
  cases a with
  | prim =>
    change (if kd L i = 2 then _ else if kd L i = 3 then _ else if kd L i = 1 then _ else _) = _ at h
    split at h
    · cases h; simp [phS, phi]; omega
    · split at h
      · cases h; simp [phS, phi]; omega
      · split at h
        · cases h; simp [phS, phi]; omega
        · cases hp : primA (sg L i) with
          | none => rw [hp] at h; cases h
          | some A =>
            rw [hp] at h; cases h
            have := primA_phi hp
            simp [phi]; omega
  | stmt =>
    change (match stmtA (sg L i) with | some A => some (A, V, i + 1) | none => _) = _ at h
    cases hp : stmtA (sg L i) with
    | none => rw [hp] at h; cases h; simp [phS, phi]
    | some A =>
      rw [hp] at h; cases h
      have := stmtA_phi hp
      simp [phi]; omega
  | asg =>
    change (if sg L i = [61] then _ else _) = _ at h
    split at h
    · cases V with
      | nil => cases h
      | cons t V1 =>
        cases t with
        | nil => cases h
        | cons x b =>
          change (if x.kind = 21 then _ else if x.kind = 26 then _ else none) = _ at h
          split at h
          · cases h; simp [phS, phi, cnt]; omega
          · split at h
            · cases h
              simp only [phS, phi, cnt, List.length_cons, List.length_drop, List.length_take]
              omega
            · cases h
    · cases h; simp [phS, phi]
  | mk x m =>
    change (if m ≤ V.length then some ([], join x (V.take m).reverse :: V.drop m, i) else none) = _ at h
    split at h
    · cases h
      have e : cnt V = cnt (V.take m) + cnt (V.drop m) := by rw [← cnt_app, List.take_append_drop]
      have e2 := cnt_flat (V.take m).reverse
      rw [cnt_rev] at e2
      simp only [phS, phi, cnt, join, List.length_cons]
      omega
    · cases h
  | e n =>
    change (if n < 5 then _ else if sg L i = _ then _ else if sg L i ∈ _ then _ else _) = _ at h
    repeat' split at h
    all_goals (cases h; simp [phS, phi]; try omega)
  | row n =>
    change (if sg L i ∈ level n then _ else _) = _ at h
    split at h
    · cases h
      by_cases hn : n = 2
      · simp [phS, phi, hn]; omega
      · simp [phS, phi, hn]; omega
    · cases h; simp [phS, phi]
  | post =>
    change (if sg L i = _ then _ else if sg L i = _ then _ else _) = _ at h
    repeat' split at h
    all_goals (cases h; simp [phS, phi]; try omega)
  | mark s =>
    change (if sg L i = s then _ else none) = _ at h
    split at h
    · cases h; simp [phS, phi]; omega
    · cases h
  | outer a =>
    change (if sg L i = [46] then _ else _) = _ at h
    split at h
    all_goals (cases h; simp [phS, phi]; try omega)
  | outN a => obtain ⟨rfl, rfl, rfl⟩ := need_some h; simp [phS, phi]; omega
  | lF p x m =>
    change (if sg L i = [41] then _ else _) = _ at h
    split at h
    all_goals (cases h; cases p <;> simp [phS, phi] <;> omega)
  | lN p x m =>
    change (if sg L i = [44] then _ else if sg L i = [41] then _ else none) = _ at h
    split at h
    · cases h; cases p <;> simp [phS, phi] <;> omega
    · split at h
      · cases h; cases p <;> simp [phS, phi] <;> omega
      · cases h
  | lC p x m => cases h; cases p <;> simp [phS, phi]
  | par => obtain ⟨rfl, rfl, rfl⟩ := need_some h; simp [phS, phi]; omega
  | fn x => cases h; simp [phS, phi]; omega
  | blk => cases h; simp [phS, phi]
  | sts m =>
    change (if sg L i = [125] then _ else _) = _ at h
    split at h
    all_goals (cases h; simp [phS, phi]; try omega)
  | letN => obtain ⟨rfl, rfl, rfl⟩ := need_some h; simp [phS, phi]; omega
  | els =>
    change (if sg L i = _ then _ else _) = _ at h
    split at h
    all_goals (cases h; simp [phS, phi]; try omega)
  | mod => cases h; simp [phS, phi]; omega
  | modN => obtain ⟨rfl, rfl, rfl⟩ := need_some h; simp [phS, phi]; omega
  | modI a => obtain ⟨rfl, rfl, rfl⟩ := need_some h; simp [phS, phi]; omega
  | uses x m =>
    change (if sg L i = _ then _ else _) = _ at h
    split at h
    all_goals (cases h; simp [phS, phi]; try omega)
  | useN => obtain ⟨rfl, rfl, rfl⟩ := need_some h; simp [phS, phi]; omega
  | useM a => obtain ⟨rfl, rfl, rfl⟩ := need_some h; simp [phS, phi]; omega
  | useI a b => obtain ⟨rfl, rfl, rfl⟩ := need_some h; simp [phS, phi]; omega
  | funs x m =>
    change (if sg L i = _ then _ else _) = _ at h
    split at h
    all_goals (cases h; simp [phS, phi]; try omega)
  | funN => obtain ⟨rfl, rfl, rfl⟩ := need_some h; simp [phS, phi]; omega

/-- So it is all along. -/
def CntC (L : List Tk) (k : Int) : Cfg → Prop
  | .run A V i => cnt V + phS A - (i : Int) ≤ k
  | .bad _ => True
  | .fin V => cnt V - (L.length : Int) ≤ k
theorem step_count {L : List Tk} {k : Int} {c : Cfg} (h : CntC L k c) : CntC L k (step L c) := by
  match c, h with
  | .bad i, h => exact h
  | .fin V, h => exact h
  | .run [] V i, h =>
    show CntC L k (if i = L.length then .fin V else .bad i)
    split
    · rename_i e
      subst e
      have h' : cnt V + 0 - (L.length : Int) ≤ k := h
      show cnt V - (L.length : Int) ≤ k
      omega
    · trivial
  | .run (a :: A) V i, h =>
    show CntC L k (match one L a V i with | some (B, V', j) => .run (B ++ A) V' j | none => .bad i)
    cases ho : one L a V i with
    | none => trivial
    | some x =>
      obtain ⟨B, V', j⟩ := x
      have h1 := one_count ho
      have h2 : cnt V + (phi a + phS A) - (i : Int) ≤ k := h
      show cnt V' + phS (B ++ A) - (j : Int) ≤ k
      rw [phS_app]
      omega
theorem to_count {L : List Tk} {k : Int} {c d : Cfg} (h : To L c d) (hc : CntC L k c) : CntC L k d := by
  obtain ⟨n, rfl⟩ := h
  induction n generalizing c with
  | zero => exact hc
  | succ n ih => exact ih (step_count hc)
/-- A module's tree. -/
theorem mod_few {L : List Tk} {t : List Nd} (h : To L (.run [.mod] [] 0) (.fin [t])) : t.length ≤ L.length := by
  have := to_count (k := 0) h (by show (0 : Int) + (0 + 0) - ((0 : Nat) : Int) ≤ 0; decide)
  have h2 : (t.length : Int) + 0 - (L.length : Int) ≤ 0 := this
  omega
theorem mod_tok {K : Nat} {L : List Tk} (hL : TkS K L) {t : List Nd} (h : To L (.run [.mod] [] 0) (.fin [t])) : Tok K t := by
  have := to_good hL h (show GoodC K (.run [.mod] [] 0) from ⟨fun b hb => by rw [List.mem_singleton.1 hb]; trivial, fun t ht => by cases ht⟩)
  exact this t (List.mem_singleton.2 rfl)

end Go.Proofs.YtemlceicmpcboaaGreatDoor.Pa
