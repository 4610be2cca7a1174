/- All readers, whatever stands there; the walk of use; The walk of module. No condition but those that each states. -/
import Derived.Test.YtmljjpdodcpohaaGreatDoorMgBD
import Derived.Test.YtmljjpdodcpohaaGreatDoorMgBG
namespace Go.Proofs.YtmljjpdodcpohaaGreatDoor.Pa
open Lib (hid)
set_option maxRecDepth 100000
set_option maxHeartbeats 4000000
open Go.RowKit Dk Lx Tr
structure All (L : List Tk) (s : St) : Prop where
  unary : Rd L 258 [.e 5] s
  expr : Rd L 231 [.e 0] s
  block : Rd L 184 [.blk] s
  stmt : StRd L s
  fn : ∀ x, FnRd L x s
theorem all_rd (L : List Tk) : ∀ n s, mu L s ≤ n → All L s := by
  intro n; induction n using Nat.strongRecOn with
  | _ n ih =>
    have IH : ∀ s, mu L s < n → All L s := fun s hs => ih (mu L s) hs s (Nat.le_refl _)
    have hE : RdN L 231 [.e 0] n := fun s hs => (IH s hs).expr
    have hP : ∀ s, mu L s ≤ n → Rd L 259 [.prim, .post] s := fun s hs => post_rd L n hE s (prim_rd L n hE (fun s hs => (IH s hs).fn _) s hs) hs
    have h5 : RdN L 258 [.e 5] (n + 1) := fun s hs => unary_rd L n (fun s hs => (IH s hs).unary) s (hP s (Nat.le_of_lt_succ hs)) (Nat.le_of_lt_succ hs)
    have h4 : RdN L 257 [.e 4] (n + 1) := fun s hs => prod_rd L (n + 1) h5 s hs
    have h3 : RdN L 256 [.e 3] (n + 1) := fun s hs => sum_rd L (n + 1) h4 s hs
    have h2 : RdN L 251 [.e 2] (n + 1) := fun s hs => cmp_rd L (n + 1) h3 s hs
    have h1 : RdN L 245 [.e 1] (n + 1) := fun s hs => and_rd L (n + 1) h2 s hs
    have h0 : RdN L 231 [.e 0] (n + 1) := fun s hs => expr_rd L (n + 1) h1 s hs
    have hB : RdN L 184 [.blk] (n + 1) := fun s hs => block_rd L n (fun s hs => (IH s hs).stmt) s (Nat.le_of_lt_succ hs)
    intro s hs; exact ⟨h5 s (Nat.lt_succ_of_le hs), h0 s (Nat.lt_succ_of_le hs), hB s (Nat.lt_succ_of_le hs), stmt_rd L n h0 (fun s hs => (IH s hs).block) s hs, fun x => function_rd L (n + 1) hB x s (Nat.lt_succ_of_le hs)⟩
theorem fn_all (L : List Tk) (x : Nd) (s : St) : FnRd L x s := (all_rd L (mu L s) s (Nat.le_refl _)).fn x
theorem use_lead1 {L : List Tk} (s : St) : Leads L [.useN] [] s [.mark [46], .useM (nameV L 1 s).text] [] (needS L 1 s) :=
  need_lead .useN 1 [] s (fun t => [.mark [46], .useM t.text]) (fun V i => by rw [← tx_getD]; rfl)
theorem use_lead2 {L : List Tk} (a : List UInt8) (s : St) : Leads L [.useM a] [] s [.mark [47], .useI a (nameV L 1 s).text] [] (needS L 1 s) :=
  need_lead (.useM a) 1 [] s (fun t => [.mark [47], .useI a t.text]) (fun V i => by rw [← tx_getD]; rfl)
theorem use_lead3 {L : List Tk} (a b : List UInt8) (s : St) : Leads L [.useI a b] [] s [.mark [59], .mk { nd 2 with name := a, text := b, n := (nameV L 2 s).n } 0] [] (needS L 2 s) :=
  need_lead (.useI a b) 2 [] s (fun t => [.mark [59], .mk { nd 2 with name := a, text := b, n := t.n } 0]) (fun V i => by rw [← nm_getD]; rfl)
theorem mark_lead {L : List Tk} (q : List UInt8) (A : List Sy) (us : List (List Nd)) (s : St) : Leads L (.mark q :: A) us s A us (markS L q s) := by
  have := (Leads.mark (L := L) q s).over A us; rw [List.append_nil] at this; exact this
theorem need_aft {L : List Tk} (k : Int) (s : St) : Aft s (needS L k s) := by
  cases s with
  | ok i => exact fun _ _ => ⟨i, rfl⟩
  | bad j => exact fun i hi => by cases hi
theorem mark_aft {L : List Tk} (q : List UInt8) (s : St) : Aft s (markS L q s) := (Leads.mark (L := L) q s).aft
theorem use_rd (L : List Tk) (s : St) : Rd L 149 [.useN] s := by
  intro g vt w h; have H0 := hid (On.start h); have HLT := hid h.lt; have G := hid (fun W => grow_any (nd 2) none 0 0 W); unfold nd Nd.cells at G; have N1 := hid (fun W (hp : PS L g vt W s) => name_rd hp); have HL1 := hid (use_lead1 (L := L) s); have HA1 := hid (need_aft (L := L) 1 s); have HE1 := hid (need_le (L := L) 1 h.le); generalize (nameV L 1 s).text = a at *; generalize needS L 1 s = s1 at *; clear h; go_enter Tryz.func149, Tryz.ntmps149
  go_wp2_with fail
  refine (G.out _).mono ?_; rintro e w1 ⟨b, rfl, hb, hB, hbel⟩; have O1 := hid (H0.out.below hbel); have F1 : Hid (FB w w1 b (nd 2) 0 (.slice none 0 0) [] s) := hid (FB.start (LR.nil w w _) (Nat.le_refl _) hb hB hbel); clear hb hB hbel G; go_wp2_with fail
  refine (N1.out _ O1.out.ps).mono ?_; rintro e w2 ⟨rfl, hp, ho⟩; have O2 := hid (O1.out.call hp ho); have F2 := hid (FB.aft (FB.call F1.out ho HLT.out) HA1.out); clear hp ho N1; obtain ⟨-, -, c2, -⟩ := F2.out.bb.at; have f2 := F2.out.bb.free 2 (by decide); have O3 := hid (O2.out.setCell b F2.out.own 2 (.string (strOf a))); have F3 : Hid (FB w (w2.setCell ⟨b, 2, none⟩ (.string (strOf a))) b { nd 2 with name := a } 0 (.slice none 0 0) [] s1) := hid (FB.put 2 F2.out (by decide) rfl); have X3 := hid (expect_any [46] O3.out.ps (by decide)); have HL3 := hid (HL1.out.trans (mark_lead [46] _ [] s1)); have HA3 := hid (mark_aft (L := L) [46] s1); have HE3 := hid (Nat.le_trans HE1.out (mark_le [46] O2.out.ps.le)); generalize markS L [46] s1 = s3 at *; go_wp2_with fail
  generalize World.setCell _ _ _ = w3 at O3 F3 X3 ⊢; clear c2 f2 HL1 HE1 O1 F1 O2 F2 H0; refine X3.out.mono ?_; rintro e w4 ⟨rfl, hp, ho⟩; have O4 := hid (O3.out.call hp ho); have F4 := hid (FB.aft (FB.call F3.out ho HLT.out) HA3.out); clear hp ho X3 O3 F3; have N5 := hid (name_rd O4.out.ps); have HL5 := hid (HL3.out.trans (use_lead2 (L := L) a s3)); have HA5 := hid (need_aft (L := L) 1 s3); have HE5 := hid (Nat.le_trans HE3.out (need_le (L := L) 1 O4.out.ps.le)); generalize (nameV L 1 s3).text = c at *; generalize needS L 1 s3 = s5 at *; clear HL3 HE3; go_wp2_with fail
  refine N5.out.mono ?_; rintro e w5 ⟨rfl, hp, ho⟩; have O5 := hid (O4.out.call hp ho); have F5 := hid (FB.aft (FB.call F4.out ho HLT.out) HA5.out); clear hp ho N5; obtain ⟨-, -, -, -, c4, -⟩ := F5.out.bb.at; have f4 := F5.out.bb.free 4 (by decide); have O6 := hid (O5.out.setCell b F5.out.own 4 (.string (strOf c))); have F6 : Hid (FB w (w5.setCell ⟨b, 4, none⟩ (.string (strOf c))) b { nd 2 with name := a, text := c } 0 (.slice none 0 0) [] s5) := hid (FB.put 4 F5.out (by decide) rfl); have X6 := hid (expect_any [47] O6.out.ps (by decide)); have HL6 := hid (HL5.out.trans (mark_lead [47] _ [] s5)); have HA6 := hid (mark_aft (L := L) [47] s5); have HE6 := hid (Nat.le_trans HE5.out (mark_le [47] O5.out.ps.le)); generalize markS L [47] s5 = s6 at *; go_wp2_with fail
  generalize World.setCell _ _ _ = w6 at O6 F6 X6 ⊢; clear c4 f4 HL5 HE5 O4 F4 O5 F5; refine X6.out.mono ?_; rintro e w7 ⟨rfl, hp, ho⟩; have O7 := hid (O6.out.call hp ho); have F7 := hid (FB.aft (FB.call F6.out ho HLT.out) HA6.out); clear hp ho X6 O6 F6; have N8 := hid (number_rd O7.out.ps); have HL8 := hid (HL6.out.trans (use_lead3 (L := L) a c s6)); have HA8 := hid (need_aft (L := L) 2 s6); have HE8 := hid (Nat.le_trans HE6.out (need_le (L := L) 2 O7.out.ps.le)); generalize (nameV L 2 s6).n = z at *; generalize needS L 2 s6 = s8 at *; clear HL6 HE6; go_wp2_with fail
  refine N8.out.mono ?_; rintro e w8 ⟨rfl, hp, ho⟩; have O8 := hid (O7.out.call hp ho); have F8 := hid (FB.aft (FB.call F7.out ho HLT.out) HA8.out); clear hp ho N8; obtain ⟨-, -, -, c3, -, -⟩ := F8.out.bb.at; have f3 := F8.out.bb.free 3 (by decide); have O9 := hid (O8.out.setCell b F8.out.own 3 (.int .i64 z)); have F9 : Hid (FB w (w8.setCell ⟨b, 3, none⟩ (.int .i64 z)) b { nd 2 with name := a, text := c, n := z } 0 (.slice none 0 0) [] s8) := hid (FB.put 3 F8.out (by decide) rfl); have X9 := hid (expect_any [59] O9.out.ps (by decide)); have HL9 : Hid (Leads L [.useN] [] s [] [join { nd 2 with name := a, text := c, n := z } []] (markS L [59] s8)) := hid ((HL8.out.trans (mark_lead [59] _ [] s8)).trans (Leads.mk _ [] 0 rfl _)); have HA9 := hid (mark_aft (L := L) [59] s8); have HE9 := hid (Nat.le_trans HE8.out (mark_le [59] O8.out.ps.le)); generalize markS L [59] s8 = s9 at *; go_wp2_with fail
  generalize World.setCell _ _ _ = w9 at O9 F9 X9 ⊢; clear c3 f3 HL8 HE8 O7 F7 O8 F8; refine X9.out.mono ?_; rintro e w10 ⟨rfl, hp, ho⟩; have O10 := hid (O9.out.call hp ho); have F10 := hid (FB.aft (FB.call F9.out ho HLT.out) HA9.out); clear hp ho X9; go_wp2; go_ret; exact ⟨b, _, s9, rfl, HL9.out, O10.out.ps, O10.out.only, FB.sb F10.out, HE9.out⟩
end Go.Proofs.YtmljjpdodcpohaaGreatDoor.Pa

namespace Go.Proofs.YtmljjpdodcpohaaGreatDoor.Pa
open Lib (hid)
set_option maxRecDepth 100000
set_option maxHeartbeats 8000000
open Go.RowKit Dk Lx Tr
def ModRun (L : List Tk) (t : List Nd) : St → Prop
  | .ok _ => To L (.run [.mod] [] 0) (.fin [t])
  | .bad k => To L (.run [.mod] [] 0) (.bad k)
structure ModOk (L : List Tk) (g : Nat) (vt : Value) (w : World) (e : Ending) (w' : World) (b : Nat) (t : List Nd) (s' : St) : Prop where
  ret : e = .returned (ptr b)
  ps : PS L g vt w' s'
  only : Only (fun k => k = g) w w'
  br : SB w' (fun k => k < w.heap.size) b t s'
  run : ModRun L t s'
theorem mod_lead1 {L : List Tk} (s : St) : Leads L [.mod] [] s [.mark [109, 111, 100, 117, 108, 101], .modN] [] s := by
  cases s with
  | bad k => exact rfl
  | ok j => exact .yes (fun V => rfl)
theorem mod_lead2 {L : List Tk} (s : St) : Leads L [.modN] [] s [.modI (nameV L 1 s).text] [] (needS L 1 s) :=
  need_lead .modN 1 [] s (fun t => [.modI t.text]) (fun V i => by rw [← tx_getD]; rfl)
theorem mod_lead3 {L : List Tk} (a : List UInt8) (s : St) : Leads L [.modI a] [] s [.mark [59], .uses { nd 1 with name := a, n := (nameV L 2 s).n } 0] [] (needS L 2 s) :=
  need_lead (.modI a) 2 [] s (fun t => [.mark [59], .uses { nd 1 with name := a, n := t.n } 0]) (fun V i => by rw [← nm_getD]; rfl)
theorem uses_more {L : List Tk} {x : Nd} {m j : Nat} (us : List (List Nd)) (h : sg L j = [117, 115, 101]) : Leads L [.uses x m] us (.ok j) [.useN, .uses x (m + 1)] us (.ok (j + 1)) := .yes (fun V => by
  change (if sg L j = [117, 115, 101] then some ([Sy.useN, .uses x (m + 1)], us.reverse ++ V, j + 1) else some ([.funs x m], us.reverse ++ V, j)) = _
  exact if_pos h)
theorem uses_end {L : List Tk} {x : Nd} {m : Nat} (us : List (List Nd)) {s : St} (h : sgS L s ≠ [117, 115, 101]) : Leads L [.uses x m] us s [.funs x m] us s := by
  cases s with
  | bad k => exact rfl
  | ok j => exact .yes (fun V => by
      change (if sg L j = [117, 115, 101] then some ([Sy.useN, .uses x (m + 1)], us.reverse ++ V, j + 1) else some ([.funs x m], us.reverse ++ V, j)) = _
      exact if_neg h)
theorem funs_more {L : List Tk} {x : Nd} {m j : Nat} (us : List (List Nd)) (h : sg L j = [102, 110]) : Leads L [.funs x m] us (.ok j) [.funN, .funs x (m + 1)] us (.ok (j + 1)) := .yes (fun V => by
  change (if sg L j = [102, 110] then some ([Sy.funN, .funs x (m + 1)], us.reverse ++ V, j + 1) else some ([.mk x m], us.reverse ++ V, j)) = _
  exact if_pos h)
theorem funs_end {L : List Tk} {x : Nd} {m : Nat} (us : List (List Nd)) {s : St} (h : sgS L s ≠ [102, 110]) : Leads L [.funs x m] us s [.mk x m] us s := by
  cases s with
  | bad k => exact rfl
  | ok j => exact .yes (fun V => by
      change (if sg L j = [102, 110] then some ([Sy.funN, .funs x (m + 1)], us.reverse ++ V, j + 1) else some ([.mk x m], us.reverse ++ V, j)) = _
      exact if_neg h)
theorem funN_lead {L : List Tk} (us : List (List Nd)) (s : St) : Leads L [.funN] us s [.fn { nd 3 with name := (nameV L 1 s).text }] us (needS L 1 s) :=
  need_lead .funN 1 us s (fun t => [.fn { nd 3 with name := t.text }]) (fun V i => by rw [← tx_getD]; rfl)
theorem mod_end {L : List Tk} {t : List Nd} {s : St} (h : Leads L [.mod] [] (.ok 0) [] [t] s) (hs : nx L s ≤ L.length) : ModRun L t (if nx L s < L.length then failS s else s) := by
  cases s with
  | bad k =>
    have e : nx L (.bad k) = L.length := rfl; rw [if_neg (by omega)]; have := h [] []; exact this
  | ok i =>
    have h1 := h [] []; have e : nx L (.ok i) = i := rfl; by_cases hi : i < L.length
    · rw [if_pos (by omega)]
      exact To.trans h1 (To.head ⟨0, by
        show (if i = L.length then Cfg.fin [t] else Cfg.bad i) = _
        rw [if_neg (by omega)]⟩)
    · rw [if_neg (by omega)]
      exact To.trans h1 (To.head ⟨0, by
        show (if i = L.length then Cfg.fin [t] else Cfg.bad i) = _
        rw [if_pos (by omega)]⟩)
theorem module_rd (L : List Tk) (g : Nat) (vt : Value) (w : World) (h : PS L g vt w (.ok 0)) : Calls Tryz.prog 86 #[ptr g] w fun e w' => ∃ b t s', ModOk L g vt w e w' b t s' := by
  have H0 := hid (On.start h); have HLT := hid h.lt; have HFEW := hid h.few; have G := hid (fun W => grow_any (nd 1) none 0 0 W); unfold nd Nd.cells at G; obtain ⟨pt, ct, hvt, hct⟩ := h.form; obtain ⟨n, hn⟩ : ∃ n, n = L.length := ⟨_, rfl⟩; have HN := hid hn; have HVT : Hid (vt = .slice pt n ct) := hid (by rw [hvt, hn]); obtain ⟨i0, hi0, hy0, hy1, hy2⟩ := info_parts ptr_info3; have X1 := hid (expect_any [109, 111, 100, 117, 108, 101] h (by decide)); have HL1 : Hid (Leads L [.mod] [] (.ok 0) [.modN] [] (markS L [109, 111, 100, 117, 108, 101] (.ok 0))) := hid ((mod_lead1 (.ok 0)).trans (mark_lead _ _ [] _)); generalize markS L [109, 111, 100, 117, 108, 101] (.ok 0) = s1 at *; clear h hvt hct hn; go_enter Tryz.func86, Tryz.ntmps86
  go_wp2_with fail
  refine X1.out.mono ?_; rintro e w1 ⟨rfl, hp, ho⟩; have O1 := hid (H0.out.call hp ho); clear hp ho X1 H0; go_wp2_with fail
  refine (G.out _).mono ?_; rintro e w2 ⟨b, rfl, hb, hB, hbel⟩; have O2 := hid (O1.out.below hbel); have F2 : Hid (FB w w2 b (nd 1) 0 (.slice none 0 0) [] s1) := hid (FB.start (LR.nil w w1 _) O1.out.only.size hb hB hbel); clear hb hB hbel G O1; have N2 := hid (name_rd O2.out.ps); have HL3 := hid (HL1.out.trans (mod_lead2 (L := L) s1)); have HA3 := hid (need_aft (L := L) 1 s1); generalize (nameV L 1 s1).text = q at *; generalize needS L 1 s1 = s3 at *; clear HL1; go_wp2_with fail
  refine N2.out.mono ?_; rintro e w3 ⟨rfl, hp, ho⟩; have O3 := hid (O2.out.call hp ho); have F3 := hid (FB.aft (FB.call F2.out ho HLT.out) HA3.out); clear hp ho N2 O2 F2; obtain ⟨-, -, c2, -⟩ := F3.out.bb.at; have f2 := F3.out.bb.free 2 (by decide); have O4 := hid (O3.out.setCell b F3.out.own 2 (.string (strOf q))); have F4 : Hid (FB w (w3.setCell ⟨b, 2, none⟩ (.string (strOf q))) b { nd 1 with name := q } 0 (.slice none 0 0) [] s3) := hid (FB.put 2 F3.out (by decide) rfl); have N4 := hid (number_rd O4.out.ps); have HL5 := hid (HL3.out.trans (mod_lead3 (L := L) q s3)); have HA5 := hid (need_aft (L := L) 2 s3); generalize (nameV L 2 s3).n = z at *; generalize needS L 2 s3 = s5 at *; go_wp2_with fail
  generalize World.setCell _ _ _ = w4 at O4 F4 N4 ⊢; clear c2 f2 O3 F3 HL3; refine N4.out.mono ?_; rintro e w5 ⟨rfl, hp, ho⟩; have O5 := hid (O4.out.call hp ho); have F5 := hid (FB.aft (FB.call F4.out ho HLT.out) HA5.out); clear hp ho N4 O4 F4; obtain ⟨-, -, -, c3, -, -⟩ := F5.out.bb.at; have f3 := F5.out.bb.free 3 (by decide); have O6 := hid (O5.out.setCell b F5.out.own 3 (.int .i64 z)); have F6 : Hid (FB w (w5.setCell ⟨b, 3, none⟩ (.int .i64 z)) b { nd 1 with name := q, n := z } 0 (.slice none 0 0) [] s5) := hid (FB.put 3 F5.out (by decide) rfl); have X6 := hid (expect_any [59] O6.out.ps (by decide)); have HL7 := hid (HL5.out.trans (mark_lead [59] _ [] s5)); have HA7 := hid (mark_aft (L := L) [59] s5); generalize markS L [59] s5 = s7 at *; go_wp2_with fail
  generalize World.setCell _ _ _ = w6 at O6 F6 X6 ⊢; clear c3 f3 O5 F5 HL5; refine X6.out.mono ?_; rintro e w7 ⟨rfl, hp, ho⟩; have O7 := hid (O6.out.call hp ho); have F7 := hid (FB.aft (FB.call F6.out ho HLT.out) HA7.out); clear hp ho X6 O6 F6; go_wp2; go_loopg [] (L.length - nx L s7) (fun k wr => ∃ (cs : List (Nat × List Nd)) (s2 : St) (p : Option Addr) (m c : Nat), Hid (m = cs.length) ∧ Hid (FB w wr b { nd 1 with name := q, n := z } 0 (.slice p m c) cs s2) ∧ Hid (On L g vt w wr s2) ∧ Hid (Leads L [.mod] [] (.ok 0) [.uses { nd 1 with name := q, n := z } m] (cs.map (·.2)) s2) ∧ Hid (m ≤ nx L s2) ∧ Hid (k = L.length - nx L s2))
  case atStart => exact ⟨[], s7, none, 0, 0, hid rfl, F7, O7, HL7, hid (Nat.zero_le _), hid rfl⟩
  case round =>
    clear F7 O7 HL7; obtain ⟨cs, s2, p, m, c, HM, HF, HO, HL, HC, HK⟩ := hrel; by_cases hq : sgS L s2 = [117, 115, 101]
    · obtain ⟨j, rfl, hj, hjl⟩ := sgS_ok hq (by decide)
      have A := hid (accept_yes [117, 115, 101] HO.out.ps (by decide) hj); have HL2 := hid (HL.out.trans (uses_more _ hj)); have U := hid (use_rd L (.ok (j + 1))); have HJ := hid hjl; have HM1 : Hid (m + 1 = cs.length + 1) := hid (by rw [HM.out]); have HRW : Hid (∀ W s', FB w W b { nd 1 with name := q, n := z } 0 (.slice p m c) cs s' → ∀ b', (W.alloc (.cells #[ptr b'] 128)).ownsRow w.heap.size 128 1 (.slice p m c) m (bp (cs.map (·.1)))) := hid (fun W s' hf b' => by have := hf.row.alloc (.cells #[ptr b'] 128); rw [← HM.out] at this; exact this)
      have hmm : m ≤ 1000001 := by have := HC.out; have := HO.out.ps.le; have := HFEW.out; omega
      have HB1 : Hid (m + 1 ≤ maxLen) := hid (by unfold maxLen; omega)
      have HB2 : Hid ((m + 1) * 8 ≤ 140737488355328) := hid (by omega); have HB3 : Hid (∀ W s', On L g vt w W s' → ∀ b', w.heap.size ≤ (W.alloc (.cells #[ptr b'] 128)).heap.size) := hid (fun W s' ho b' => by have := ho.only.size; simp; omega)
      clear hmm; clear hq hj hjl HL; go_wp2_with fail
      refine A.out.mono ?_; rintro e v2 ⟨rfl, hp, ho⟩; have O2 := hid (HO.out.call hp ho); have F2 : Hid (FB w v2 b { nd 1 with name := q, n := z } 0 (.slice p m c) cs (.ok (j + 1))) := hid (FB.aft (FB.call HF.out ho HLT.out) (fun _ _ => ⟨j, rfl⟩)); clear hp ho A HO HF; go_upto_region 7 with fail
      obtain ⟨-, -, -, -, -, c5⟩ := F2.out.bb.at
      go_region_law (first
        | (go_simp; go_at_call 149; refine (U.out g vt _ (O2.out.below (Below.refl _ _).drew).ps).mono ?_; rintro e w4 ⟨b', t', s4, hk⟩; obtain ⟨rfl, hl, hps, honly, hbr, hle⟩ := hk; have O4 := hid ((O2.out.below (Below.refl _ _).drew).call hps honly); have F4 := hid (FB.aft (FB.call (FB.below F2.out (Below.refl _ _).drew) honly HLT.out) hl.aft); have N4 := hid (Kids.add (Kids.nil w4 (fun k => (k < w.heap.size ∨ (Value.slice p m c).ownBlock = some k) ∨ k = b) s4) (FB.news (FB.aft (FB.below F2.out (Below.refl _ _).drew) hl.aft) hbr O2.out.only.size)); have K4 := hid (And.intro hl hle); obtain ⟨-, -, -, -, -, c5'⟩ := F4.out.bb.at; obtain ⟨-, -, -, -, -, c5a⟩ := (FB.below F4.out ((Below.refl _ _).alloc (Nat.le_refl _) (.cells #[ptr b'] 128))).bb.at; have N1 := hid (news_at w4 #[ptr b'] 128); clear hl hps honly hbr hle)
        | (refine step_append_lies _ (by rfl) (.tmp 28) (.tmp 31) 172 (by rfl) w.heap.size 128 i0 (.pointer none) 1 8 Tryz.underlying172 hi0 hy0 hy1 hy2 (by rfl) (by decide) _ m (bp (cs.map (·.1))) (by rfl) (HRW.out _ _ F4.out _) ⟨w4.heap.size, 0, none⟩ 1 1 [ptr b'] (by rfl) (by rfl) N1.out (by simp [Value.oneCell']) (by decide) HB1.out HB2.out (HB3.out _ _ O4.out _) (w4.heap.size + 1) (by simp) ?_; intro g' cap w7 hrow hgr hgl hlt7; have HA := hid (FB.app F4.out ((Below.refl _ _).alloc (Nat.le_refl _) (.cells #[ptr b'] 128)) hgr); have HP := hid (FB.push F4.out N4.out ((Below.refl _ _).alloc (Nat.le_refl _) (.cells #[ptr b'] 128)) HM1.out hrow hgr (hgl.imp id (fun e => e.trans (by simp)))); clear hrow hgr hgl hlt7; obtain ⟨-, -, -, -, -, c7⟩ := HA.out.1.at; have f7 := HA.out.1.free 5 (by decide)))
      all_goals
        have O7 := hid (On.fb O4.out F4.out HP.out.2)
        have HLN : Hid (Leads L [.mod] [] (.ok 0) [.uses { nd 1 with name := q, n := z } (m + 1)] ((cs ++ [(b', t')]).map (·.2)) s4) := hid (HL2.out.trans (by
          have := K4.out.1.over [.uses { nd 1 with name := q, n := z } (m + 1)] (cs.map (·.2)); rw [List.append_nil] at this; rw [List.map_append]
          exact this))
        have HMS : Hid (m + 1 ≤ nx L s4 ∧ j + 1 ≤ nx L s4) := hid ⟨Nat.le_trans (Nat.succ_le_succ (show m ≤ j from HC.out)) K4.out.2, K4.out.2⟩; clear HA c7 f7 c5; go_wp2; go_roundg (L.length - nx L s4)
        case rel => exact ⟨_, s4, _, _, _, hid (by rw [List.length_append, ← HM.out]; rfl), hid HP.out.1, O7, HLN, hid HMS.out.1, hid rfl⟩
        case measure => have := HK.out; have := HMS.out.2; have := HJ.out; have e : nx L (.ok j) = j := rfl; omega
    · have A := hid (accept_no [117, 115, 101] HO.out.ps hq)
      have HL2 := hid (HL.out.trans (uses_end _ hq)); clear hq HL; go_wp2_with fail
      refine A.out.mono ?_; rintro e v2 ⟨rfl, hb⟩; have O2 := hid (HO.out.below hb); have F2 := hid (FB.below HF.out hb); clear hb A HO HF; go_wp2; go_loopg [] (L.length - nx L s2) (fun k wr => ∃ (cs : List (Nat × List Nd)) (s2 : St) (p : Option Addr) (m c : Nat), Hid (m = cs.length) ∧ Hid (FB w wr b { nd 1 with name := q, n := z } 0 (.slice p m c) cs s2) ∧ Hid (On L g vt w wr s2) ∧ Hid (Leads L [.mod] [] (.ok 0) [.funs { nd 1 with name := q, n := z } m] (cs.map (·.2)) s2) ∧ Hid (m ≤ nx L s2) ∧ Hid (k = L.length - nx L s2))
      case atStart => exact ⟨cs, s2, p, m, c, HM, F2, O2, HL2, HC, hid rfl⟩
      case round =>
        clear F2 O2 HL2 HM HC HK; obtain ⟨cs, s2, p, m, c, HM, HF, HO, HL, HC, HK⟩ := hrel; by_cases hq : sgS L s2 = [102, 110]
        · obtain ⟨j, rfl, hj, hjl⟩ := sgS_ok hq (by decide)
          have A := hid (accept_yes [102, 110] HO.out.ps (by decide) hj); have HL2 := hid (HL.out.trans (funs_more _ hj)); have HJ := hid hjl; have NM := hid (fun W (hp : PS L g vt W (.ok (j + 1))) => name_rd hp)
          have HL3 := hid (HL2.out.trans (by
            have := (funN_lead (L := L) [] (.ok (j + 1))).over [.funs { nd 1 with name := q, n := z } (m + 1)] (cs.map (·.2)); rw [List.append_nil] at this
            exact this))
          have HE3 := hid (need_le (L := L) 1 (s := .ok (j + 1)) hjl); have HA3 := hid (need_aft (L := L) 1 (.ok (j + 1))); generalize (nameV L 1 (.ok (j + 1))).text = fq at *; generalize needS L 1 (.ok (j + 1)) = s3 at *; have FN : Hid (∀ (W : World), PS L g vt W s3 → Calls Tryz.prog 150 #[ptr g, .agg #[.int .i64 3, .int .i64 0, .string (strOf fq), .int .i64 0, .string ⟨#[]⟩]] W fun e w' => ∃ b t s', RdOk L g vt [.fn ⟨3, 0, fq, 0, []⟩] s3 W e w' b t s') := hid (fun W hp => fn_all L ⟨3, 0, fq, 0, []⟩ s3 g vt W hp); have HM1 : Hid (m + 1 = cs.length + 1) := hid (by rw [HM.out]); have HRW : Hid (∀ W s', FB w W b { nd 1 with name := q, n := z } 0 (.slice p m c) cs s' → ∀ b', (W.alloc (.cells #[ptr b'] 128)).ownsRow w.heap.size 128 1 (.slice p m c) m (bp (cs.map (·.1)))) := hid (fun W s' hf b' => by have := hf.row.alloc (.cells #[ptr b'] 128); rw [← HM.out] at this; exact this)
          have hmm : m ≤ 1000001 := by have := HC.out; have := HO.out.ps.le; have := HFEW.out; omega
          have HB1 : Hid (m + 1 ≤ maxLen) := hid (by unfold maxLen; omega)
          have HB2 : Hid ((m + 1) * 8 ≤ 140737488355328) := hid (by omega); have HB3 : Hid (∀ W s', On L g vt w W s' → ∀ b', w.heap.size ≤ (W.alloc (.cells #[ptr b'] 128)).heap.size) := hid (fun W s' ho b' => by have := ho.only.size; simp; omega)
          clear hmm; clear hq hj hjl HL HL2; go_wp2_with fail
          refine A.out.mono ?_; rintro e v2 ⟨rfl, hp, ho⟩; have O2 := hid (HO.out.call hp ho); have F2 : Hid (FB w v2 b { nd 1 with name := q, n := z } 0 (.slice p m c) cs (.ok (j + 1))) := hid (FB.aft (FB.call HF.out ho HLT.out) (fun _ _ => ⟨j, rfl⟩)); clear hp ho A HO HF; go_upto_region 9 with fail
          obtain ⟨-, -, -, -, -, c5⟩ := F2.out.bb.at
          go_region_law (first
            | (go_simp; go_at_call 146; refine (NM.out _ (O2.out.below (Below.refl _ _).drew).ps).mono ?_; rintro e w3 ⟨rfl, hp, ho⟩; have O3 := hid ((O2.out.below (Below.refl _ _).drew).call hp ho); have F3 := hid (FB.aft (FB.call (FB.below F2.out (Below.refl _ _).drew) ho HLT.out) HA3.out); obtain ⟨-, -, -, -, -, c5n⟩ := F3.out.bb.at; clear hp ho)
            | (go_simp; go_at_call 150; refine (FN.out _ O3.out.ps).mono ?_; rintro e w4 ⟨b', t', s4, hk⟩; obtain ⟨rfl, hl, hps, honly, hbr, hle⟩ := hk; have O4 := hid (O3.out.call hps honly); have F4 := hid (FB.aft (FB.call F3.out honly HLT.out) hl.aft); have N4 := hid (Kids.add (Kids.nil w4 (fun k => (k < w.heap.size ∨ (Value.slice p m c).ownBlock = some k) ∨ k = b) s4) (FB.news (FB.aft F3.out hl.aft) hbr O3.out.only.size)); have K4 := hid (And.intro hl hle); obtain ⟨-, -, -, -, -, c5'⟩ := F4.out.bb.at; obtain ⟨-, -, -, -, -, c5a⟩ := (FB.below F4.out ((Below.refl _ _).alloc (Nat.le_refl _) (.cells #[ptr b'] 128))).bb.at; have N1 := hid (news_at w4 #[ptr b'] 128); clear hl hps honly hbr hle)
            | (refine step_append_lies _ (by rfl) (.tmp 41) (.tmp 47) 172 (by rfl) w.heap.size 128 i0 (.pointer none) 1 8 Tryz.underlying172 hi0 hy0 hy1 hy2 (by rfl) (by decide) _ m (bp (cs.map (·.1))) (by rfl) (HRW.out _ _ F4.out _) ⟨w4.heap.size, 0, none⟩ 1 1 [ptr b'] (by rfl) (by rfl) N1.out (by simp [Value.oneCell']) (by decide) HB1.out HB2.out (HB3.out _ _ O4.out _) (w4.heap.size + 1) (by simp) ?_; intro g' cap w7 hrow hgr hgl hlt7; have HA := hid (FB.app F4.out ((Below.refl _ _).alloc (Nat.le_refl _) (.cells #[ptr b'] 128)) hgr); have HP := hid (FB.push F4.out N4.out ((Below.refl _ _).alloc (Nat.le_refl _) (.cells #[ptr b'] 128)) HM1.out hrow hgr (hgl.imp id (fun e => e.trans (by simp)))); clear hrow hgr hgl hlt7; obtain ⟨-, -, -, -, -, c7⟩ := HA.out.1.at; have f7 := HA.out.1.free 5 (by decide)))
          all_goals
            have O7 := hid (On.fb O4.out F4.out HP.out.2)
            have HLN : Hid (Leads L [.mod] [] (.ok 0) [.funs { nd 1 with name := q, n := z } (m + 1)] ((cs ++ [(b', t')]).map (·.2)) s4) := hid (HL3.out.trans (by
              have := K4.out.1.over [.funs { nd 1 with name := q, n := z } (m + 1)] (cs.map (·.2)); rw [List.append_nil] at this; rw [List.map_append]
              exact this))
            have HMS : Hid (m + 1 ≤ nx L s4 ∧ j + 1 ≤ nx L s4) := hid ⟨Nat.le_trans (Nat.succ_le_succ (show m ≤ j from HC.out)) (Nat.le_trans HE3.out K4.out.2), Nat.le_trans HE3.out K4.out.2⟩; clear HA c7 f7 c5; go_wp2; go_roundg (L.length - nx L s4)
            case rel => exact ⟨_, s4, _, _, _, hid (by rw [List.length_append, ← HM.out]; rfl), hid HP.out.1, O7, HLN, hid HMS.out.1, hid rfl⟩
            case measure => have := HK.out; have := HMS.out.2; have := HJ.out; have e : nx L (.ok j) = j := rfl; omega
        · have A := hid (accept_no [102, 110] HO.out.ps hq)
          have HL2 : Hid (Leads L [.mod] [] (.ok 0) [] [join { nd 1 with name := q, n := z } (cs.map (·.2))] s2) := hid (HL.out.trans ((funs_end _ hq).trans (Leads.mk _ _ _ (by rw [HM.out]; simp) _)))
          have HR := hid (mod_end HL2.out HO.out.ps.le); clear hq HL; go_wp2_with fail
          refine A.out.mono ?_; rintro e v2 ⟨rfl, hb⟩; have O2 := hid (HO.out.below hb); have F2 := hid (FB.below HF.out hb); clear hb A HO HF HL2; obtain ⟨c0, c1, -, -⟩ := O2.out.ps.at; rw [HVT.out] at c0; have FL := hid (fun W (hp : PS L g vt W s2) => fail_any hp); by_cases hlt : nx L s2 < L.length
          · rw [if_pos hlt] at HR
            have z1 : ((nx L s2 : Nat) : Int) < (n : Int) := by have := HN.out; omega
            have HAF : Hid (Aft s2 (failS s2)) := hid (by cases s2 with | ok i => exact (fun _ _ => ⟨i, rfl⟩) | bad k => exact (fun _ hi => by cases hi)); clear hlt; go_wp2_with fail
            go_quiet (fail)
            clear c0 c1; go_wp2_with fail
            refine (FL.out _ (O2.out.below (bdN (Below.refl _ _) _)).ps).mono ?_; rintro e v4 ⟨rfl, hp, ho⟩; have O4 := hid ((O2.out.below (bdN (Below.refl _ _) _)).call hp ho); have F4 := hid (FB.aft (FB.call (FB.below F2.out (bdN (Below.refl _ _) _)) ho HLT.out) HAF.out); clear hp ho; go_wp2; go_ret; exact ⟨b, _, _, rfl, O4.out.ps, O4.out.only, FB.sb F4.out, HR.out⟩
          · rw [if_neg hlt] at HR
            have z1 : ¬((nx L s2 : Nat) : Int) < (n : Int) := by have := HN.out; omega
            clear hlt; go_wp2_with fail
            go_quiet (fail)
            clear c0 c1; go_wp2; go_ret; exact ⟨b, _, s2, rfl, (O2.out.below (bdN (Below.refl _ _) _)).ps, (O2.out.below (bdN (Below.refl _ _) _)).only, FB.sb (FB.below F2.out (bdN (Below.refl _ _) _)), HR.out⟩
end Go.Proofs.YtmljjpdodcpohaaGreatDoor.Pa

