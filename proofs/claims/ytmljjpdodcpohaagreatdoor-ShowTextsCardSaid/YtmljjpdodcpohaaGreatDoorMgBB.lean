/- The walk of named; The walk of prim. No condition but those that each states. -/
import Derived.Test.YtmljjpdodcpohaaGreatDoorMgBA
namespace Go.Proofs.YtmljjpdodcpohaaGreatDoor.Pa
open Lib (hid)
set_option maxRecDepth 100000
set_option maxHeartbeats 4000000
open Go.RowKit Dk Lx Tr
theorem LR.base {w w2 W : World} {v : Value} {cs : List (Nat × List Nd)} {s : St} (h : LR w2 W v cs s) (hw : w.heap.size ≤ w2.heap.size) : LR w W v cs s :=
  ⟨ownsRow_base h.row (fun b hb => Nat.le_trans hw (Tr.own_lo h.row b hb).1), Kids.weaken h.kids (fun i _ hi => hi.elim (fun h => .inl (by omega)) .inr)⟩
def FnRd (L : List Tk) (x : Nd) (s : St) : Prop := ∀ (g : Nat) (vt : Value) (w : World), PS L g vt w s →
  Calls Tryz.prog 150 #[ptr g, .agg x.cells.toArray] w fun e w' => ∃ b t s', RdOk L g vt [.fn x] s w e w' b t s'
theorem outer_dot {L : List Tk} {a : List UInt8} {j : Nat} (h : sg L j = [46]) : Leads L [.outer a] [] (.ok j) [.outN a] [] (.ok (j + 1)) := .yes (fun V => by
  show (if sg L j = [46] then some ([Sy.outN a], V, j + 1) else some ([.mk { nd 21 with name := a } 0], V, j)) = _
  exact if_pos h)
theorem outer_no {L : List Tk} {a : List UInt8} {s : St} (h : sgS L s ≠ [46]) : Leads L [.outer a] [] s [.mk { nd 21 with name := a } 0] [] s := by
  cases s with
  | bad k => exact rfl
  | ok j => exact .yes (fun V => by
      show (if sg L j = [46] then some ([Sy.outN a], V, j + 1) else some ([.mk { nd 21 with name := a } 0], V, j)) = _
      exact if_neg h)
theorem one_prim (L : List Tk) (V : List (List Nd)) (i : Nat) : one L .prim V i = if kd L i = 2 then some ([.mk { nd 19 with n := nm L i } 0], V, i + 1)
      else if kd L i = 3 then some ([.mk { nd 20 with text := tx L i } 0], V, i + 1)
      else if kd L i = 1 then some ([.outer (tx L i)], V, i + 1)
      else (primA (sg L i)).map fun A => (A, V, i + 1) := rfl
theorem outN_lead {L : List Tk} (a : List UInt8) (s : St) : Leads L [.outN a] [] s [.mark [40], .lF false { nd 23 with name := a, text := (nameV L 1 s).text } 0] [] (needS L 1 s) :=
  need_lead (.outN a) 1 [] s (fun t => [.mark [40], .lF false { nd 23 with name := a, text := t.text } 0]) (fun V i => by rw [← tx_getD]; rfl)
theorem lC_args {L : List Tk} {x : Nd} {m : Nat} (us : List (List Nd)) (s : St) : Leads L [.lC false x m] us s [.mk x m] us s := by
  cases s with
  | bad k => exact rfl
  | ok j => exact .yes (fun V => rfl)
theorem mu_zero {L : List Tk} {j n : Nat} {s : St} (h : mu L (.ok j) ≤ n) (ha : ∀ i, s = .ok i → j < i) (hl : nx L s ≤ L.length) : mu L s < n := by
  cases s with
  | bad k => exact Nat.lt_of_lt_of_le (Nat.succ_pos _) h
  | ok i =>
    have h1 := ha i rfl; have h2 : i ≤ L.length := hl; have h3 : L.length - j + 1 ≤ n := h; show L.length - i + 1 < n
    omega
theorem need_ok {L : List Tk} {k : Int} {j : Nat} {s : St} (h : s = needS L k (.ok j)) : ∀ i, s = .ok i → i = j + 1 := by
  intro i hi; rw [hi] at h; unfold needS at h; dsimp only at h
  split at h
  · cases h; rfl
  · cases h
theorem mark_ok {L : List Tk} {q : List UInt8} {s0 s : St} (h : s = markS L q s0) : ∀ i, s = .ok i → ∃ j, s0 = .ok j ∧ i = j + 1 := by
  intro i hi; cases s0 with
  | bad k => rw [hi] at h; cases h
  | ok j =>
    rw [hi] at h; unfold markS at h; dsimp only at h
    split at h
    · cases h; exact ⟨j, rfl, rfl⟩
    · cases h
theorem named_rd (L : List Tk) (n : Nat) (hE : RdN L 231 [.e 0] n) (j : Nat) (hk : kd L j = 1) (hs : mu L (.ok j) ≤ n) : Rd L 261 [.prim] (.ok j) := by
  intro g vt w h; have hjl : j < L.length := kd_lt (by rw [hk]; decide)
  have N := hid (name_rd h); have e1 : needS L 1 (.ok j) = .ok (j + 1) := if_pos hk; have e2 : (nameV L 1 (.ok j)).text = tx L j := by rw [tx_getD]; exact congrArg Tk.text (if_pos hk)
  rw [e1, e2] at N; have HL1 : Hid (Leads L [.prim] [] (.ok j) [.outer (tx L j)] [] (.ok (j + 1))) := hid (.yes (fun V => by rw [one_prim, if_neg (by rw [hk]; decide), if_neg (by rw [hk]; decide), if_pos hk]))
  generalize tx L j = q at *; have H0 := hid (On.start h); have HMU := hid hs; have HE := hid hE; have HJ := hid hjl; clear h e1 e2 hk hE hs hjl; go_enter Tryz.func261, Tryz.ntmps261
  go_wp2_with fail
  refine N.out.mono ?_; rintro e w1 ⟨rfl, hp, ho⟩; have H1 := hid (H0.out.call hp ho); clear hp ho N; by_cases hq : sg L (j + 1) = [46]
  · have A := hid (accept_yes [46] H1.out.ps (by decide) hq)
    have HL2 := hid (HL1.out.trans (outer_dot hq)); have hj2 : j + 1 < L.length := sg_lt (by rw [hq]; simp)
    have HJ2 := hid hj2; clear hq HL1 hj2; go_wp2_with fail
    refine A.out.mono ?_; rintro e w2 ⟨rfl, hp, ho⟩; have H2 := hid (H1.out.call hp ho); have N2 := hid (name_rd hp); have HL3 := hid (HL2.out.trans (outN_lead q (.ok (j + 1 + 1)))); have HS3 : Hid (∀ i, needS L 1 (.ok (j + 1 + 1)) = .ok i → i = j + 1 + 1 + 1) := hid (need_ok rfl); have HLE3 : Hid (j ≤ nx L (needS L 1 (.ok (j + 1 + 1)))) := hid (Nat.le_trans (by show j ≤ j + 1 + 1; omega) (need_le 1 H2.out.ps.le))
    generalize needS L 1 (.ok (j + 1 + 1)) = s3 at *; generalize (nameV L 1 (.ok (j + 1 + 1))).text = f at *; clear hp ho A HL2; go_wp2_with fail
    refine N2.out.mono ?_; rintro e w3 ⟨rfl, hp, ho⟩; have H3 := hid (H2.out.call hp ho); clear hp ho N2
    have hm3 : mu L (markS L [40] s3) < n := mu_zero HMU.out (fun i hi => by
      obtain ⟨j', h1, h2⟩ := mark_ok rfl i hi; have := HS3.out j' h1
      omega) (by
      cases hh : markS L [40] s3 with
      | bad k => exact Nat.le_refl _
      | ok i =>
        obtain ⟨j', h1, h2⟩ := mark_ok rfl i hh; subst h2; rw [h1] at hh; unfold markS at hh; dsimp only at hh
        split at hh
        · rename_i h3; exact sg_lt (by rw [h3]; simp)
        · cases hh)
    have LS := hid (list_any L 231 enters_expr false n HE.out s3 hm3 g vt w3 H3.out.ps); clear hm3; go_wp2_with fail
    refine LS.out.mono ?_; rintro e w4 ⟨v, cs, s4, hk⟩; have hle := hk.leads; have hnx := hk.le H3.out.ps.le; obtain ⟨rfl, hon, hlr, -, -, -, ⟨p4, c4, rfl⟩, -⟩ := hk; have H4 := hid (H3.out.call hon.ps hon.only); have R4 := hid (hlr.base (w := w) H3.out.only.size)
    have HL4 : Hid (Leads L [.prim] [] (.ok j) [] [join { nd 23 with name := q, text := f } (cs.map (·.2))] s4) := hid ((HL3.out.trans (hle { nd 23 with name := q, text := f } 0)).trans ((lC_args _ _).trans (by
      rw [Nat.zero_add]
      exact Leads.mk _ _ _ (by simp) _)))
    have HLE4 : Hid (j ≤ nx L s4) := hid (Nat.le_trans HLE3.out hnx); have G := hid (fun W => grow_any ⟨23, 0, q, 0, f⟩ p4 cs.length c4 W); clear hon hlr hle hnx LS HL3; go_wp2_with fail
    refine (G.out _).mono ?_; rintro e w6 ⟨b6, rfl, hb, hB, hbel⟩; have H6 := hid (H4.out.below hbel); have HSB : Hid (SB w6 (fun k => k < w.heap.size) b6 (join { nd 23 with name := q, text := f } (cs.map (·.2))) s4) := hid (sb_node hB (by have := H4.out.only.size; omega) (R4.out.below hbel))
    clear hbel hb hB G; go_wp2; go_ret; exact ⟨b6, _, s4, rfl, HL4.out, H6.out.ps, H6.out.only, HSB.out, HLE4.out⟩
  · have A := hid (accept_no [46] H1.out.ps hq)
    have HL2 : Hid (Leads L [.prim] [] (.ok j) [] [join { nd 21 with name := q } []] (.ok (j + 1))) := hid (HL1.out.trans ((outer_no (s := .ok (j + 1)) hq).trans (Leads.mk _ [] 0 rfl _))); have G := hid (fun W => grow_any ⟨21, 0, q, 0, []⟩ none 0 0 W); clear hq HL1; go_wp2_with fail
    refine A.out.mono ?_; rintro e w2 ⟨rfl, hb⟩; have H2 := hid (H1.out.below hb); clear hb A; go_wp2_with fail
    refine (G.out _).mono ?_; rintro e w6 ⟨b6, rfl, hb, hB, hbel⟩; have H6 := hid (H2.out.below hbel); have HSB : Hid (SB w6 (fun k => k < w.heap.size) b6 (join { nd 21 with name := q } []) (.ok (j + 1))) := hid (sb_node (cs := []) hB (by have := H2.out.only.size; omega) (LR.nil _ _ _))
    clear hbel hb hB G; go_wp2; go_ret; exact ⟨b6, _, .ok (j + 1), rfl, HL2.out, H6.out.ps, H6.out.only, HSB.out, Nat.le_succ _⟩
end Go.Proofs.YtmljjpdodcpohaaGreatDoor.Pa

namespace Go.Proofs.YtmljjpdodcpohaaGreatDoor.Pa
open Lib (hid)
set_option maxRecDepth 100000
set_option maxHeartbeats 4000000
open Go.RowKit Dk Lx Tr
theorem prim_mark {L : List Tk} {j : Nat} {A : List Sy} (h1 : kd L j ≠ 1) (h2 : kd L j ≠ 2) (h3 : kd L j ≠ 3) (h : primA (sg L j) = some A) : Leads L [.prim] [] (.ok j) A [] (.ok (j + 1)) := .yes (fun V => by
  rw [one_prim, if_neg h2, if_neg h3, if_neg h1, h]; rfl)
theorem prim_none {L : List Tk} {s : St} {B : List Sy} {ts : List (List Nd)} (h1 : kdS L s ≠ 1) (h2 : kdS L s ≠ 2) (h3 : kdS L s ≠ 3) (h : primA (sgS L s) = none) : Leads L [.prim] [] s B ts (failS s) := by
  cases s with
  | bad k => exact rfl
  | ok j => exact .no (fun V => by
      rw [one_prim, if_neg (show ¬kd L j = 2 from h2), if_neg (show ¬kd L j = 3 from h3), if_neg (show ¬kd L j = 1 from h1), show primA (sg L j) = none from h]; rfl)
theorem sgS_kd {L : List Tk} {s : St} (h : sgS L s ≠ []) : kdS L s = 5 ∨ kdS L s = 4 := sg_kd h
theorem prim_int (L : List Tk) (j : Nat) (hk : kd L j = 2) : Rd L 260 [.prim] (.ok j) := by
  intro g vt w h; have hjl : j < L.length := kd_lt (by rw [hk]; decide)
  have KD := hid (kind_any h); rw [show kdS L (.ok j) = 2 from hk] at KD; have N := hid (fun W (hp : PS L g vt W (.ok j)) => number_rd hp); have e1 : needS L 2 (.ok j) = .ok (j + 1) := if_pos hk; have e2 : (nameV L 2 (.ok j)).n = nm L j := by rw [nm_getD]; exact congrArg Tk.n (if_pos hk)
  rw [e1, e2] at N; have HL : Hid (Leads L [.prim] [] (.ok j) [] [join { nd 19 with n := nm L j } []] (.ok (j + 1))) := hid ((show Leads L [.prim] [] (.ok j) [.mk { nd 19 with n := nm L j } 0] [] (.ok (j + 1)) from .yes (fun V => by rw [one_prim, if_pos hk])).trans (Leads.mk _ [] 0 rfl _)); generalize nm L j = q at *; have H0 := hid (On.start h); have G := hid (fun W => grow_any ⟨19, 0, [], q, []⟩ none 0 0 W); clear h e1 e2 hk hjl; go_enter Tryz.func260, Tryz.ntmps260
  go_wp2_with fail
  refine KD.out.mono ?_; rintro e w1 ⟨rfl, hb⟩; have H1 := hid (H0.out.below hb); clear hb; go_wp2_with fail
  refine (N.out _ H1.out.ps).mono ?_; rintro e w2 ⟨rfl, hp, ho⟩; have H2 := hid (H1.out.call hp ho); clear hp ho N; go_wp2_with fail
  refine (G.out _).mono ?_; rintro e w9 ⟨b6, rfl, hb, hB, hbel⟩; have H9 := hid (H2.out.below hbel); have HSB : Hid (SB w9 (fun k => k < w.heap.size) b6 (join { nd 19 with n := q } []) (.ok (j + 1))) := hid (sb_node (cs := []) hB (by have := H2.out.only.size; omega) (LR.nil _ _ _))
  clear hbel hb hB G; go_wp2; go_ret; exact ⟨b6, _, _, rfl, HL.out, H9.out.ps, H9.out.only, HSB.out, Nat.le_succ _⟩
theorem prim_text (L : List Tk) (j : Nat) (hk : kd L j = 3) : Rd L 260 [.prim] (.ok j) := by
  intro g vt w h; have hjl : j < L.length := kd_lt (by rw [hk]; decide)
  have KD := hid (kind_any h); rw [show kdS L (.ok j) = 3 from hk] at KD; have N := hid (fun W (hp : PS L g vt W (.ok j)) => token_any 3 hp (by decide)); have e1 : needS L 3 (.ok j) = .ok (j + 1) := if_pos hk; have e2 : (nameV L 3 (.ok j)).text = tx L j := by rw [tx_getD]; exact congrArg Tk.text (if_pos hk)
  rw [e1] at N; have HL : Hid (Leads L [.prim] [] (.ok j) [] [join { nd 20 with text := tx L j } []] (.ok (j + 1))) := hid ((show Leads L [.prim] [] (.ok j) [.mk { nd 20 with text := tx L j } 0] [] (.ok (j + 1)) from .yes (fun V => by rw [one_prim, if_neg (by rw [hk]; decide), if_pos hk])).trans (Leads.mk _ [] 0 rfl _))
  rw [← e2] at HL; generalize nameV L 3 (.ok j) = E at *; obtain ⟨ek, q, en, ep⟩ := E; have hfd : ∀ W : World, (Instr.field 73 (.agg #[.int .i64 ek, .string (strOf q), .int .i64 en, .int .i64 ep]) 1).run Tryz.prog W = .ok (.string (strOf q)) W := fun _ => by kernel_rfl
  simp only [Tk.cells] at N; have H0 := hid (On.start h); have G := hid (fun W => grow_any ⟨20, 0, [], 0, q⟩ none 0 0 W); clear h e1 e2 hk hjl; go_enter Tryz.func260, Tryz.ntmps260
  go_wp2_with fail
  refine KD.out.mono ?_; rintro e w1 ⟨rfl, hb⟩; have H1 := hid (H0.out.below hb); clear hb; go_wp2_with fail
  refine (N.out _ H1.out.ps).mono ?_; rintro e w2 ⟨rfl, hp, ho⟩; have H2 := hid (H1.out.call hp ho); clear hp ho N; go_wp2_with fail
  refine (G.out _).mono ?_; rintro e w9 ⟨b6, rfl, hb, hB, hbel⟩; have H9 := hid (H2.out.below hbel); have HSB : Hid (SB w9 (fun k => k < w.heap.size) b6 (join { nd 20 with text := q } []) (.ok (j + 1))) := hid (sb_node (cs := []) hB (by have := H2.out.only.size; omega) (LR.nil _ _ _))
  clear hbel hb hB G; go_wp2; go_ret; exact ⟨b6, _, _, rfl, HL.out, H9.out.ps, H9.out.only, HSB.out, Nat.le_succ _⟩
theorem prim_named (L : List Tk) (n : Nat) (hE : RdN L 231 [.e 0] n) (j : Nat) (hk : kd L j = 1) (hs : mu L (.ok j) ≤ n) : Rd L 260 [.prim] (.ok j) := by
  intro g vt w h; have KD := hid (kind_any h); rw [show kdS L (.ok j) = 1 from hk] at KD; have N := hid (named_rd L n hE j hk hs); have H0 := hid (On.start h); clear h hk hE hs; go_enter Tryz.func260, Tryz.ntmps260
  go_wp2_with fail
  refine KD.out.mono ?_; rintro e w1 ⟨rfl, hb⟩; have H1 := hid (H0.out.below hb); have HB := hid hb; clear hb; go_wp2_with fail
  refine (N.out g vt w1 H1.out.ps).mono ?_; rintro e w2 ⟨b, t, s2, hk⟩; have HK := hid (hk.behind HB.out); obtain ⟨rfl, -⟩ := hk; go_wp2; go_ret; exact ⟨b, t, s2, HK.out⟩
theorem prim_nil (L : List Tk) (s : St) (hq : sgS L s = [110, 105, 108]) : Rd L 260 [.prim] s := by
  intro g vt w h; have hkd : kdS L s = 5 ∨ kdS L s = 4 := sgS_kd (by rw [hq]; simp)
  have KD := hid (kind_any h); generalize hkk : kdS L s = kk at *; have z1 : (kk == 1) = false := by rcases hkd with rfl | rfl <;> rfl
  have z2 : (kk == 2) = false := by rcases hkd with rfl | rfl <;> rfl
  have z3 : (kk == 3) = false := by rcases hkd with rfl | rfl <;> rfl
  have hkk1 : kdS L s ≠ 1 ∧ kdS L s ≠ 2 ∧ kdS L s ≠ 3 := by rw [hkk]; rcases hkd with rfl | rfl <;> decide
  obtain ⟨j, rfl, hj, hjl⟩ := sgS_ok hq (by decide); have HJ := hid hjl; have HQ : Hid (sgS L (.ok j) = [110, 105, 108]) := hid hj; have NO : Hid (∀ (q : List UInt8) W, PS L g vt W (.ok j) → sgS L (.ok j) ≠ q → Calls Tryz.prog 148 #[ptr g, .string (strOf q)] W fun e w' => e = .returned (.bool false) ∧ Below W.heap.size W w') := hid (fun q W hp hne => accept_no q hp hne); have YES : Hid (∀ W, PS L g vt W (.ok j) → Calls Tryz.prog 148 #[ptr g, .string (strOf [110, 105, 108])] W fun e w' => e = .returned (.bool true) ∧ PS L g vt w' (.ok (j + 1)) ∧ Only (fun k => k = g) W w') := hid (fun W hp => accept_yes [110, 105, 108] hp (by decide) hj); have HLA : Hid (Leads L [.prim] [] (.ok j) [.mk (nd 18) 0] [] (.ok (j + 1))) := hid (prim_mark hkk1.1 hkk1.2.1 hkk1.2.2 (by rw [hj]; rfl))
  have H0 := hid (On.start h); have G := hid (fun W => grow_any (nd 18) none 0 0 W); unfold nd Nd.cells at G; have HL : Hid (Leads L [.prim] [] (.ok j) [] [join (nd 18) []] (.ok (j + 1))) := hid (HLA.out.trans (Leads.mk _ [] 0 rfl _)); clear h hq hj hjl hkd hkk hkk1; go_enter Tryz.func260, Tryz.ntmps260
  go_wp2_with fail
  refine KD.out.mono ?_; rintro e w1 ⟨rfl, hb⟩; have H1 := hid (H0.out.below hb); clear hb; go_wp2_with fail
  refine (YES.out _ H1.out.ps).mono ?_; rintro e w2 ⟨rfl, hp, ho⟩; have H2 := hid (H1.out.call hp ho); clear hp ho; go_wp2_with fail
  refine (G.out _).mono ?_; rintro e w9 ⟨b6, rfl, hb, hB, hbel⟩; have H9 := hid (H2.out.below hbel); have HSB : Hid (SB w9 (fun k => k < w.heap.size) b6 (join (nd 18) []) (.ok (j + 1))) := hid (sb_node (cs := []) hB (by have := H2.out.only.size; omega) (LR.nil _ _ _))
  clear hbel hb hB G; go_wp2; go_ret; exact ⟨b6, _, _, rfl, HL.out, H9.out.ps, H9.out.only, HSB.out, Nat.le_succ _⟩
theorem prim_state (L : List Tk) (s : St) (hq : sgS L s = [115, 116, 97, 116, 101]) : Rd L 260 [.prim] s := by
  intro g vt w h; have hkd : kdS L s = 5 ∨ kdS L s = 4 := sgS_kd (by rw [hq]; simp)
  have KD := hid (kind_any h); generalize hkk : kdS L s = kk at *; have z1 : (kk == 1) = false := by rcases hkd with rfl | rfl <;> rfl
  have z2 : (kk == 2) = false := by rcases hkd with rfl | rfl <;> rfl
  have z3 : (kk == 3) = false := by rcases hkd with rfl | rfl <;> rfl
  have hkk1 : kdS L s ≠ 1 ∧ kdS L s ≠ 2 ∧ kdS L s ≠ 3 := by rw [hkk]; rcases hkd with rfl | rfl <;> decide
  obtain ⟨j, rfl, hj, hjl⟩ := sgS_ok hq (by decide); have HJ := hid hjl; have HQ : Hid (sgS L (.ok j) = [115, 116, 97, 116, 101]) := hid hj; have NO : Hid (∀ (q : List UInt8) W, PS L g vt W (.ok j) → sgS L (.ok j) ≠ q → Calls Tryz.prog 148 #[ptr g, .string (strOf q)] W fun e w' => e = .returned (.bool false) ∧ Below W.heap.size W w') := hid (fun q W hp hne => accept_no q hp hne); have YES : Hid (∀ W, PS L g vt W (.ok j) → Calls Tryz.prog 148 #[ptr g, .string (strOf [115, 116, 97, 116, 101])] W fun e w' => e = .returned (.bool true) ∧ PS L g vt w' (.ok (j + 1)) ∧ Only (fun k => k = g) W w') := hid (fun W hp => accept_yes [115, 116, 97, 116, 101] hp (by decide) hj); have HLA : Hid (Leads L [.prim] [] (.ok j) [.mk (nd 29) 0] [] (.ok (j + 1))) := hid (prim_mark hkk1.1 hkk1.2.1 hkk1.2.2 (by rw [hj]; rfl))
  have H0 := hid (On.start h); have G := hid (fun W => grow_any (nd 29) none 0 0 W); unfold nd Nd.cells at G; have HL : Hid (Leads L [.prim] [] (.ok j) [] [join (nd 29) []] (.ok (j + 1))) := hid (HLA.out.trans (Leads.mk _ [] 0 rfl _)); clear h hq hj hjl hkd hkk hkk1; go_enter Tryz.func260, Tryz.ntmps260
  go_wp2_with fail
  refine KD.out.mono ?_; rintro e w1 ⟨rfl, hb⟩; have H1 := hid (H0.out.below hb); clear hb; go_wp2_with fail
  refine (NO.out [110, 105, 108] _ H1.out.ps (by rw [HQ.out]; decide)).mono ?_
  rintro e w2 ⟨rfl, hb⟩; have H2 := hid (H1.out.below hb); clear hb; go_wp2_with fail
  refine (YES.out _ H2.out.ps).mono ?_; rintro e w3 ⟨rfl, hp, ho⟩; have H3 := hid (H2.out.call hp ho); clear hp ho; go_wp2_with fail
  refine (G.out _).mono ?_; rintro e w9 ⟨b6, rfl, hb, hB, hbel⟩; have H9 := hid (H3.out.below hbel); have HSB : Hid (SB w9 (fun k => k < w.heap.size) b6 (join (nd 29) []) (.ok (j + 1))) := hid (sb_node (cs := []) hB (by have := H3.out.only.size; omega) (LR.nil _ _ _))
  clear hbel hb hB G; go_wp2; go_ret; exact ⟨b6, _, _, rfl, HL.out, H9.out.ps, H9.out.only, HSB.out, Nat.le_succ _⟩
theorem prim_lb (L : List Tk) (s : St) (hq : sgS L s = [123]) : Rd L 260 [.prim] s := by
  intro g vt w h; have hkd : kdS L s = 5 ∨ kdS L s = 4 := sgS_kd (by rw [hq]; simp)
  have KD := hid (kind_any h); generalize hkk : kdS L s = kk at *; have z1 : (kk == 1) = false := by rcases hkd with rfl | rfl <;> rfl
  have z2 : (kk == 2) = false := by rcases hkd with rfl | rfl <;> rfl
  have z3 : (kk == 3) = false := by rcases hkd with rfl | rfl <;> rfl
  have hkk1 : kdS L s ≠ 1 ∧ kdS L s ≠ 2 ∧ kdS L s ≠ 3 := by rw [hkk]; rcases hkd with rfl | rfl <;> decide
  obtain ⟨j, rfl, hj, hjl⟩ := sgS_ok hq (by decide); have HJ := hid hjl; have HQ : Hid (sgS L (.ok j) = [123]) := hid hj; have NO : Hid (∀ (q : List UInt8) W, PS L g vt W (.ok j) → sgS L (.ok j) ≠ q → Calls Tryz.prog 148 #[ptr g, .string (strOf q)] W fun e w' => e = .returned (.bool false) ∧ Below W.heap.size W w') := hid (fun q W hp hne => accept_no q hp hne); have YES : Hid (∀ W, PS L g vt W (.ok j) → Calls Tryz.prog 148 #[ptr g, .string (strOf [123])] W fun e w' => e = .returned (.bool true) ∧ PS L g vt w' (.ok (j + 1)) ∧ Only (fun k => k = g) W w') := hid (fun W hp => accept_yes [123] hp (by decide) hj); have HLA : Hid (Leads L [.prim] [] (.ok j) [.mark [125], .mk (nd 25) 0] [] (.ok (j + 1))) := hid (prim_mark hkk1.1 hkk1.2.1 hkk1.2.2 (by rw [hj]; rfl))
  have H0 := hid (On.start h); have G := hid (fun W => grow_any (nd 25) none 0 0 W); unfold nd Nd.cells at G; have X := hid (fun W (hp : PS L g vt W (.ok (j + 1))) => expect_any [125] hp (by decide))
  have HL : Hid (Leads L [.prim] [] (.ok j) [] [join (nd 25) []] (markS L [125] (.ok (j + 1)))) := hid (HLA.out.trans ((by
    have := (Leads.mark (L := L) [125] (.ok (j + 1))).over [.mk (nd 25) 0] []
    exact this : Leads L [.mark [125], .mk (nd 25) 0] [] (.ok (j + 1)) [.mk (nd 25) 0] [] (markS L [125] (.ok (j + 1)))).trans (Leads.mk _ [] 0 rfl _)))
  have HLE : Hid (j ≤ nx L (markS L [125] (.ok (j + 1)))) := hid (Nat.le_trans (Nat.le_succ j) (mark_le [125] (s := .ok (j + 1)) hjl)); generalize markS L [125] (.ok (j + 1)) = s5 at *; clear h hq hj hjl hkd hkk hkk1; go_enter Tryz.func260, Tryz.ntmps260
  go_wp2_with fail
  refine KD.out.mono ?_; rintro e w1 ⟨rfl, hb⟩; have H1 := hid (H0.out.below hb); clear hb; go_wp2_with fail
  refine (NO.out [110, 105, 108] _ H1.out.ps (by rw [HQ.out]; decide)).mono ?_
  rintro e w2 ⟨rfl, hb⟩; have H2 := hid (H1.out.below hb); clear hb; go_wp2_with fail
  refine (NO.out [115, 116, 97, 116, 101] _ H2.out.ps (by rw [HQ.out]; decide)).mono ?_
  rintro e w3 ⟨rfl, hb⟩; have H3 := hid (H2.out.below hb); clear hb; go_wp2_with fail
  refine (YES.out _ H3.out.ps).mono ?_; rintro e w4 ⟨rfl, hp, ho⟩; have H4 := hid (H3.out.call hp ho); clear hp ho; go_wp2_with fail
  refine (X.out _ H4.out.ps).mono ?_; rintro e w5 ⟨rfl, hp, ho⟩; have H5 := hid (H4.out.call hp ho); clear hp ho; go_wp2_with fail
  refine (G.out _).mono ?_; rintro e w9 ⟨b6, rfl, hb, hB, hbel⟩; have H9 := hid (H5.out.below hbel); have HSB : Hid (SB w9 (fun k => k < w.heap.size) b6 (join (nd 25) []) s5) := hid (sb_node (cs := []) hB (by have := H5.out.only.size; omega) (LR.nil _ _ _))
  clear hbel hb hB G; go_wp2; go_ret; exact ⟨b6, _, _, rfl, HL.out, H9.out.ps, H9.out.only, HSB.out, HLE.out⟩
theorem prim_fn (L : List Tk) (n : Nat) (hF : ∀ s, mu L s < n → FnRd L (nd 24) s) (s : St) (hs : mu L s ≤ n) (hq : sgS L s = [102, 110]) : Rd L 260 [.prim] s := by
  intro g vt w h; have hkd : kdS L s = 5 ∨ kdS L s = 4 := sgS_kd (by rw [hq]; simp)
  have KD := hid (kind_any h); generalize hkk : kdS L s = kk at *; have z1 : (kk == 1) = false := by rcases hkd with rfl | rfl <;> rfl
  have z2 : (kk == 2) = false := by rcases hkd with rfl | rfl <;> rfl
  have z3 : (kk == 3) = false := by rcases hkd with rfl | rfl <;> rfl
  have hkk1 : kdS L s ≠ 1 ∧ kdS L s ≠ 2 ∧ kdS L s ≠ 3 := by rw [hkk]; rcases hkd with rfl | rfl <;> decide
  obtain ⟨j, rfl, hj, hjl⟩ := sgS_ok hq (by decide); have HJ := hid hjl; have HQ : Hid (sgS L (.ok j) = [102, 110]) := hid hj; have NO : Hid (∀ (q : List UInt8) W, PS L g vt W (.ok j) → sgS L (.ok j) ≠ q → Calls Tryz.prog 148 #[ptr g, .string (strOf q)] W fun e w' => e = .returned (.bool false) ∧ Below W.heap.size W w') := hid (fun q W hp hne => accept_no q hp hne); have YES : Hid (∀ W, PS L g vt W (.ok j) → Calls Tryz.prog 148 #[ptr g, .string (strOf [102, 110])] W fun e w' => e = .returned (.bool true) ∧ PS L g vt w' (.ok (j + 1)) ∧ Only (fun k => k = g) W w') := hid (fun W hp => accept_yes [102, 110] hp (by decide) hj); have HLA : Hid (Leads L [.prim] [] (.ok j) [.fn (nd 24)] [] (.ok (j + 1))) := hid (prim_mark hkk1.1 hkk1.2.1 hkk1.2.2 (by rw [hj]; rfl))
  have H0 := hid (On.start h); have FN := hid (hF (.ok (j + 1)) (Nat.lt_of_lt_of_le (mu_next hjl) hs)); unfold FnRd nd Nd.cells at FN; clear h hq hj hjl hkd hkk hkk1 hF hs; go_enter Tryz.func260, Tryz.ntmps260
  go_wp2_with fail
  refine KD.out.mono ?_; rintro e w1 ⟨rfl, hb⟩; have H1 := hid (H0.out.below hb); clear hb; go_wp2_with fail
  refine (NO.out [110, 105, 108] _ H1.out.ps (by rw [HQ.out]; decide)).mono ?_
  rintro e w2 ⟨rfl, hb⟩; have H2 := hid (H1.out.below hb); clear hb; go_wp2_with fail
  refine (NO.out [115, 116, 97, 116, 101] _ H2.out.ps (by rw [HQ.out]; decide)).mono ?_
  rintro e w3 ⟨rfl, hb⟩; have H3 := hid (H2.out.below hb); clear hb; go_wp2_with fail
  refine (NO.out [123] _ H3.out.ps (by rw [HQ.out]; decide)).mono ?_
  rintro e w4 ⟨rfl, hb⟩; have H4 := hid (H3.out.below hb); clear hb; go_wp2_with fail
  refine (YES.out _ H4.out.ps).mono ?_; rintro e w5 ⟨rfl, hp, ho⟩; have H5 := hid (H4.out.call hp ho); clear hp ho; go_wp2_with fail
  refine (FN.out g vt _ H5.out.ps).mono ?_; rintro e w6 ⟨b, t, s6, hk⟩; obtain ⟨rfl, hl, hps, honly, hbr, hle⟩ := hk; have H6 := hid (H5.out.call hps honly); have HB : Hid (SB w6 (fun k => k < w.heap.size) b t s6) := hid (SB.weaken hbr (fun i _ hi => by have := H5.out.only.size; omega))
  have HL := hid (HLA.out.trans hl); have HLE : Hid (j ≤ nx L s6) := hid (Nat.le_trans (Nat.le_succ j) hle); clear hl hps honly hbr hle; go_wp2; go_ret; exact ⟨b, t, s6, rfl, HL.out, H6.out.ps, H6.out.only, HB.out, HLE.out⟩
theorem prim_lp (L : List Tk) (n : Nat) (hE : RdN L 231 [.e 0] n) (s : St) (hs : mu L s ≤ n) (hq : sgS L s = [40]) : Rd L 260 [.prim] s := by
  intro g vt w h; have hkd : kdS L s = 5 ∨ kdS L s = 4 := sgS_kd (by rw [hq]; simp)
  have KD := hid (kind_any h); generalize hkk : kdS L s = kk at *; have z1 : (kk == 1) = false := by rcases hkd with rfl | rfl <;> rfl
  have z2 : (kk == 2) = false := by rcases hkd with rfl | rfl <;> rfl
  have z3 : (kk == 3) = false := by rcases hkd with rfl | rfl <;> rfl
  have hkk1 : kdS L s ≠ 1 ∧ kdS L s ≠ 2 ∧ kdS L s ≠ 3 := by rw [hkk]; rcases hkd with rfl | rfl <;> decide
  obtain ⟨j, rfl, hj, hjl⟩ := sgS_ok hq (by decide); have HJ := hid hjl; have HQ : Hid (sgS L (.ok j) = [40]) := hid hj; have NO : Hid (∀ (q : List UInt8) W, PS L g vt W (.ok j) → sgS L (.ok j) ≠ q → Calls Tryz.prog 148 #[ptr g, .string (strOf q)] W fun e w' => e = .returned (.bool false) ∧ Below W.heap.size W w') := hid (fun q W hp hne => accept_no q hp hne); have YES : Hid (∀ W, PS L g vt W (.ok j) → Calls Tryz.prog 148 #[ptr g, .string (strOf [40])] W fun e w' => e = .returned (.bool true) ∧ PS L g vt w' (.ok (j + 1)) ∧ Only (fun k => k = g) W w') := hid (fun W hp => accept_yes [40] hp (by decide) hj); have HLA : Hid (Leads L [.prim] [] (.ok j) [.e 0, .mark [41]] [] (.ok (j + 1))) := hid (prim_mark hkk1.1 hkk1.2.1 hkk1.2.2 (by rw [hj]; rfl))
  have H0 := hid (On.start h); have E1 := hid (hE (.ok (j + 1)) (Nat.lt_of_lt_of_le (mu_next hjl) hs)); clear h hq hj hjl hkd hkk hkk1 hE hs; go_enter Tryz.func260, Tryz.ntmps260
  go_wp2_with fail
  refine KD.out.mono ?_; rintro e w1 ⟨rfl, hb⟩; have H1 := hid (H0.out.below hb); clear hb; go_wp2_with fail
  refine (NO.out [110, 105, 108] _ H1.out.ps (by rw [HQ.out]; decide)).mono ?_
  rintro e w2 ⟨rfl, hb⟩; have H2 := hid (H1.out.below hb); clear hb; go_wp2_with fail
  refine (NO.out [115, 116, 97, 116, 101] _ H2.out.ps (by rw [HQ.out]; decide)).mono ?_
  rintro e w3 ⟨rfl, hb⟩; have H3 := hid (H2.out.below hb); clear hb; go_wp2_with fail
  refine (NO.out [123] _ H3.out.ps (by rw [HQ.out]; decide)).mono ?_
  rintro e w4 ⟨rfl, hb⟩; have H4 := hid (H3.out.below hb); clear hb; go_wp2_with fail
  refine (NO.out [102, 110] _ H4.out.ps (by rw [HQ.out]; decide)).mono ?_
  rintro e w5 ⟨rfl, hb⟩; have H5 := hid (H4.out.below hb); clear hb; go_wp2_with fail
  refine (YES.out _ H5.out.ps).mono ?_; rintro e w6 ⟨rfl, hp, ho⟩; have H6 := hid (H5.out.call hp ho); clear hp ho; go_wp2_with fail
  refine (E1.out g vt _ H6.out.ps).mono ?_; rintro e w7 ⟨b, t, s7, hk⟩; obtain ⟨rfl, hl, hps, honly, hbr, hle⟩ := hk; have H7 := hid (H6.out.call hps honly); have HB : Hid (SB w7 (fun k => k < w.heap.size) b t s7) := hid (SB.weaken hbr (fun i _ hi => by have := H6.out.only.size; omega))
  have HL : Hid (Leads L [.prim] [] (.ok j) [] [t] (markS L [41] s7)) := hid ((HLA.out.trans (by
    have := hl.over [.mark [41]] []
    exact this : Leads L [.e 0, .mark [41]] [] (.ok (j + 1)) [.mark [41]] [t] s7)).trans (by
    have := (Leads.mark (L := L) [41] s7).over [] [t]
    exact this))
  have HLE : Hid (j ≤ nx L (markS L [41] s7)) := hid (Nat.le_trans (Nat.le_trans (Nat.le_succ j) hle) (mark_le [41] hps.le)); have X := hid (fun W (hp : PS L g vt W s7) => expect_any [41] hp (by decide)); have HAF : Hid (Aft s7 (markS L [41] s7)) := hid (Leads.mark (L := L) [41] s7).aft; have HLT := hid H0.out.lt; generalize markS L [41] s7 = s8 at *; clear hl hps honly hbr hle; go_wp2_with fail
  refine (X.out _ H7.out.ps).mono ?_; rintro e w8 ⟨rfl, hp, ho⟩; have H8 := hid (H7.out.call hp ho); have HB8 := hid (SB.aft (SB.call HB.out ho HLT.out) HAF.out); clear hp ho; go_wp2; go_ret; exact ⟨b, t, s8, rfl, HL.out, H8.out.ps, H8.out.only, HB8.out, HLE.out⟩
theorem prim_else (L : List Tk) (s : St) (h1 : kdS L s ≠ 1) (h2 : kdS L s ≠ 2) (h3 : kdS L s ≠ 3) (hq : sgS L s ≠ [110, 105, 108] ∧ sgS L s ≠ [115, 116, 97, 116, 101] ∧ sgS L s ≠ [123] ∧ sgS L s ≠ [102, 110] ∧ sgS L s ≠ [40]) : Rd L 260 [.prim] s := by
  intro g vt w h; have KD := hid (kind_any h); generalize hkk : kdS L s = kk at *; have z1 : (kk == 1) = false := beq_false_of_ne h1; have z2 : (kk == 2) = false := beq_false_of_ne h2; have z3 : (kk == 3) = false := beq_false_of_ne h3; have HQ := hid hq; have NO : Hid (∀ (q : List UInt8) W, PS L g vt W s → sgS L s ≠ q → Calls Tryz.prog 148 #[ptr g, .string (strOf q)] W fun e w' => e = .returned (.bool false) ∧ Below W.heap.size W w') := hid (fun q W hp hne => accept_no q hp hne)
  have HL : Hid (Leads L [.prim] [] s [] [join ⟨0, 0, [], 0, []⟩ []] (failS s)) := hid (prim_none (by rw [hkk]; exact h1) (by rw [hkk]; exact h2) (by rw [hkk]; exact h3) (by
    obtain ⟨a1, a2, a3, a4, a5⟩ := hq; unfold primA
    rw [if_neg a1, if_neg a2, if_neg a3, if_neg a4, if_neg a5]))
  have F := hid (fun W (hp : PS L g vt W s) => fail_any hp); have G := hid (fun W => grow_any ⟨0, 0, [], 0, []⟩ none 0 0 W); have HLE : Hid (nx L s ≤ nx L (failS s)) := hid (by cases s with | bad k => exact Nat.le_refl _ | ok j => exact h.le); have H0 := hid (On.start h); clear h hq hkk h1 h2 h3; go_enter Tryz.func260, Tryz.ntmps260
  go_wp2_with fail
  refine KD.out.mono ?_; rintro e w1 ⟨rfl, hb⟩; have H1 := hid (H0.out.below hb); clear hb; go_wp2_with fail
  refine (NO.out [110, 105, 108] _ H1.out.ps HQ.out.1).mono ?_; rintro e w2 ⟨rfl, hb⟩; have H2 := hid (H1.out.below hb); clear hb; go_wp2_with fail
  refine (NO.out [115, 116, 97, 116, 101] _ H2.out.ps HQ.out.2.1).mono ?_; rintro e w3 ⟨rfl, hb⟩; have H3 := hid (H2.out.below hb); clear hb; go_wp2_with fail
  refine (NO.out [123] _ H3.out.ps HQ.out.2.2.1).mono ?_; rintro e w4 ⟨rfl, hb⟩; have H4 := hid (H3.out.below hb); clear hb; go_wp2_with fail
  refine (NO.out [102, 110] _ H4.out.ps HQ.out.2.2.2.1).mono ?_; rintro e w5 ⟨rfl, hb⟩; have H5 := hid (H4.out.below hb); clear hb; go_wp2_with fail
  refine (NO.out [40] _ H5.out.ps HQ.out.2.2.2.2).mono ?_; rintro e w6 ⟨rfl, hb⟩; have H6 := hid (H5.out.below hb); clear hb; go_wp2_with fail
  refine (F.out _ H6.out.ps).mono ?_; rintro e w7 ⟨rfl, hp, ho⟩; have H7 := hid (H6.out.call hp ho); clear hp ho; go_wp2_with fail
  refine (G.out _).mono ?_; rintro e w9 ⟨b6, rfl, hb, hB, hbel⟩; have H9 := hid (H7.out.below hbel); have HSB : Hid (SB w9 (fun k => k < w.heap.size) b6 (join ⟨0, 0, [], 0, []⟩ []) (failS s)) := hid (sb_node (cs := []) hB (by have := H7.out.only.size; omega) (LR.nil _ _ _))
  clear hbel hb hB G; go_wp2; go_ret; exact ⟨b6, _, _, rfl, HL.out, H9.out.ps, H9.out.only, HSB.out, HLE.out⟩
theorem prim_rd (L : List Tk) (n : Nat) (hE : RdN L 231 [.e 0] n) (hF : ∀ s, mu L s < n → FnRd L (nd 24) s) (s : St) (hs : mu L s ≤ n) : Rd L 260 [.prim] s := by
  by_cases q : sgS L s = [110, 105, 108]
  · exact prim_nil L s q
  have nnil := q; clear q; by_cases q : sgS L s = [115, 116, 97, 116, 101]
  · exact prim_state L s q
  have nstate := q; clear q; by_cases q : sgS L s = [123]
  · exact prim_lb L s q
  have nlb := q; clear q; by_cases q : sgS L s = [102, 110]
  · exact prim_fn L n hF s hs q
  have nfn := q; clear q; by_cases q : sgS L s = [40]
  · exact prim_lp L n hE s hs q
  have nlp := q; clear q; by_cases k1 : kdS L s = 1
  · cases s with
    | bad k => rw [kdS_bad] at k1; cases k1
    | ok j => exact prim_named L n hE j k1 hs
  by_cases k2 : kdS L s = 2
  · cases s with
    | bad k => rw [kdS_bad] at k2; cases k2
    | ok j => exact prim_int L j k2
  by_cases k3 : kdS L s = 3
  · cases s with
    | bad k => rw [kdS_bad] at k3; cases k3
    | ok j => exact prim_text L j k3
  exact prim_else L s k1 k2 k3 ⟨nnil, nstate, nlb, nfn, nlp⟩
end Go.Proofs.YtmljjpdodcpohaaGreatDoor.Pa

