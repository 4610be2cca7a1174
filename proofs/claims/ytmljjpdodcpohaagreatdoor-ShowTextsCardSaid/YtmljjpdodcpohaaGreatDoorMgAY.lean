/- The walks of kind, sign, fail, accept and expect; The walks of token, name, number, grow and param. No condition but those that each states. -/
import Derived.Test.YtmljjpdodcpohaaGreatDoorMgAX
import Derived.Test.YtmljjpdodcpohaaGreatDoorMgAH
import Derived.Deep.Cut
import Derived.Deep.CutRange
import Derived.Deep.DeepCutAuto
import Derived.Deep.CutBlock
import Derived.Deep.RegionHeld3
import Derived.Deep.AppendLies
import Derived.Deep.RegionLaw
import Derived.IntWalk
namespace Go.Proofs.YtmljjpdodcpohaaGreatDoor.Pa
open Lib (hid)
set_option maxRecDepth 100000
set_option maxHeartbeats 1000000
open Go.RowKit Dk Lx Tr
theorem PS.form {L : List Tk} {g : Nat} {vt : Value} {W : World} {s : St} (h : PS L g vt W s) : ∃ p c, vt = .slice p L.length c ∧ L.length ≤ c := by
  obtain ⟨p, c, hv, hc, -⟩ := h.toks; exact ⟨p, c, hv, hc⟩
theorem bdN {B : Nat} {a b : World} (h : Below B a b) (n : Nat) : Below B a (b.drewN n) := ⟨h.os, h.tape, h.output, h.size, h.block⟩
theorem kind_any {L : List Tk} {g : Nat} {vt : Value} {w : World} {s : St} (h : PS L g vt w s) :
    Calls Tryz.prog 207 #[ptr g] w fun e w' => e = .returned (.int .i64 (kdS L s)) ∧ Below w.heap.size w w' := by
  obtain ⟨c0, c1, -, -⟩ := h.at; obtain ⟨p, c, rfl, hc⟩ := h.form; have hle := h.le; have hfew := h.few; obtain ⟨i, hi⟩ : ∃ i, i = nx L s := ⟨_, rfl⟩; obtain ⟨n, hn⟩ : ∃ n, n = L.length := ⟨_, rfl⟩; have HK : Hid (kdS L s = kd L i) := hid (by rw [hi]; rfl)
  rw [HK.out]; rw [← hi, ← hn] at hle; rw [← hn] at hc hfew c0; rw [← hi] at c1; by_cases hlt : i < n
  · obtain ⟨r, o, hp, t0, -⟩ := h.toks.tok i (by rw [← hn]; exact hlt)
    subst hp; rw [← kd_at] at t0; have z0 : (0 : Int) ≤ (i : Int) := by omega
    have z1 : (i : Int) < (n : Int) := by omega
    have z2 : ((i : Int) == (n : Int)) = false := by simp; omega
    clear h hi hn HK hle hc hlt; go_enter Tryz.func207, Tryz.ntmps207
    go_wp2_with fail
    go_quiet (fail)
    go_wp2_with fail
    go_quiet (fail)
    go_wp2; go_ret; exact ⟨rfl, bdN (bdN (Below.refl _ _) _) _⟩
  · obtain rfl : i = n := by omega
    have HE : Hid (kd L i = 0) := hid (kd_end (by omega)); have z2 : ((i : Int) == (i : Int)) = true := by simp
    rw [HE.out]; clear h hi hn HK hle hc hlt; go_enter Tryz.func207, Tryz.ntmps207
    go_wp2_with fail
    go_quiet (fail)
    go_wp2; go_ret; exact ⟨rfl, bdN (Below.refl _ _) _⟩
theorem sign_any {L : List Tk} {g : Nat} {vt : Value} {w : World} {s : St} (h : PS L g vt w s) :
    Calls Tryz.prog 181 #[ptr g] w fun e w' => e = .returned (.string (strOf (sgS L s))) ∧ Below w.heap.size w w' := by
  have K := hid (kind_any h); obtain ⟨p, c, rfl, hc⟩ := h.form; have hle := h.le; have hfew := h.few; obtain ⟨i, hi⟩ : ∃ i, i = nx L s := ⟨_, rfl⟩; obtain ⟨n, hn⟩ : ∃ n, n = L.length := ⟨_, rfl⟩; have HK : Hid (kdS L s = kd L i) := hid (by rw [hi]; rfl)
  have HS : Hid (sgS L s = sg L i) := hid (by rw [hi]; rfl)
  rw [HS.out]; rw [HK.out] at K; rw [← hi, ← hn] at hle; rw [← hn] at hfew; by_cases hk : kd L i = 5 ∨ kd L i = 4
  · have hil : i < n := by rw [hn]; exact kd_lt (by omega)
    have HI := hid hi; have HN := hid hn; have HSG : Hid (∀ h : i < L.length, L[i].text = sg L i) := hid (fun h => by rw [sg_at h]; rw [kd_at h] at hk; rw [if_pos hk])
    generalize sg L i = q at *; have HH := hid h; generalize hkk : kd L i = k at *; have z0 : (0 : Int) ≤ (i : Int) := by omega
    have z1 : (i : Int) < (n : Int) := by omega
    clear h HS HK hi hkk; go_enter Tryz.func181, Tryz.ntmps181
    go_wp2_with fail
    refine K.out.mono ?_; rintro e w1 ⟨rfl, hb1⟩; have HP1 := hid (HH.out.below hb1); have HB1 := hid hb1; obtain ⟨c0, c1, -, -⟩ := HP1.out.at; rw [← HN.out] at c0; rw [← HI.out] at c1; obtain ⟨r, o, hp, -, t0, -⟩ := HP1.out.toks.tok i (by rw [← HN.out]; exact hil)
    subst hp; rw [HSG.out] at t0; clear hb1 hn HSG; rcases hk with rfl | rfl
    · go_wp2_with fail
      go_quiet (fail)
      go_wp2; go_ret; exact ⟨rfl, bdN HB1.out _⟩
    · go_wp2_with fail
      go_quiet (fail)
      go_wp2; go_ret; exact ⟨rfl, bdN HB1.out _⟩
  · have HSG : Hid (sg L i = []) := hid (by
      cases hs : sg L i with
      | nil => rfl
      | cons c r => exact absurd (sg_kd (by rw [hs]; simp)) hk)
    rw [HSG.out]; generalize kd L i = k at *; have z5 : (k != 5) = true := by simp; omega
    have z4 : (k != 4) = true := by simp; omega
    clear h hi hn HK HS HSG hk; go_enter Tryz.func181, Tryz.ntmps181
    go_wp2_with fail
    refine K.out.mono ?_; rintro e w1 ⟨rfl, hb1⟩; have HB1 := hid hb1; clear hb1; go_wp2; go_ret; exact ⟨rfl, HB1.out⟩
theorem PS.free {L : List Tk} {g : Nat} {vt : Value} {W : World} {s : St} (h : PS L g vt W s) : W.frozen? ⟨g, 1, none⟩ = false ∧ W.frozen? ⟨g, 2, none⟩ = false ∧ W.frozen? ⟨g, 3, none⟩ = false :=
  ⟨(h.room 1 (by decide)).2, (h.room 2 (by decide)).2, (h.room 3 (by decide)).2⟩
theorem offK_at {L : List Tk} {i : Nat} (h : i < L.length) : offK L i = L[i].place := by unfold offK; rw [List.getElem?_eq_getElem h]
theorem offK_end {L : List Tk} {i : Nat} (h : L.length ≤ i) (h0 : 0 < L.length) : offK L i = (L[L.length - 1]'(by omega)).place + 1 := by
  unfold offK; rw [List.getElem?_eq_none h]; rw [List.getLast?_eq_getElem?, List.getElem?_eq_getElem (by omega)]
theorem offK_nil {L : List Tk} {i : Nat} (h : L.length = 0) : offK L i = 0 := by
  rw [List.eq_nil_of_length_eq_zero h]; rfl
theorem PS.failed' {L : List Tk} {g i : Nat} {vt : Value} {w W : World} (h : PS L g vt w (.ok i)) (hb : Below w.heap.size (((w.setCell ⟨g, 2, none⟩ (.bool true)).setCell ⟨g, 3, none⟩ (.int .i64 (offK L i))).setCell ⟨g, 1, none⟩ (.int .i64 (L.length : Int))) W) : PS L g vt W (.bad i) ∧ Only (fun k => k = g) w W := by
  have h1 := h.failed; have hs : (((w.setCell ⟨g, 2, none⟩ (.bool true)).setCell ⟨g, 3, none⟩ (.int .i64 (offK L i))).setCell ⟨g, 1, none⟩ (.int .i64 (L.length : Int))).heap.size = w.heap.size := by simp
  refine ⟨h1.below (by rw [hs]; exact hb), ?_⟩
  refine (((Only.of_setCell (g := g) (j := 2) _).setCell ⟨g, 3, none⟩ rfl _).setCell ⟨g, 1, none⟩ rfl _).trans (Only.of_below (F := fun k => k = g) (by rw [hs]; exact hb)) (fun _ _ h => h)
theorem PS.failed0 {L : List Tk} {g i : Nat} {vt : Value} {W : World} (h : PS L g vt W (.ok i)) (h0 : L.length = 0) : PS L g vt ((W.setCell ⟨g, 2, none⟩ (.bool true)).setCell ⟨g, 1, none⟩ (.int .i64 (0 : Int))) (.bad i) ∧ Only (fun k => k = g) W ((W.setCell ⟨g, 2, none⟩ (.bool true)).setCell ⟨g, 1, none⟩ (.int .i64 (0 : Int))) := by
  obtain ⟨c0, h1, h2, h3⟩ := h.at; have ho : Only (fun k => k = g) W ((W.setCell ⟨g, 2, none⟩ (.bool true)).setCell ⟨g, 1, none⟩ (.int .i64 (0 : Int))) := (Only.of_setCell (g := g) (j := 2) _).setCell ⟨g, 1, none⟩ rfl _; refine ⟨⟨?_, there_setCell (there_setCell h.room _ _) _ _, by simpa using h.lt, h.toks.only ho (fun _ _ h => h), Nat.le_refl _, h.few, h.places⟩, ho⟩; intro j u hj; have e1 : nx L (.bad i) = 0 := h0; have e2 : foff L (.bad i) = 0 := offK_nil h0; rw [e1, e2] at hj; rcases (show j = 0 ∨ j = 1 ∨ j = 2 ∨ j = 3 by have := (List.getElem?_eq_some_iff.1 hj).1; simp at this; omega) with rfl | rfl | rfl | rfl
  · rw [World.cell?_setCell_other _ _ _ _ (by simp), World.cell?_setCell_other _ _ _ _ (by simp)]; simp at hj; subst hj; exact c0
  · rw [World.cell?_setCell_same _ _ _ (by rw [World.cell?_setCell_other _ _ _ _ (by simp)]; exact h1)]; simp at hj; subst hj; rfl
  · rw [World.cell?_setCell_other _ _ _ _ (by simp), World.cell?_setCell_same _ _ _ h2]; simp at hj; subst hj; rfl
  · rw [World.cell?_setCell_other _ _ _ _ (by simp), World.cell?_setCell_other _ _ _ _ (by simp)]; simp at hj; subst hj; exact h3
theorem fail_any {L : List Tk} {g : Nat} {vt : Value} {w : World} {s : St} (h : PS L g vt w s) :
    Calls Tryz.prog 151 #[ptr g] w fun e w' => e = .returned (.tuple #[]) ∧ PS L g vt w' (failS s) ∧ Only (fun k => k = g) w w' := by
  have HH := hid h; obtain ⟨c0, c1, c2, c3⟩ := h.at; cases s with
  | bad k =>
    rw [show isBad (.bad k) = true from rfl] at c2; clear h c0 c1 c3; go_enter Tryz.func151, Tryz.ntmps151
    go_wp2; refine bodyPost_ret (results_none rfl _ _ _) rfl ?_; exact ⟨rfl, HH.out, Only.refl _ _⟩
  | ok i =>
    rw [show isBad (.ok i) = false from rfl] at c2; rw [show nx L (.ok i) = i from rfl] at c1; obtain ⟨p, c, rfl, hc⟩ := h.form; have hle : i ≤ L.length := h.le; have hfew := h.few; obtain ⟨n, hn⟩ : ∃ n, n = L.length := ⟨_, rfl⟩; have HN := hid hn; rw [← hn] at c0 hle hc hfew; have HF : Hid (∀ W, Below w.heap.size (((w.setCell ⟨g, 2, none⟩ (.bool true)).setCell ⟨g, 3, none⟩ (.int .i64 (offK L i))).setCell ⟨g, 1, none⟩ (.int .i64 (n : Int))) W → PS L g (.slice p L.length c) W (.bad i) ∧ Only (fun k => k = g) w W) := hid (fun W hb => HH.out.failed' (by rw [← HN.out]; exact hb))
    obtain ⟨off, hoff⟩ : ∃ off, off = offK L i := ⟨_, rfl⟩; rw [← hoff] at HF; by_cases hlt : i < n
    · obtain ⟨r, o, hp, -, -, -, t3, -⟩ := h.toks.tok i (by rw [← hn]; exact hlt)
      have hrg : r ≠ g := by
        obtain ⟨p', c', e, -, h0 | ⟨r', o', hp', -, hx, -⟩⟩ := h.toks
        · rw [h0] at hn; simp at hn; omega
        · cases e; rw [hp] at hp'; cases hp'; exact hx
      subst hp; rw [← offK_at, ← hoff] at t3; have z0 : (0 : Int) ≤ (i : Int) := by omega
      have z1 : (i : Int) < (n : Int) := by omega
      obtain ⟨f1, f2, f3⟩ := h.free; clear h hn hoff hle hc hlt; go_enter Tryz.func151, Tryz.ntmps151
      go_upto_region 4 with fail
      obtain ⟨V, hV⟩ : ∃ V, V = w.setCell ⟨g, 2, none⟩ (.bool true) := ⟨_, rfl⟩; rw [← hV] at HF ⊢; have d0 := (show V.cell? ⟨g, 0, none⟩ = w.cell? ⟨g, 0, none⟩ by rw [hV, World.cell?_setCell_other _ _ _ _ (by simp)]).trans c0; have d1 := (show V.cell? ⟨g, 1, none⟩ = w.cell? ⟨g, 1, none⟩ by rw [hV, World.cell?_setCell_other _ _ _ _ (by simp)]).trans c1; have d2 := (show V.cell? ⟨g, 3, none⟩ = w.cell? ⟨g, 3, none⟩ by rw [hV, World.cell?_setCell_other _ _ _ _ (by simp)]).trans c3; have d3 := (show V.cell? ⟨r, o + i * 4 + 3, none⟩ = w.cell? ⟨r, o + i * 4 + 3, none⟩ by rw [hV, World.cell?_setCell_other _ _ _ _ (by simp [])]).trans t3; have e1 : V.frozen? ⟨g, 1, none⟩ = false := by rw [hV]; simpa using f1
      have e3 : V.frozen? ⟨g, 3, none⟩ = false := by rw [hV]; simpa using f3
      have HD := hid (And.intro d0 (And.intro d1 (And.intro e1 (And.intro e3 d2)))); have HV := hid hV; clear c0 c1 c2 c3 t3 f1 f2 f3 hV d2; obtain ⟨V2, hv2, hcell, hfr, hheap, hbel⟩ := drawn_world V; have HV2 := hid hv2.out; rw [← hcell] at d0 d1 d3; clear hcell hfr hheap e1 e3; refine region_still_tail 12 (by kernel_rfl) (by kernel_rfl) V2 hv2.out ?_; simp only [List.take_succ_cons, List.take_zero, List.drop_succ_cons, List.drop_zero]; repeat still_step
      refine wpStill_nil ?_; rw [← HV2.out]; obtain ⟨d0, d1, e1, e3, d2⟩ := HD.out; clear hv2 hbel HV2 d3; go_wp2; refine bodyPost_end (results_none rfl _ _ _) rfl ?_; obtain ⟨q1, q2⟩ := HF.out _ (Below.refl _ _).drew; exact ⟨rfl, q1, q2⟩
    · obtain rfl : i = n := by omega
      have z1 : ¬((i : Int) < (i : Int)) := by omega
      by_cases h0 : 0 < i
      · obtain ⟨r, o, hp, -, -, -, t3, -⟩ := h.toks.tok (i - 1) (by omega)
        have hrg : r ≠ g := by
          obtain ⟨p', c', e, -, h0 | ⟨r', o', hp', -, hx, -⟩⟩ := h.toks
          · rw [h0] at hn; simp at hn; omega
          · cases e; rw [hp] at hp'; cases hp'; exact hx
        subst hp; have hpl := h.places _ (List.getElem_mem (l := L) (n := i - 1) (by omega))
        have hoff2 : off = (L[i - 1]'(by omega)).place + 1 := by
          rw [hoff, offK_end (by omega) (by omega)]; have : L.length - 1 = i - 1 := by omega
          simp only [this]
        generalize (L[i - 1]'(by omega)).place = pl at *; obtain ⟨p1, p2⟩ := hpl; have z2 : (i : Int) > 0 := by omega
        have z3 : (0 : Int) ≤ (i : Int) - 1 := by omega
        have z4 : (i : Int) - 1 < (i : Int) := by omega
        have z5 : ((i : Int) - 1).toNat = i - 1 := by omega
        obtain ⟨f1, f2, f3⟩ := h.free; subst hoff2; have hgr : g ≠ r := Ne.symm hrg; clear h hn hoff hle hc hlt; go_enter Tryz.func151, Tryz.ntmps151
        go_wp2; refine bodyPost_end (results_none rfl _ _ _) rfl ?_; obtain ⟨q1, q2⟩ := HF.out _ (Below.refl _ _); exact ⟨rfl, q1, q2⟩
      · obtain rfl : i = 0 := by omega
        have hoff2 : off = 0 := by rw [hoff]; exact offK_nil hn.symm
        have z2 : ¬(((0 : Nat) : Int) > 0) := by omega
        obtain ⟨f1, f2, f3⟩ := h.free; have c3' : foff L (.ok 0) = 0 := rfl; rw [c3'] at c3; have HG := hid (HH.out.failed0 hn.symm); clear h hn hoff hle hc hlt c3'; go_enter Tryz.func151, Tryz.ntmps151
        go_wp2; refine bodyPost_end (results_none rfl _ _ _) rfl ?_; exact ⟨rfl, HG.out.1, HG.out.2⟩
def nextS : St → St
  | .ok i => .ok (i + 1)
  | .bad k => .bad k
theorem accept_yes {L : List Tk} {g i : Nat} {vt : Value} {w : World} (q : List UInt8) (h : PS L g vt w (.ok i)) (hq : q ≠ []) (hs : sg L i = q) :
    Calls Tryz.prog 148 #[ptr g, .string (strOf q)] w fun e w' => e = .returned (.bool true) ∧ PS L g vt w' (.ok (i + 1)) ∧ Only (fun k => k = g) w w' := by
  have S := hid (sign_any h); rw [show sgS L (.ok i) = q from hs] at S; have hlt : i < L.length := sg_lt (by rw [hs]; exact hq)
  have hfew := h.few; have HH := hid h; have HN : Hid (∀ W, PS L g vt W (.ok i) → PS L g vt (W.setCell ⟨g, 1, none⟩ (.int .i64 ((i : Int) + 1))) (.ok (i + 1))) := hid (fun W hW => hW.next hlt); generalize hqq : strOf q = qq at *; have z0 : (qq.toList == qq.toList) = true := by simp
  have z1 : (qq.toList != qq.toList) = false := by simp
  have z2 : (i : Int) ≤ 1000000 := by omega
  clear h hs hq hqq hlt hfew; go_enter Tryz.func148, Tryz.ntmps148
  go_wp2_with fail
  refine S.out.mono ?_; rintro e w1 ⟨rfl, hb1⟩; have HP1 := hid (HH.out.below hb1); have HB1 := hid hb1; obtain ⟨-, c1, -, -⟩ := HP1.out.at; obtain ⟨f1, -, -⟩ := HP1.out.free; rw [show nx L (.ok i) = i from rfl] at c1; clear hb1; go_wp2; go_ret; exact ⟨rfl, HN.out _ HP1.out, (Only.of_below HB1.out).trans (Only.of_setCell _) (fun _ _ h => h)⟩
theorem accept_no {L : List Tk} {g : Nat} {vt : Value} {w : World} {s : St} (q : List UInt8) (h : PS L g vt w s) (hs : sgS L s ≠ q) :
    Calls Tryz.prog 148 #[ptr g, .string (strOf q)] w fun e w' => e = .returned (.bool false) ∧ Below w.heap.size w w' := by
  have S := hid (sign_any h); have z0 : ((strOf (sgS L s)).toList == (strOf q).toList) = false := by rw [str_beq]; exact decide_eq_false hs
  generalize strOf (sgS L s) = r at *; generalize strOf q = qq at *; have z1 : (r.toList != qq.toList) = true := by simp [bne, z0]
  clear h hs; go_enter Tryz.func148, Tryz.ntmps148
  go_wp2_with fail
  refine S.out.mono ?_; rintro e w1 ⟨rfl, hb1⟩; have HB1 := hid hb1; clear hb1; go_wp2; go_ret; exact ⟨rfl, HB1.out⟩
def markS (L : List Tk) (q : List UInt8) : St → St
  | .ok i => if sg L i = q then .ok (i + 1) else .bad i
  | .bad k => .bad k
theorem Leads.mark {L : List Tk} (q : List UInt8) (s : St) : Leads L [.mark q] [] s [] [] (markS L q s) := by
  cases s with
  | bad k => exact rfl
  | ok i =>
    show Leads L [.mark q] [] (.ok i) [] [] (if sg L i = q then .ok (i + 1) else .bad i)
    by_cases h : sg L i = q
    · rw [if_pos h]; exact .yes (fun V => if_pos h)
    · rw [if_neg h]; exact .no (fun V => if_neg h)
theorem expect_any {L : List Tk} {g : Nat} {vt : Value} {w : World} {s : St} (q : List UInt8) (h : PS L g vt w s) (hq : q ≠ []) :
    Calls Tryz.prog 144 #[ptr g, .string (strOf q)] w fun e w' => e = .returned (.tuple #[]) ∧ PS L g vt w' (markS L q s) ∧ Only (fun k => k = g) w w' := by
  by_cases hs : sgS L s = q
  · cases s with
    | bad k => rw [sgS_bad] at hs; exact absurd hs.symm hq
    | ok i =>
      have A := hid (accept_yes q h hq hs); rw [show markS L q (.ok i) = .ok (i + 1) from if_pos hs]; clear h hs hq; go_enter Tryz.func144, Tryz.ntmps144
      go_wp2_with fail
      refine A.out.mono ?_; rintro e w1 ⟨rfl, hp, ho⟩; have HP := hid hp; have HO := hid ho; clear hp ho; go_wp2; refine bodyPost_end (results_none rfl _ _ _) rfl ?_; exact ⟨rfl, HP.out, HO.out⟩
  · have A := hid (accept_no q h hs)
    have F : Hid (∀ W, Below w.heap.size w W → Calls Tryz.prog 151 #[ptr g] W fun e w' => e = .returned (.tuple #[]) ∧ PS L g vt w' (failS s) ∧ Only (fun k => k = g) W w') := hid (fun W hb => fail_any (h.below hb))
    have HM : Hid (markS L q s = failS s) := hid (by
      cases s with
      | bad k => rfl
      | ok i => exact if_neg hs)
    rw [HM.out]; clear h hs hq; go_enter Tryz.func144, Tryz.ntmps144
    go_wp2_with fail
    refine A.out.mono ?_; rintro e w1 ⟨rfl, hb⟩; have HB := hid hb; clear hb; go_wp2_with fail
    refine (F.out _ HB.out).mono ?_; rintro e w2 ⟨rfl, hp, ho⟩; have HP := hid hp; have HO := hid ((Only.of_below (F := fun k => k = g) HB.out).trans ho (fun _ _ h => h)); clear hp ho; go_wp2; refine bodyPost_end (results_none rfl _ _ _) rfl ?_; exact ⟨rfl, HP.out, HO.out⟩
end Go.Proofs.YtmljjpdodcpohaaGreatDoor.Pa

namespace Go.Proofs.YtmljjpdodcpohaaGreatDoor.Pa
open Lib (hid)
set_option maxRecDepth 100000
set_option maxHeartbeats 4000000
open Go.RowKit Dk Lx Tr
def needS (L : List Tk) (k : Int) : St → St
  | .ok i => if kd L i = k then .ok (i + 1) else .bad i
  | .bad k => .bad k
theorem results_cell1 {P : Program} {fn : Func} {t : Tmp} {ty : TypeId} {d : TypeDesc} {cs : List Value} {b : Nat} (h : fn.results = #[.cell t ty]) (tmps : Array Value) (w : World) (ht : tmps.getD t undef = .pointer (some ⟨b, 0, none⟩)) (hc : w.rangeAt b 0 cs)
    (hu : P.underlying ty = some d) (hd : d.isRow = true) (hi : (P.info? ty).map (·.size) = some cs.length) : (results fn tmps).run P w = .ok (.agg cs.toArray) w := by
  have hl := run_loadVar_mid (P := P) w b 0 ty cs d hc hu hd hi; simp only [Array.getD_eq_getD_getElem?] at ht; simp [results, h, ht, hl, asAddr]
theorem tb_only {F : Nat → Prop} {W W' : World} {B : Nat} {e : Tk} (h : TB W B e) (ho : Only F W W') (hF : ¬F B) : TB W' B e := h.of_block (ho.block B h.lt hF) ho.size
structure On (L : List Tk) (g : Nat) (vt : Value) (w W : World) (s : St) : Prop where
  toks : ToksX w g vt L
  lt : g < w.heap.size
  ps : PS L g vt W s
  only : Only (fun k => k = g) w W
theorem On.start {L : List Tk} {g : Nat} {vt : Value} {w : World} {s : St} (h : PS L g vt w s) : On L g vt w w s := ⟨h.toks, h.lt, h, Only.refl _ _⟩
theorem On.below {L : List Tk} {g : Nat} {vt : Value} {w W W' : World} {s : St} (h : On L g vt w W s) (hb : Below W.heap.size W W') : On L g vt w W' s :=
  ⟨h.toks, h.lt, h.ps.below hb, h.only.trans (Only.of_below (F := fun k => k = g) hb) (fun _ _ h => h)⟩
theorem On.alloc {L : List Tk} {g : Nat} {vt : Value} {w W : World} {s : St} (h : On L g vt w W s) (o : Obj) : On L g vt w (W.alloc o) s := h.below ((Below.refl _ _).alloc (Nat.le_refl _) o)
theorem On.call {L : List Tk} {g : Nat} {vt : Value} {w W W' : World} {s s' : St} (h : On L g vt w W s) (hp : PS L g vt W' s') (ho : Only (fun k => k = g) W W') : On L g vt w W' s' :=
  ⟨h.toks, h.lt, hp, h.only.trans ho (fun _ _ h => h)⟩
theorem On.own {L : List Tk} {g : Nat} {vt : Value} {w W W' : World} {s : St} {F : Nat → Prop} (h : On L g vt w W s) (ho : Only F W W') (hF : ∀ i, F i → w.heap.size ≤ i) : On L g vt w W' s := by
  have hg : ¬F g := fun hf => by have := hF g hf; have := h.lt; omega
  refine ⟨h.toks, h.lt, ⟨rangeAt_block h.ps.cells (ho.block g h.ps.lt hg), there_block h.ps.room (ho.block g h.ps.lt hg), Nat.lt_of_lt_of_le h.ps.lt ho.size, ?_, h.ps.le, h.ps.few, h.ps.places⟩, h.only.trans ho (fun i hi hf => absurd (hF i hf) (by omega))⟩; obtain ⟨p, c, hv, hc, hq | ⟨r, o, hp, hr, hx, hq⟩⟩ := h.toks
  · exact ⟨p, c, hv, hc, .inl hq⟩
  · have hrW : r < W.heap.size := Nat.lt_of_lt_of_le hr h.only.size
    refine ⟨p, c, hv, hc, .inr ⟨r, o, hp, Nat.lt_of_lt_of_le hrW ho.size, hx, rangeAt_block (rangeAt_block hq (h.only.block r hr hx)) (ho.block r hrW (fun hf => by have := hF r hf; omega))⟩⟩
theorem On.setCells {L : List Tk} {g : Nat} {vt : Value} {w W : World} {s : St} (h : On L g vt w W s) (B : Nat) (hB : w.heap.size ≤ B) (o : Nat) (vs : List Value) : On L g vt w (W.setCells B o vs) s :=
  h.own (F := fun k => k = B) (Only.setCells (F := fun k => k = B) B rfl vs o W (Only.refl _ _)) (fun i hi => by omega)
theorem On.setCell {L : List Tk} {g : Nat} {vt : Value} {w W : World} {s : St} (h : On L g vt w W s) (B : Nat) (hB : w.heap.size ≤ B) (o : Nat) (v : Value) : On L g vt w (W.setCell ⟨B, o, none⟩ v) s :=
  h.own (F := fun k => k = B) (Only.of_setCell v) (fun i hi => by omega)
theorem token_no {L : List Tk} {g : Nat} {vt : Value} {w : World} {s : St} (k : Int) (h : PS L g vt w s) (hs : kdS L s ≠ k) :
    Calls Tryz.prog 180 #[ptr g, .int .i64 k] w fun e w' => e = .returned (.agg Tk.zero.cells.toArray) ∧ PS L g vt w' (failS s) ∧ Only (fun k => k = g) w w' := by
  have K := hid (fun W (hp : PS L g vt W s) => kind_any hp); have F := hid (fun W (hp : PS L g vt W s) => fail_any hp); generalize kdS L s = j at *; have z0 : (j != k) = true := by simpa using hs
  have HLT := hid h.lt; have H0 := hid (On.start h); have HZ := hid (tb_zero w); have HA := hid (t_infoA Tk.zero); have HL := hid (t_all Tk.zero); clear h hs; go_enter Tryz.func180, Tryz.ntmps180
  go_wp2_with fail
  refine (K.out _ (H0.out.alloc _).ps).mono ?_; rintro e w1 ⟨rfl, hb⟩; have H1 := hid ((H0.out.alloc _).below hb); have HZ1 := hid (HZ.out.later hb); clear hb; go_wp2_with fail
  refine (F.out _ H1.out.ps).mono ?_; rintro e w2 ⟨rfl, hp, ho⟩; have H2 := hid (H1.out.call hp ho); have HZ2 := hid (tb_only HZ1.out ho (by have := HLT.out; omega))
  clear hp ho; have H3 := hid (H2.out.setCells w.heap.size (Nat.le_refl _) 0 Tk.zero.cells.toArray.toList); have HZ3 := hid (HZ2.out.set Tk.zero)
  go_wp2_with (first
    | (refine wpList_store_mid rfl 73 (.tmp 4) (.tmp 12) rfl w.heap.size 0 Tk.zero.cells.toArray rfl rfl HZ2.out.room HA.out HL.out ?_; generalize World.setCells _ _ _ _ = w3 at H3 HZ3 ⊢))
  refine bodyPost_ret (results_cell1 rfl _ _ rfl HZ3.out.cells Tryz.underlying73 rfl (t_info _)) rfl ?_; exact ⟨rfl, H3.out.ps, H3.out.only⟩
theorem token_yes {L : List Tk} {g i : Nat} {vt : Value} {w : World} (k : Int) (h : PS L g vt w (.ok i)) (_hk : k ≠ 0) (hs : kd L i = k) (hi : i < L.length) :
    Calls Tryz.prog 180 #[ptr g, .int .i64 k] w fun e w' => e = .returned (.agg (L[i]).cells.toArray) ∧ PS L g vt w' (.ok (i + 1)) ∧ Only (fun k => k = g) w w' := by
  have K := hid (fun W (hp : PS L g vt W (.ok i)) => kind_any hp); rw [show kdS L (.ok i) = k from hs] at K; obtain ⟨p, c, rfl, hc⟩ := h.form; have hfew := h.few; obtain ⟨n, hn⟩ : ∃ n, n = L.length := ⟨_, rfl⟩; have HN := hid hn; have z0 : (k != k) = false := by simp
  have z1 : (0 : Int) ≤ (i : Int) := by omega
  have z2 : (i : Int) < (n : Int) := by omega
  have z3 : (i : Int) ≤ 1000000 := by omega
  have HLT := hid h.lt; have H0 := hid (On.start h); have HZ := hid (tb_zero w); generalize hE : L[i] = E; have HA := hid (t_infoA E); have HI := hid (t_info E); have HL := hid (t_all E); obtain ⟨r, o, hp, -⟩ := h.toks.tok i hi; subst hp
  have HT : Hid (∀ W, On L g (.slice (some ⟨r, o, none⟩) L.length c) w W (.ok i) → W.cell? ⟨g, 0, none⟩ = some (.slice (some ⟨r, o, none⟩) n c) ∧ W.cell? ⟨g, 1, none⟩ = some (.int .i64 (i : Int)) ∧ (W.cell? ⟨r, o + i * 4, none⟩ = some (.int .i64 E.kind) ∧ W.cell? ⟨r, o + i * 4 + 1, none⟩ = some (.string (strOf E.text)) ∧ W.cell? ⟨r, o + i * 4 + 2, none⟩ = some (.int .i64 E.n) ∧ W.cell? ⟨r, o + i * 4 + 3, none⟩ = some (.int .i64 E.place)) ∧ W.frozen? ⟨g, 1, none⟩ = false) := hid (fun W hW => by
    obtain ⟨r', o', hp, q1, q2, q3, q4, -⟩ := hW.ps.toks.tok i hi; cases hp
    rw [hE] at q1 q2 q3 q4; rw [HN.out]
    exact ⟨hW.ps.at.1, hW.ps.at.2.1, ⟨q1, q2, q3, q4⟩, hW.ps.free.1⟩)
  have HN2 : Hid (∀ W, On L g (.slice (some ⟨r, o, none⟩) L.length c) w W (.ok i) → On L g (.slice (some ⟨r, o, none⟩) L.length c) w (W.setCell ⟨g, 1, none⟩ (.int .i64 ((i : Int) + 1))) (.ok (i + 1))) := hid (fun W hW => hW.call (hW.ps.next hi) (Only.of_setCell _)); clear h hs hn hE; go_enter Tryz.func180, Tryz.ntmps180
  go_wp2_with fail
  refine (K.out _ (H0.out.alloc _).ps).mono ?_; rintro e w1 ⟨rfl, hb⟩; have H1 := hid ((H0.out.alloc _).below hb); have HZ1 := hid (HZ.out.later hb); clear hb; go_upto_region 4 with fail
  obtain ⟨c0, c1, ⟨c2, c3, c4, c5⟩, -⟩ := HT.out _ H1.out; have n0 := World.new_ne w1 _ c0; have n1 := World.new_ne w1 _ c1; have n2 := World.new_ne w1 _ c2; have n3 := World.new_ne w1 _ c3; have n4 := World.new_ne w1 _ c4; have n5 := World.new_ne w1 _ c5; go_cut [5] (fun v5 wx => ∃ B, v5 = .pointer (some ⟨B, 0, none⟩) ∧ w.heap.size < B ∧ Hid (On L g (.slice (some ⟨r, o, none⟩) L.length c) w wx (.ok i)) ∧ Hid (TB wx w.heap.size Tk.zero) ∧ Hid (TB wx B E))
  case first =>
    go_region_held3 (fun W => W.cell? ⟨g, 0, none⟩ = some (.slice (some ⟨r, o, none⟩) n c) ∧ W.cell? ⟨g, 1, none⟩ = some (.int .i64 (i : Int)) ∧ W.cell? ⟨r, o + i * 4, none⟩ = some (.int .i64 E.kind) ∧ W.cell? ⟨r, o + i * 4 + 1, none⟩ = some (.string (strOf E.text)) ∧ W.cell? ⟨r, o + i * 4 + 2, none⟩ = some (.int .i64 E.n) ∧ W.cell? ⟨r, o + i * 4 + 3, none⟩ = some (.int .i64 E.place)) (go_keep) (fail)
    go_wp2_with fail
    go_meet
    have hb : Below w1.heap.size w1 (w1.alloc (Obj.cells E.cells.toArray 73)).drew := ((Below.refl _ _).alloc (Nat.le_refl _) _).drew; exact ⟨_, rfl, HZ1.out.lt, hid (H1.out.below hb), hid (HZ1.out.later hb), hid ((tb_new w1 E _).later (by exact (Below.refl _ _).drew))⟩
  case rest =>
    obtain ⟨B, rfl, hB, h2, hZ2, hE2⟩ := hcut; clear n0 n1 n2 n3 n4 n5 c0 c1 c2 c3 c4 c5; obtain ⟨-, c1, -, f1⟩ := HT.out _ h2.out; have H3 := hid (HN2.out _ h2.out); have HZ3 := hid (tb_only hZ2.out (Only.of_setCell (g := g) (j := 1) (.int .i64 ((i : Int) + 1))) (by have := HLT.out; omega))
    have HE3 := hid (tb_only hE2.out (Only.of_setCell (g := g) (j := 1) (.int .i64 ((i : Int) + 1))) (by have := HLT.out; omega))
    go_upto_region 6 with fail
    clear c1 f1; generalize World.setCell _ _ _ = w3 at H3 HZ3 HE3 ⊢; have H4 := hid (H3.out.setCells w.heap.size (Nat.le_refl _) 0 E.cells.toArray.toList); have HZ4 := hid (HZ3.out.set E)
    go_wp2_with (first
      | (refine wpList_load_mid rfl 73 (.tmp 5) rfl B 0 rfl E.cells _ HE3.out.cells Tryz.underlying73 rfl HI.out ?_)
      | (refine wpList_store_mid rfl 73 (.tmp 4) (.tmp 30) rfl w.heap.size 0 E.cells.toArray rfl rfl HZ3.out.room HA.out HL.out ?_; generalize World.setCells _ _ _ _ = w4 at H4 HZ4 ⊢))
    refine bodyPost_ret (results_cell1 rfl _ _ rfl HZ4.out.cells Tryz.underlying73 rfl (t_info _)) rfl ?_; exact ⟨rfl, H4.out.ps, H4.out.only⟩
def nameV (L : List Tk) (k : Int) : St → Tk
  | .ok i => if kd L i = k then L.getD i Tk.zero else Tk.zero
  | .bad _ => Tk.zero
theorem token_any {L : List Tk} {g : Nat} {vt : Value} {w : World} {s : St} (k : Int) (h : PS L g vt w s) (hk : k ≠ 0) :
    Calls Tryz.prog 180 #[ptr g, .int .i64 k] w fun e w' => e = .returned (.agg (nameV L k s).cells.toArray) ∧ PS L g vt w' (needS L k s) ∧ Only (fun k => k = g) w w' := by
  by_cases hs : kdS L s = k
  · cases s with
    | bad j => rw [kdS_bad] at hs; exact absurd hs.symm hk
    | ok i =>
      have hi : i < L.length := kd_lt (by rw [show kd L i = k from hs]; exact hk)
      have := token_yes k h hk hs hi; rw [show nameV L k (.ok i) = L[i] from (if_pos hs).trans (by simp [List.getD, List.getElem?_eq_getElem hi]), show needS L k (.ok i) = .ok (i + 1) from if_pos hs]; exact this
  · have := token_no k h hs
    rw [show nameV L k s = Tk.zero by cases s with | bad j => rfl | ok i => exact if_neg hs, show needS L k s = failS s by cases s with | bad j => rfl | ok i => exact if_neg hs]; exact this
theorem name_rd {L : List Tk} {g : Nat} {vt : Value} {w : World} {s : St} (h : PS L g vt w s) :
    Calls Tryz.prog 146 #[ptr g] w fun e w' => e = .returned (.string (strOf (nameV L 1 s).text)) ∧ PS L g vt w' (needS L 1 s) ∧ Only (fun k => k = g) w w' := by
  have T := hid (token_any 1 h (by decide)); generalize nameV L 1 s = E at *; obtain ⟨ek, et, en, ep⟩ := E; have hfd : ∀ W : World, (Instr.field 73 (.agg #[.int .i64 ek, .string (strOf et), .int .i64 en, .int .i64 ep]) 1).run Tryz.prog W = .ok (.string (strOf et)) W := fun _ => by kernel_rfl
  clear h; go_enter Tryz.func146, Tryz.ntmps146
  go_wp2_with fail
  refine T.out.mono ?_; rintro e w1 ⟨rfl, hp, ho⟩; have HP := hid hp; have HO := hid ho; clear hp ho; simp only [Tk.cells]; go_wp2; go_ret; exact ⟨rfl, HP.out, HO.out⟩
theorem number_rd {L : List Tk} {g : Nat} {vt : Value} {w : World} {s : St} (h : PS L g vt w s) :
    Calls Tryz.prog 147 #[ptr g] w fun e w' => e = .returned (.int .i64 (nameV L 2 s).n) ∧ PS L g vt w' (needS L 2 s) ∧ Only (fun k => k = g) w w' := by
  have T := hid (token_any 2 h (by decide)); generalize nameV L 2 s = E at *; obtain ⟨ek, et, en, ep⟩ := E; have hfd : ∀ W : World, (Instr.field 73 (.agg #[.int .i64 ek, .string (strOf et), .int .i64 en, .int .i64 ep]) 2).run Tryz.prog W = .ok (.int .i64 en) W := fun _ => by kernel_rfl
  clear h; go_enter Tryz.func147, Tryz.ntmps147
  go_wp2_with fail
  refine T.out.mono ?_; rintro e w1 ⟨rfl, hp, ho⟩; have HP := hid hp; have HO := hid ho; clear hp ho; simp only [Tk.cells]; go_wp2; go_ret; exact ⟨rfl, HP.out, HO.out⟩
structure BB (W : World) (b : Nat) (x : Nd) (k : Int) (v : Value) : Prop where
  cells : W.rangeAt b 0 (bcells x k v)
  room : W.there b 0 6
  lt : b < W.heap.size
theorem grow_any (x : Nd) (p : Option Addr) (n c : Nat) (w : World) :
    Calls Tryz.prog 145 #[.agg x.cells.toArray, .slice p n c] w fun e w' => ∃ b, e = .returned (ptr b) ∧ w.heap.size ≤ b ∧ BB w' b x x.kids (.slice p n c) ∧ Below w.heap.size w w' := by
  obtain ⟨k, d, q, z, s⟩ := x; simp only [Nd.cells]; go_enter Tryz.func145, Tryz.ntmps145
  go_wp2; go_ret; have h1 := range_new (w.alloc (Obj.cells #[.int .i64 k, .int .i64 d, .string (strOf q), .int .i64 z, .string (strOf s)] 58)) [.int .i64 k, .int .i64 d, .string (strOf q), .int .i64 z, .string (strOf s), .slice p n c] 174; have h2 := there_new (w.alloc (Obj.cells #[.int .i64 k, .int .i64 d, .string (strOf q), .int .i64 z, .string (strOf s)] 58)) #[.int .i64 k, .int .i64 d, .string (strOf q), .int .i64 z, .string (strOf s), .slice p n c] 174; have hs : (w.alloc (Obj.cells #[.int .i64 k, .int .i64 d, .string (strOf q), .int .i64 z, .string (strOf s)] 58)).heap.size = w.heap.size + 1 := by simp
  rw [hs] at h1 h2; exact ⟨w.heap.size + 1, rfl, Nat.le_succ _, ⟨h1, h2, by simp⟩, ((Below.refl _ _).alloc (Nat.le_refl _) _).alloc (by simp) _⟩
end Go.Proofs.YtmljjpdodcpohaaGreatDoor.Pa

