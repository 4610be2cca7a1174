/- The walk of row; The walks of expr, and, sum and prod; The walks of cmp and unary; The walk of unary. No condition but those that each states. -/
import Derived.Test.YtmljjpdodcpohaaGreatDoorMgAZ
namespace Go.Proofs.YtmljjpdodcpohaaGreatDoor.Pa
open Lib (hid)
set_option maxRecDepth 100000
set_option maxHeartbeats 4000000
open Go.RowKit Dk Lx Tr
theorem e_down {L : List Tk} {k : Nat} (hk : k < 5) (s : St) : Leads L [.e k] [] s [.e (k + 1), .row k] [] s := by
  cases s with
  | bad j => exact rfl
  | ok j => exact .yes (fun V => if_pos hk)
theorem row_end {L : List Tk} {k : Nat} (us : List (List Nd)) {s : St} (h : sgS L s ∉ level k) : Leads L [.row k] us s [] us s := by
  cases s with
  | bad j => exact rfl
  | ok j => exact .yes (fun V => if_neg h)
theorem row_more {L : List Tk} {k j : Nat} (us : List (List Nd)) (h : sg L j ∈ level k) : Leads L [.row k] us (.ok j) (.e (k + 1) :: .mk { nd 27 with text := sg L j } 2 :: (if k = 2 then [] else [.row k])) us (.ok (j + 1)) := .yes (fun _V => if_pos h)
theorem SB.aft {W : World} {X : Nat → Prop} {b : Nat} {t : List Nd} {s s' : St} (h : SB W X b t s) (ha : Aft s s') : SB W X b t s' := by
  cases s' with
  | ok j => obtain ⟨i, rfl⟩ := ha j rfl; exact h
  | bad k =>
    cases s with
    | ok i => exact SB.bad h
    | bad j => exact h
theorem SB.call {w W W' : World} {g b : Nat} {t : List Nd} {s : St} (h : SB W (fun k => k < w.heap.size) b t s) (ho : Only (fun k => k = g) W W') (hg : g < w.heap.size) : SB W' (fun k => k < w.heap.size) b t s :=
  SB.only h ho (fun i _ hi => by omega)
theorem SB.below {W W' : World} {X : Nat → Prop} {b : Nat} {t : List Nd} {s : St} (h : SB W X b t s) (hb : Below W.heap.size W W') : SB W' X b t s :=
  SB.only h (Only.of_below (F := fun _ => False) hb) (fun _ _ h => h.elim)
theorem LR.lit {w W : World} {cs : List (Nat × List Nd)} {s : St} {m : Nat} {vs : Array Value} (h : Kids W (fun k => k < w.heap.size) cs s) (hw : w.heap.size ≤ W.heap.size) (hm : m = cs.length) (hv : vs = (bp (cs.map (·.1))).toArray) (hl : m ≤ 1000000) :
    LR w (W.alloc (.cells vs 128)) (.slice (some ⟨W.heap.size, 0, none⟩) m m) cs s := by
  subst hm hv; refine ⟨?_, ?_⟩
  · have := World.ownsRow_lit (base := w.heap.size) (e := 128) (size := 1) W (bp (cs.map (·.1))).toArray cs.length hw (by unfold maxLen; omega) (by simp [bp])
    simpa using this
  · have h2 := Kids.weaken (Y := fun k => k < w.heap.size ∨ W.heap.size ≤ k) h (fun i hi hx => hx.elim id (fun h => absurd h (by omega)))
    refine Kids.weaken (Kids.only h2 (Only.of_below (F := fun _ => False) ((Below.refl _ _).alloc (Nat.le_refl _) _)) (fun _ _ h => h.elim)) (fun i _ hi => ?_); rcases hi with hi | hi
    · exact .inl hi
    · have e : W.heap.size = i := by simpa [Value.ownBlock] using hi
      exact .inr (by omega)
structure Ops (W : World) (g : Nat) (v : Value) (k : Nat) : Prop where
  ex : ∃ r m, v = .slice (some ⟨r, 0, none⟩) m m ∧ m = (level k).length ∧ r < W.heap.size ∧ r ≠ g ∧ W.rangeAt r 0 (strs (level k))
theorem level_len (k : Nat) : (level k).length ≤ 100 := by
  unfold level; split <;> decide
theorem level_ne (k : Nat) : [] ∉ level k := by
  unfold level; split <;> decide
theorem row_any (L : List Tk) (F : FuncId) (hF : Enters F) (k n : Nat) (hk : k < 5) (hk2 : k ≠ 2) (hE : RdN L F [.e (k + 1)] n) (s : St) (hs : mu L s < n) (g : Nat) (vt vo : Value) (w : World) (h : PS L g vt w s) (hv : Ops w g vo k) :
    Calls Tryz.prog 244 #[ptr g, .func (.func F) #[ptr g] #[], vo] w fun e w' => ∃ b t s', RdOk L g vt [.e k] s w e w' b t s' := by
  have HE := hid hE; have hcall := hF #[ptr g]; obtain ⟨r, m, rfl, hm, hr, hrg, hro⟩ := hv.ex; have HO := hid hro; have HM := hid hm; have HR := hid (And.intro hr hrg)
  have CT : Hid (∀ (q : List UInt8) (W : World), Only (fun k => k = g) w W → Calls Tryz.prog 250 #[.slice (some ⟨r, 0, none⟩) m m, .string (strOf q)] W fun e w' => e = .returned (.bool (decide (q ∈ level k))) ∧ W = w') :=
    hid (fun q W ho => contains_any (level k) q r m m W HM.out (by rw [HM.out]; exact level_len k) (rangeAt_block HO.out (ho.block r HR.out.1 HR.out.2)))
  have H0 := hid (On.start h); have HLT := hid h.lt; have HD : Hid (Leads L [.e k] [] s [.e (k + 1), .row k] [] s) := hid (e_down hk s); have HK2 := hid hk2; have E1 := hid (HE.out s hs); have HMU := hid hs; clear hE hF hv hm hr hrg hro h hk hk2 hs; go_enter Tryz.func244, Tryz.ntmps244
  go_wp2_with fail
  refine (E1.out g vt w H0.out.ps).mono ?_; rintro e w1 ⟨b, t, s1, hk⟩; obtain ⟨rfl, hl, hps, honly, hbr, hle⟩ := hk; have H1 := hid (H0.out.call hps honly)
  have HL1 : Hid (Leads L [.e k] [] s [.row k] [t] s1) := hid (HD.out.trans (by
    have := hl.over [.row k] []
    exact this))
  have HB1 := hid hbr; have HLE1 := hid hle; have HM1 := hid (Nat.lt_of_le_of_lt (mu_le hl.aft hle) HMU.out); clear hl hps honly hbr hle HD E1 HMU; go_wp2; go_loopg [7] (L.length - nx L s1) (fun q vl wr => ∃ (b : Nat) (t : List Nd) (s1 : St), vl = ptr b ∧ Hid (SB wr (fun k => k < w.heap.size) b t s1) ∧ Hid (On L g vt w wr s1) ∧ Hid (Leads L [.e k] [] s [.row k] [t] s1) ∧ Hid (nx L s ≤ nx L s1) ∧ Hid (mu L s1 < n) ∧ Hid (q = L.length - nx L s1))
  case atStart => exact ⟨b, t, s1, rfl, HB1, H1, HL1, HLE1, HM1, hid rfl⟩
  case round =>
    clear HB1 H1 HL1 HLE1 HM1; obtain ⟨b, t, s2, rfl, HB, HON, HL, HLE, HMU, HK⟩ := hrel; have SG := hid (sign_any HON.out.ps); have C1 := hid (fun W ho => CT.out (sgS L s2) W ho); by_cases hq : sgS L s2 ∈ level k
    · obtain ⟨j, rfl⟩ : ∃ j, s2 = .ok j := by
        cases s2 with
        | ok j => exact ⟨j, rfl⟩
        | bad k => rw [sgS_bad] at hq; exact absurd hq (level_ne _)
      have hjl : j < L.length := sg_lt (by intro e; rw [show sgS L (.ok j) = sg L j from rfl, e] at hq; exact level_ne _ hq)
      rw [decide_eq_true hq] at C1
      have HL2 : Hid (Leads L [.e k] [] s [.e (k + 1), .mk { nd 27 with text := sg L j } 2, .row k] [t] (.ok (j + 1))) := hid (HL.out.trans (by
        have := row_more (k := k) [t] hq
        rwa [if_neg HK2.out] at this))
      have hmu : mu L (.ok (j + 1)) < n := Nat.lt_of_le_of_lt (show L.length - (j + 1) + 1 ≤ L.length - j + 1 by omega) HMU.out; have E2 := hid (HE.out (.ok (j + 1)) hmu); have HLE4 : Hid (nx L s ≤ j + 1) := hid (Nat.le_trans HLE.out (Nat.le_succ _)); have HQ2 := hid hmu; have HJ := hid hjl; rw [show sgS L (.ok j) = sg L j from rfl] at SG C1; generalize sg L j = op at *; have z9 : (j : Int) ≤ 1000000 := by have := HON.out.ps.few; omega
      clear hq HL hmu hjl HLE; go_wp2_with fail
      refine SG.out.mono ?_; rintro e v1 ⟨rfl, hb⟩; have O1 := hid (HON.out.below hb); have B1 := hid (HB.out.below hb); clear hb; go_wp2_with fail
      refine (C1.out v1 O1.out.only).mono ?_; rintro e v2 ⟨rfl, rfl⟩; obtain ⟨-, c1, -, -⟩ := O1.out.ps.at; obtain ⟨f1, -, -⟩ := O1.out.ps.free; rw [show nx L (.ok j) = j from rfl] at c1; have O2 := hid (O1.out.call (O1.out.ps.next HJ.out) (Only.of_setCell _)); have B2 := hid ((B1.out.call (Only.of_setCell (g := g) (j := 1) (.int .i64 ((j : Int) + 1))) HLT.out).aft (s' := .ok (j + 1)) (fun _ _ => ⟨j, rfl⟩)); go_wp2_with fail
      generalize World.setCell _ _ _ = v3 at O2 B2 ⊢; clear c1 f1; refine (E2.out g vt v3 O2.out.ps).mono ?_; rintro e v4 ⟨b', t', s4, hk⟩; obtain ⟨rfl, hl, hps, honly, hbr, hle⟩ := hk; have O4 := hid (O2.out.call hps honly); have B4 := hid ((B2.out.call honly HLT.out).aft hl.aft); have B4' : Hid (SB v4 (fun k => k < w.heap.size) b' t' s4) := hid (SB.weaken hbr (fun i _ hi => by have := O2.out.only.size; omega))
      have HL4 : Hid (Leads L [.e k] [] s [.row k] [join { nd 27 with text := op } [t, t']] s4) := hid ((HL2.out.trans (by
        have := hl.over [.mk { nd 27 with text := op } 2, .row k] [t]; rw [List.append_nil] at this
        exact this)).trans (by
        have := (Leads.mk (L := L) { nd 27 with text := op } [t, t'] 2 rfl s4).over [.row k] []
        exact this))
      have HMU4 := hid (Nat.lt_of_le_of_lt (mu_le hl.aft hle) HQ2.out); have HLE5 : Hid (nx L s ≤ nx L s4 ∧ j + 1 ≤ nx L s4) := hid ⟨Nat.le_trans HLE4.out hle, hle⟩; have R4 : Hid (LR w (v4.alloc (.cells #[ptr b, ptr b'] 128)) (.slice (some ⟨v4.heap.size, 0, none⟩) 2 2) [(b, t), (b', t')] s4) := hid (LR.lit (Kids.add (Kids.add (Kids.nil _ _ _) B4.out) B4'.out) O4.out.only.size rfl rfl (by decide)); have O5 := hid (O4.out.alloc (.cells #[ptr b, ptr b'] 128)); have G := hid (fun W => grow_any ⟨27, 0, [], 0, op⟩ (some ⟨v4.heap.size, 0, none⟩) 2 2 W); clear hl hps honly hbr hle HL2 E2 HLE4 HQ2; go_wp2_with fail
      refine (G.out _).mono ?_; rintro e v6 ⟨b6, rfl, hb, hB, hbel⟩; have O6 := hid (O5.out.below hbel); have HSB : Hid (SB v6 (fun k => k < w.heap.size) b6 (join { nd 27 with text := op } [t, t']) s4) := hid (sb_node (cs := [(b, t), (b', t')]) hB (by have := O5.out.only.size; omega) (R4.out.below hbel))
      clear hbel hb hB G; go_wp2; go_roundg (L.length - nx L s4)
      case rel => exact ⟨b6, _, s4, rfl, HSB, O6, HL4, hid HLE5.out.1, HMU4, hid rfl⟩
      case measure => have := HK.out; have := HLE5.out.2; have := HJ.out; have e : nx L (.ok j) = j := rfl; omega
    · rw [decide_eq_false hq] at C1
      have HL2 := hid (HL.out.trans (row_end [t] hq)); generalize sgS L s2 = op at *; clear hq; go_wp2_with fail
      refine SG.out.mono ?_; rintro e v1 ⟨rfl, hb⟩; have O1 := hid (HON.out.below hb); have B1 := hid (HB.out.below hb); clear hb; go_wp2_with fail
      refine (C1.out v1 O1.out.only).mono ?_; rintro e v2 ⟨rfl, rfl⟩; go_wp2; go_ret; exact ⟨b, t, s2, rfl, HL2.out, O1.out.ps, O1.out.only, B1.out, HLE.out⟩
end Go.Proofs.YtmljjpdodcpohaaGreatDoor.Pa

namespace Go.Proofs.YtmljjpdodcpohaaGreatDoor.Pa
open Lib (hid)
set_option maxRecDepth 100000
set_option maxHeartbeats 1000000
open Go.RowKit Dk Lx Tr
theorem RdOk.behind {L : List Tk} {g : Nat} {vt : Value} {A : List Sy} {s s' : St} {w W w' : World} {e : Ending} {b : Nat} {t : List Nd} (h : RdOk L g vt A s W e w' b t s') (hb : Below w.heap.size w W) : RdOk L g vt A s w e w' b t s' :=
  ⟨h.ret, h.leads, h.ps, (Only.of_below (F := fun k => k = g) hb).trans h.only (fun _ _ h => h), SB.weaken h.br (fun _i _ hi => Nat.lt_of_lt_of_le hi hb.size), h.le⟩
theorem enters_and : Enters 245 := fun _ _ => by kernel_rfl
theorem enters_cmp : Enters 251 := fun _ _ => by kernel_rfl
theorem enters_prod : Enters 257 := fun _ _ => by kernel_rfl
theorem enters_unary : Enters 258 := fun _ _ => by kernel_rfl
theorem enters_expr : Enters 231 := fun _ _ => by kernel_rfl
theorem enters_param : Enters 183 := fun _ _ => by kernel_rfl
theorem expr_rd (L : List Tk) (n : Nat) (hE : RdN L 245 [.e 1] n) (s : St) (hs : mu L s < n) : Rd L 231 [.e 0] s := by
  intro g vt w h; have HO : Ops (w.alloc (.cells #[.string ⟨#[111, 114]⟩] 9)) g (.slice (some ⟨w.heap.size, 0, none⟩) 1 1) 0 := ⟨w.heap.size, 1, rfl, rfl, by simp, by have := h.lt; omega, range_new w [.string ⟨#[111, 114]⟩] 9⟩
  have R := hid (row_any L 245 enters_and 0 n (by decide) (by decide) hE s hs g vt _ _ (PS.below h ((Below.refl _ _).alloc (Nat.le_refl _) _)) HO); have HB := hid ((Below.refl w.heap.size w).alloc (Nat.le_refl _) (.cells #[.string ⟨#[111, 114]⟩] 9)); clear HO h hE hs; go_enter Tryz.func231, Tryz.ntmps231
  go_wp2_with fail
  refine R.out.mono ?_; rintro e w1 ⟨b, t, s1, hk⟩; have HK := hid (hk.behind HB.out); obtain ⟨rfl, -⟩ := hk; go_wp2; go_ret; exact ⟨b, t, s1, HK.out⟩
theorem and_rd (L : List Tk) (n : Nat) (hE : RdN L 251 [.e 2] n) (s : St) (hs : mu L s < n) : Rd L 245 [.e 1] s := by
  intro g vt w h; have HO : Ops (w.alloc (.cells #[.string ⟨#[97, 110, 100]⟩] 9)) g (.slice (some ⟨w.heap.size, 0, none⟩) 1 1) 1 := ⟨w.heap.size, 1, rfl, rfl, by simp, by have := h.lt; omega, range_new w [.string ⟨#[97, 110, 100]⟩] 9⟩
  have R := hid (row_any L 251 enters_cmp 1 n (by decide) (by decide) hE s hs g vt _ _ (PS.below h ((Below.refl _ _).alloc (Nat.le_refl _) _)) HO); have HB := hid ((Below.refl w.heap.size w).alloc (Nat.le_refl _) (.cells #[.string ⟨#[97, 110, 100]⟩] 9)); clear HO h hE hs; go_enter Tryz.func245, Tryz.ntmps245
  go_wp2_with fail
  refine R.out.mono ?_; rintro e w1 ⟨b, t, s1, hk⟩; have HK := hid (hk.behind HB.out); obtain ⟨rfl, -⟩ := hk; go_wp2; go_ret; exact ⟨b, t, s1, HK.out⟩
theorem sum_rd (L : List Tk) (n : Nat) (hE : RdN L 257 [.e 4] n) (s : St) (hs : mu L s < n) : Rd L 256 [.e 3] s := by
  intro g vt w h; have HO : Ops (w.alloc (.cells #[.string ⟨#[43]⟩, .string ⟨#[45]⟩, .string ⟨#[46, 46]⟩] 9)) g (.slice (some ⟨w.heap.size, 0, none⟩) 3 3) 3 := ⟨w.heap.size, 3, rfl, rfl, by simp, by have := h.lt; omega, range_new w [.string ⟨#[43]⟩, .string ⟨#[45]⟩, .string ⟨#[46, 46]⟩] 9⟩
  have R := hid (row_any L 257 enters_prod 3 n (by decide) (by decide) hE s hs g vt _ _ (PS.below h ((Below.refl _ _).alloc (Nat.le_refl _) _)) HO); have HB := hid ((Below.refl w.heap.size w).alloc (Nat.le_refl _) (.cells #[.string ⟨#[43]⟩, .string ⟨#[45]⟩, .string ⟨#[46, 46]⟩] 9)); clear HO h hE hs; go_enter Tryz.func256, Tryz.ntmps256
  go_wp2_with fail
  refine R.out.mono ?_; rintro e w1 ⟨b, t, s1, hk⟩; have HK := hid (hk.behind HB.out); obtain ⟨rfl, -⟩ := hk; go_wp2; go_ret; exact ⟨b, t, s1, HK.out⟩
theorem prod_rd (L : List Tk) (n : Nat) (hE : RdN L 258 [.e 5] n) (s : St) (hs : mu L s < n) : Rd L 257 [.e 4] s := by
  intro g vt w h; have HO : Ops (w.alloc (.cells #[.string ⟨#[42]⟩, .string ⟨#[47]⟩, .string ⟨#[37]⟩] 9)) g (.slice (some ⟨w.heap.size, 0, none⟩) 3 3) 4 := ⟨w.heap.size, 3, rfl, rfl, by simp, by have := h.lt; omega, range_new w [.string ⟨#[42]⟩, .string ⟨#[47]⟩, .string ⟨#[37]⟩] 9⟩
  have R := hid (row_any L 258 enters_unary 4 n (by decide) (by decide) hE s hs g vt _ _ (PS.below h ((Below.refl _ _).alloc (Nat.le_refl _) _)) HO); have HB := hid ((Below.refl w.heap.size w).alloc (Nat.le_refl _) (.cells #[.string ⟨#[42]⟩, .string ⟨#[47]⟩, .string ⟨#[37]⟩] 9)); clear HO h hE hs; go_enter Tryz.func257, Tryz.ntmps257
  go_wp2_with fail
  refine R.out.mono ?_; rintro e w1 ⟨b, t, s1, hk⟩; have HK := hid (hk.behind HB.out); obtain ⟨rfl, -⟩ := hk; go_wp2; go_ret; exact ⟨b, t, s1, HK.out⟩
end Go.Proofs.YtmljjpdodcpohaaGreatDoor.Pa

namespace Go.Proofs.YtmljjpdodcpohaaGreatDoor.Pa
open Lib (hid)
set_option maxRecDepth 100000
set_option maxHeartbeats 8000000
open Go.RowKit Dk Lx Tr
theorem str_beq' (a q : List UInt8) : ((strOf a).toList == q) = decide (a = q) := by
  have := str_beq a q; rwa [strOf_tl q] at this
theorem mu_next {L : List Tk} {j : Nat} (h : j < L.length) : mu L (.ok (j + 1)) < mu L (.ok j) := by
  show L.length - (j + 1) + 1 < L.length - j + 1
  omega
theorem sgS_ok {L : List Tk} {s : St} {q : List UInt8} (h : sgS L s = q) (hq : q ≠ []) : ∃ j, s = .ok j ∧ sg L j = q ∧ j < L.length := by
  cases s with
  | ok j => exact ⟨j, rfl, h, sg_lt (by rw [show sg L j = q from h]; exact hq)⟩
  | bad k => rw [sgS_bad] at h; exact absurd h.symm hq
theorem cmp_rd (L : List Tk) (n : Nat) (hE : RdN L 256 [.e 3] n) (s : St) (hs : mu L s < n) : Rd L 251 [.e 2] s := by
  intro g vt w h; have HE := hid hE; have H0 := hid (On.start h); have HLT := hid h.lt; have HD : Hid (Leads L [.e 2] [] s [.e 3, .row 2] [] s) := hid (e_down (by decide) s); have E1 := hid (HE.out s hs); have HMU := hid hs; clear hE h hs; go_enter Tryz.func251, Tryz.ntmps251
  go_wp2_with fail
  refine (E1.out g vt w H0.out.ps).mono ?_; rintro e w1 ⟨b, t, s1, hk⟩; obtain ⟨rfl, hl, hps, honly, hbr, hle⟩ := hk; have H1 := hid (H0.out.call hps honly)
  have HL1 : Hid (Leads L [.e 2] [] s [.row 2] [t] s1) := hid (HD.out.trans (by
    have := hl.over [.row 2] []
    exact this))
  have HB1 := hid hbr; have HLE1 := hid hle; have HM1 := hid (Nat.lt_of_le_of_lt (mu_le hl.aft hle) HMU.out); clear hl hps honly hbr hle HD E1 HMU; have SG := hid (sign_any H1.out.ps); by_cases hq : sgS L s1 ∈ level 2
  · obtain ⟨j, rfl, hj, hjl⟩ := sgS_ok (rfl : sgS L s1 = _) (by intro e; rw [e] at hq; exact level_ne _ hq)
    have HL2 : Hid (Leads L [.e 2] [] s [.e 3, .mk { nd 27 with text := sg L j } 2] [t] (.ok (j + 1))) := hid (HL1.out.trans (row_more (k := 2) [t] hq)); have hmu : mu L (.ok (j + 1)) < n := Nat.lt_trans (mu_next hjl) HM1.out; have E2 := hid (HE.out (.ok (j + 1)) hmu); have HLE4 : Hid (nx L s ≤ j + 1) := hid (Nat.le_trans HLE1.out (Nat.le_succ _)); have HJ := hid hjl; rw [show sgS L (.ok j) = sg L j from rfl] at SG hq; generalize sg L j = op at *; have z9 : (j : Int) ≤ 1000000 := by have := H1.out.ps.few; omega
    have G : Hid (∀ (p : Option Addr) (W : World), Calls Tryz.prog 145 #[.agg #[.int .i64 27, .int .i64 0, .string ⟨#[]⟩, .int .i64 0, .string (strOf op)], .slice p 2 2] W fun e w' => ∃ b, e = .returned (ptr b) ∧ W.heap.size ≤ b ∧ BB w' b ⟨27, 0, [], 0, op⟩ 0 (.slice p 2 2) ∧ Below W.heap.size W w') := hid (fun p W => grow_any ⟨27, 0, [], 0, op⟩ p 2 2 W); have q1 : ((strOf op).toList == ([61, 61] : List UInt8)) = decide (op = [61, 61]) := str_beq' op [61, 61]; have q2 : ((strOf op).toList == ([33, 61] : List UInt8)) = decide (op = [33, 61]) := str_beq' op [33, 61]; have q3 : ((strOf op).toList == ([60] : List UInt8)) = decide (op = [60]) := str_beq' op [60]; have q4 : ((strOf op).toList == ([60, 61] : List UInt8)) = decide (op = [60, 61]) := str_beq' op [60, 61]; have hop : op = [61, 61] ∨ op = [33, 61] ∨ op = [60] ∨ op = [60, 61] := by simpa [level] using hq
    generalize hO : strOf op = o at *
    have z1 : (o.toList == ([61, 61] : List UInt8)) = true ∨ (o.toList == ([61, 61] : List UInt8)) = false ∧ (o.toList == ([33, 61] : List UInt8)) = true ∨ (o.toList == ([61, 61] : List UInt8)) = false ∧ (o.toList == ([33, 61] : List UInt8)) = false ∧ (o.toList == ([60] : List UInt8)) = true ∨ (o.toList == ([61, 61] : List UInt8)) = false ∧ (o.toList == ([33, 61] : List UInt8)) = false ∧ (o.toList == ([60] : List UInt8)) = false ∧ (o.toList == ([60, 61] : List UInt8)) = true := by
      rw [q1, q2, q3, q4]; rcases hop with rfl | rfl | rfl | rfl <;> decide
    clear hq HL1 hmu hjl HLE1 hj q1 q2 q3 q4 hop hO; rcases z1 with z1 | ⟨z1, z2⟩ | ⟨z1, z2, z3⟩ | ⟨z1, z2, z3, z4⟩
    all_goals
      go_wp2_with fail
      refine SG.out.mono ?_; rintro e v1 ⟨rfl, hb⟩; have O1 := hid (H1.out.below hb); have B1 := hid (HB1.out.below hb); clear hb; obtain ⟨-, c1, -, -⟩ := O1.out.ps.at; obtain ⟨f1, -, -⟩ := O1.out.ps.free; rw [show nx L (.ok j) = j from rfl] at c1; have O2 := hid (O1.out.call (O1.out.ps.next HJ.out) (Only.of_setCell _)); have B2 := hid (SB.aft (SB.call B1.out (Only.of_setCell (g := g) (j := 1) (.int .i64 ((j : Int) + 1))) HLT.out) (s' := .ok (j + 1)) (fun _ _ => ⟨j, rfl⟩)); go_wp2_with fail
      generalize World.setCell _ _ _ = v3 at O2 B2 ⊢; clear c1 f1; refine (E2.out g vt v3 O2.out.ps).mono ?_; rintro e v4 ⟨b', t', s4, hk⟩; obtain ⟨rfl, hl, hps, honly, hbr, hle⟩ := hk; have O4 := hid (O2.out.call hps honly); have B4 := hid (SB.aft (SB.call B2.out honly HLT.out) hl.aft); have B4' : Hid (SB v4 (fun k => k < w.heap.size) b' t' s4) := hid (SB.weaken hbr (fun i _ hi => by have := O2.out.only.size; omega))
      have HL4 : Hid (Leads L [.e 2] [] s [] [join { nd 27 with text := op } [t, t']] s4) := hid ((HL2.out.trans (by
        have := hl.over [.mk { nd 27 with text := op } 2] [t]; rw [List.append_nil] at this
        exact this)).trans (Leads.mk (L := L) { nd 27 with text := op } [t, t'] 2 rfl s4))
      have HLE5 : Hid (nx L s ≤ nx L s4) := hid (Nat.le_trans HLE4.out hle); have R4 : Hid (LR w (v4.alloc (.cells #[ptr b, ptr b'] 128)) (.slice (some ⟨v4.heap.size, 0, none⟩) 2 2) [(b, t), (b', t')] s4) := hid (LR.lit (Kids.add (Kids.add (Kids.nil _ _ _) B4.out) B4'.out) O4.out.only.size rfl rfl (by decide)); have O5 := hid (O4.out.alloc (.cells #[ptr b, ptr b'] 128)); clear hl hps honly hbr hle; go_wp2_with fail
      refine (G.out _ _).mono ?_; rintro e v6 ⟨b6, rfl, hb, hB, hbel⟩; have O6 := hid (O5.out.below hbel); have HSB : Hid (SB v6 (fun k => k < w.heap.size) b6 (join { nd 27 with text := op } [t, t']) s4) := hid (sb_node (cs := [(b, t), (b', t')]) hB (by have := O5.out.only.size; omega) (R4.out.below hbel))
      clear hbel hb hB; go_wp2; go_ret; exact ⟨b6, _, s4, rfl, HL4.out, O6.out.ps, O6.out.only, HSB.out, HLE5.out⟩
  · have HL2 := hid (HL1.out.trans (row_end [t] hq))
    generalize sgS L s1 = op at *; have q1 : ((strOf op).toList == ([61, 61] : List UInt8)) = false := (str_beq' op [61, 61]).trans (decide_eq_false (fun e => hq (by rw [e]; decide)))
    have q2 : ((strOf op).toList == ([33, 61] : List UInt8)) = false := (str_beq' op [33, 61]).trans (decide_eq_false (fun e => hq (by rw [e]; decide)))
    have q3 : ((strOf op).toList == ([60] : List UInt8)) = false := (str_beq' op [60]).trans (decide_eq_false (fun e => hq (by rw [e]; decide)))
    have q4 : ((strOf op).toList == ([60, 61] : List UInt8)) = false := (str_beq' op [60, 61]).trans (decide_eq_false (fun e => hq (by rw [e]; decide)))
    generalize strOf op = o at *; clear hq; go_wp2_with fail
    refine SG.out.mono ?_; rintro e v1 ⟨rfl, hb⟩; have O1 := hid (H1.out.below hb); have B1 := hid (HB1.out.below hb); clear hb; go_wp2; go_ret; exact ⟨b, t, s1, rfl, HL2.out, O1.out.ps, O1.out.only, B1.out, HLE1.out⟩
end Go.Proofs.YtmljjpdodcpohaaGreatDoor.Pa

namespace Go.Proofs.YtmljjpdodcpohaaGreatDoor.Pa
open Lib (hid)
set_option maxRecDepth 100000
set_option maxHeartbeats 8000000
open Go.RowKit Dk Lx Tr
theorem one_e (L : List Tk) (n : Nat) (V : List (List Nd)) (i : Nat) : one L (.e n) V i = if n < 5 then some ([.e (n + 1), .row n], V, i)
      else if sg L i = [115, 112, 97, 119, 110] then some ([.e 5, .mk (nd 30) 1], V, i + 1)
      else if sg L i ∈ [[45], [110, 111, 116], [108, 101, 110]] then some ([.e 5, .mk { nd 28 with text := sg L i } 1], V, i + 1)
      else some ([.prim, .post], V, i) := rfl
theorem e5_spawn {L : List Tk} {j : Nat} (h : sg L j = [115, 112, 97, 119, 110]) : Leads L [.e 5] [] (.ok j) [.e 5, .mk (nd 30) 1] [] (.ok (j + 1)) := .yes (fun V => by
  rw [one_e, if_neg (by decide), if_pos h])
theorem e5_un {L : List Tk} {j : Nat} (h : sg L j ∈ [[45], [110, 111, 116], [108, 101, 110]]) : Leads L [.e 5] [] (.ok j) [.e 5, .mk { nd 28 with text := sg L j } 1] [] (.ok (j + 1)) := .yes (fun V => by
  rw [one_e, if_neg (by decide), if_neg (fun e => by rw [e] at h; exact absurd h (by decide)), if_pos h])
theorem e5_post {L : List Tk} {s : St} (h1 : sgS L s ≠ [115, 112, 97, 119, 110]) (h2 : sgS L s ∉ [[45], [110, 111, 116], [108, 101, 110]]) : Leads L [.e 5] [] s [.prim, .post] [] s := by
  cases s with
  | bad k => exact rfl
  | ok j => exact .yes (fun V => by rw [one_e, if_neg (by decide), if_neg (show ¬sg L j = _ from h1), if_neg (show ¬sg L j ∈ _ from h2)])
theorem unary_rd (L : List Tk) (n : Nat) (hU : RdN L 258 [.e 5] n) (s : St) (hP : Rd L 259 [.prim, .post] s) (hs : mu L s ≤ n) : Rd L 258 [.e 5] s := by
  intro g vt w h; have HU := hid hU; have HP := hid hP; have H0 := hid (On.start h); have HLT := hid h.lt; have SG := hid (sign_any h); by_cases hq : sgS L s ∈ [[115, 112, 97, 119, 110], [45], [110, 111, 116], [108, 101, 110]]
  · obtain ⟨j, rfl, hj, hjl⟩ := sgS_ok (rfl : sgS L s = _) (by intro e; rw [e] at hq; exact absurd hq (by decide))
    have hmu : mu L (.ok (j + 1)) < n := Nat.lt_of_lt_of_le (mu_next hjl) hs; have E2 := hid (HU.out (.ok (j + 1)) hmu); have HJ := hid hjl; rw [show sgS L (.ok j) = sg L j from rfl] at SG hq; have HS1 : Hid (sg L j = [115, 112, 97, 119, 110] → Leads L [.e 5] [] (.ok j) [.e 5, .mk (nd 30) 1] [] (.ok (j + 1))) := hid e5_spawn; have HS2 : Hid (sg L j ∈ [[45], [110, 111, 116], [108, 101, 110]] → Leads L [.e 5] [] (.ok j) [.e 5, .mk { nd 28 with text := sg L j } 1] [] (.ok (j + 1))) := hid e5_un; generalize sg L j = op at *; have z9 : (j : Int) ≤ 1000000 := by have := h.few; omega
    have q1 := str_beq' op [115, 112, 97, 119, 110]; have q2 := str_beq' op [45]; have q3 := str_beq' op [110, 111, 116]; have q4 := str_beq' op [108, 101, 110]; clear hU hP h hs hmu hj; by_cases hsp : op = [115, 112, 97, 119, 110]
    · rw [decide_eq_true hsp] at q1
      have HL2 := hid (HS1.out hsp); have G := hid (fun p W => grow_any (nd 30) p 1 1 W); unfold nd Nd.cells at G; generalize strOf op = o at *; clear hsp HS1 HS2 hq q2 q3 q4; go_enter Tryz.func258, Tryz.ntmps258
      go_wp2_with fail
      refine SG.out.mono ?_; rintro e v1 ⟨rfl, hb⟩; have O1 := hid (H0.out.below hb); clear hb; obtain ⟨-, c1, -, -⟩ := O1.out.ps.at; obtain ⟨f1, -, -⟩ := O1.out.ps.free; rw [show nx L (.ok j) = j from rfl] at c1; have O2 := hid (O1.out.call (O1.out.ps.next HJ.out) (Only.of_setCell _)); go_wp2_with fail
      generalize World.setCell _ _ _ = v3 at O2 ⊢; clear c1 f1; refine (E2.out g vt v3 O2.out.ps).mono ?_; rintro e v4 ⟨b', t', s4, hk⟩; obtain ⟨rfl, hl, hps, honly, hbr, hle⟩ := hk; have O4 := hid (O2.out.call hps honly); have B4' : Hid (SB v4 (fun k => k < w.heap.size) b' t' s4) := hid (SB.weaken hbr (fun i _ hi => by have := O2.out.only.size; omega))
      have HL4 : Hid (Leads L [.e 5] [] (.ok j) [] [join (nd 30) [t']] s4) := hid ((HL2.out.trans (by
        have := hl.over [.mk (nd 30) 1] []
        exact this)).trans (Leads.mk (L := L) (nd 30) [t'] 1 rfl s4))
      have HLE5 : Hid (nx L (.ok j) ≤ nx L s4) := hid (Nat.le_trans (Nat.le_succ j) hle); have R4 : Hid (LR w (v4.alloc (.cells #[ptr b'] 128)) (.slice (some ⟨v4.heap.size, 0, none⟩) 1 1) [(b', t')] s4) := hid (LR.lit (Kids.add (Kids.nil _ _ _) B4'.out) O4.out.only.size rfl rfl (by decide)); have O5 := hid (O4.out.alloc (.cells #[ptr b'] 128)); clear hl hps honly hbr hle; go_wp2_with fail
      refine (G.out _ _).mono ?_; rintro e v6 ⟨b6, rfl, hb, hB, hbel⟩; have O6 := hid (O5.out.below hbel); have HSB : Hid (SB v6 (fun k => k < w.heap.size) b6 (join (nd 30) [t']) s4) := hid (sb_node (cs := [(b', t')]) hB (by have := O5.out.only.size; omega) (R4.out.below hbel))
      clear hbel hb hB; go_wp2; go_ret; exact ⟨b6, _, s4, rfl, HL4.out, O6.out.ps, O6.out.only, HSB.out, HLE5.out⟩
    · rw [decide_eq_false hsp] at q1
      have hop : op = [45] ∨ op = [110, 111, 116] ∨ op = [108, 101, 110] := by simpa [hsp] using hq
      have HL2 := hid (HS2.out (by simpa using hop)); have G : Hid (∀ (p : Option Addr) (W : World), Calls Tryz.prog 145 #[.agg #[.int .i64 28, .int .i64 0, .string ⟨#[]⟩, .int .i64 0, .string (strOf op)], .slice p 1 1] W fun e w' => ∃ b, e = .returned (ptr b) ∧ W.heap.size ≤ b ∧ BB w' b ⟨28, 0, [], 0, op⟩ 0 (.slice p 1 1) ∧ Below W.heap.size W w') := hid (fun p W => grow_any ⟨28, 0, [], 0, op⟩ p 1 1 W)
      have z1 : ((strOf op).toList == ([45] : List UInt8)) = true ∨ ((strOf op).toList == ([45] : List UInt8)) = false ∧ ((strOf op).toList == ([110, 111, 116] : List UInt8)) = true ∨ ((strOf op).toList == ([45] : List UInt8)) = false ∧ ((strOf op).toList == ([110, 111, 116] : List UInt8)) = false ∧ ((strOf op).toList == ([108, 101, 110] : List UInt8)) = true := by
        rw [q2, q3, q4]; rcases hop with rfl | rfl | rfl <;> decide
      generalize strOf op = o at *; clear hsp HS1 HS2 hq q2 q3 q4 hop; rcases z1 with z1 | ⟨z1, z2⟩ | ⟨z1, z2, z3⟩
      all_goals
        go_enter Tryz.func258, Tryz.ntmps258
        go_wp2_with fail
        refine SG.out.mono ?_; rintro e v1 ⟨rfl, hb⟩; have O1 := hid (H0.out.below hb); clear hb; obtain ⟨-, c1, -, -⟩ := O1.out.ps.at; obtain ⟨f1, -, -⟩ := O1.out.ps.free; rw [show nx L (.ok j) = j from rfl] at c1; have O2 := hid (O1.out.call (O1.out.ps.next HJ.out) (Only.of_setCell _)); go_wp2_with fail
        generalize World.setCell _ _ _ = v3 at O2 ⊢; clear c1 f1; refine (E2.out g vt v3 O2.out.ps).mono ?_; rintro e v4 ⟨b', t', s4, hk⟩; obtain ⟨rfl, hl, hps, honly, hbr, hle⟩ := hk; have O4 := hid (O2.out.call hps honly); have B4' : Hid (SB v4 (fun k => k < w.heap.size) b' t' s4) := hid (SB.weaken hbr (fun i _ hi => by have := O2.out.only.size; omega))
        have HL4 : Hid (Leads L [.e 5] [] (.ok j) [] [join { nd 28 with text := op } [t']] s4) := hid ((HL2.out.trans (by
          have := hl.over [.mk { nd 28 with text := op } 1] []
          exact this)).trans (Leads.mk (L := L) { nd 28 with text := op } [t'] 1 rfl s4))
        have HLE5 : Hid (nx L (.ok j) ≤ nx L s4) := hid (Nat.le_trans (Nat.le_succ j) hle); have R4 : Hid (LR w (v4.alloc (.cells #[ptr b'] 128)) (.slice (some ⟨v4.heap.size, 0, none⟩) 1 1) [(b', t')] s4) := hid (LR.lit (Kids.add (Kids.nil _ _ _) B4'.out) O4.out.only.size rfl rfl (by decide)); have O5 := hid (O4.out.alloc (.cells #[ptr b'] 128)); clear hl hps honly hbr hle; go_wp2_with fail
        refine (G.out _ _).mono ?_; rintro e v6 ⟨b6, rfl, hb, hB, hbel⟩; have O6 := hid (O5.out.below hbel); have HSB : Hid (SB v6 (fun k => k < w.heap.size) b6 (join { nd 28 with text := op } [t']) s4) := hid (sb_node (cs := [(b', t')]) hB (by have := O5.out.only.size; omega) (R4.out.below hbel))
        clear hbel hb hB; go_wp2; go_ret; exact ⟨b6, _, s4, rfl, HL4.out, O6.out.ps, O6.out.only, HSB.out, HLE5.out⟩
  · have hq' : sgS L s ≠ [115, 112, 97, 119, 110] ∧ sgS L s ∉ [[45], [110, 111, 116], [108, 101, 110]] := by
      constructor
      · intro e; exact hq (by rw [e]; decide)
      · intro e; exact hq (List.mem_cons_of_mem _ e)
    have HL2 := hid (e5_post hq'.1 hq'.2); generalize sgS L s = op at *; have q1 : ((strOf op).toList == ([115, 112, 97, 119, 110] : List UInt8)) = false := (str_beq' op _).trans (decide_eq_false (fun e => hq (by rw [e]; decide)))
    have q2 : ((strOf op).toList == ([45] : List UInt8)) = false := (str_beq' op _).trans (decide_eq_false (fun e => hq (by rw [e]; decide)))
    have q3 : ((strOf op).toList == ([110, 111, 116] : List UInt8)) = false := (str_beq' op _).trans (decide_eq_false (fun e => hq (by rw [e]; decide)))
    have q4 : ((strOf op).toList == ([108, 101, 110] : List UInt8)) = false := (str_beq' op _).trans (decide_eq_false (fun e => hq (by rw [e]; decide)))
    generalize strOf op = o at *; clear hq hq' h hU hP hs; go_enter Tryz.func258, Tryz.ntmps258
    go_wp2_with fail
    refine SG.out.mono ?_; rintro e v1 ⟨rfl, hb⟩; have O1 := hid (H0.out.below hb); have HB := hid hb; clear hb; go_wp2_with fail
    refine (HP.out g vt v1 O1.out.ps).mono ?_; rintro e v2 ⟨b, t, s2, hk⟩; have HK := hid (hk.behind HB.out); obtain ⟨rfl, -⟩ := hk; go_wp2; go_ret; exact ⟨b, t, s2, rfl, HL2.out.trans HK.out.leads, HK.out.ps, HK.out.only, HK.out.br, HK.out.le⟩
end Go.Proofs.YtmljjpdodcpohaaGreatDoor.Pa

