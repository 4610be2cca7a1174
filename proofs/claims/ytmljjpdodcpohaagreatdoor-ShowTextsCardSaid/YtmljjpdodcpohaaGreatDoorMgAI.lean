/- The walk of tree; The walk of the document's Depth. No condition but those that each states. -/
import Derived.Test.YtmljjpdodcpohaaGreatDoorMgAE
import Derived.Deep.LoopGhost
namespace Go.Proofs.YtmljjpdodcpohaaGreatDoor.Tr
open Lib (hid)
set_option maxRecDepth 100000
set_option maxHeartbeats 2000000
open Go.RowKit Dk Lx
def stk (o : List Nat) : List Int := o.reverse.map fun (x : Nat) => (x : Int)
theorem stk_cons (k : Nat) (o : List Nat) : stk (k :: o) = stk o ++ [(k : Int)] := by simp [stk]
theorem stk_len (o : List Nat) : (stk o).length = o.length := by simp [stk]
def Bd (o : List Nat) : Prop := ∀ y ∈ o, (y : Int) ≤ 9223372036854775807
theorem depI_some {ks : List Int} {d : Nat} (h : depP [] 0 ks = some d) : depI ks = (d : Int) := by unfold depI; rw [h]
theorem depI_none {ks : List Int} (h : depP [] 0 ks = none) : depI ks = -1 := by unfold depI; rw [h]
theorem depth_nat (ts : List Nd) (p : Option Addr) (n c : Nat) (w : World) (hn : n = ts.length) (h : Nds w (.slice p n c) ts) (hl : n ≤ 4000) :
    Calls Tryz.prog 52 #[.slice p n c] w fun e w' => e = .returned (.int .i64 (depI (kidsOf ts))) ∧ Below w.heap.size w w' := by
  have HN := hid hn
  have HND : Hid (∀ W, Below w.heap.size w W → ∀ i (hi : i < ts.length), ∃ g o, p = some ⟨g, o, none⟩ ∧ g < W.heap.size ∧ W.rangeAt g (o + i * 5) (ts[i]).cells) := hid (fun W hb i hi => by
    obtain ⟨g, o, hp, hg, -, -, -, -, -, h1⟩ := (h.later hb).node i hi
    exact ⟨g, o, hp, hg, h1⟩)
  obtain ⟨i0, hi0, hy0, hy1, hy2⟩ := info_parts int_info3; have HFT := hid h.fit; have HB0 : Hid (Bd []) := hid (fun _ h => by cases h); have H0 : Hid (depP [] 0 (kidsOf ts) = depP [] 0 ((kidsOf ts).drop 0)) := hid (by rw [List.drop_zero]); have HI0 : Hid (IR w w (.slice none 0 0) (stk [])) := hid (IR.first w); clear h hn; go_enter Tryz.func52, Tryz.ntmps52
  go_wp2; go_step3
  go_wp2; go_step3
  go_wp2; go_loopg [3, 4, 10] n (fun k vd vo vk wr => ∃ (i m : Nat) (o : List Nat), i ≤ n ∧ m ≤ i ∧ o.length ≤ i ∧ k = n - i ∧ vd = .int .i64 (m : Int) ∧ vk = .int .i64 (i : Int) ∧ Hid (IR w wr vo (stk o)) ∧ Hid (depP [] 0 (kidsOf ts) = depP o m ((kidsOf ts).drop i)) ∧ Hid (Bd o))
  case atStart => exact ⟨0, 0, [], Nat.zero_le _, Nat.zero_le _, Nat.zero_le _, rfl, rfl, rfl, HI0, H0, HB0⟩
  case round =>
    clear H0 HI0 HB0; obtain ⟨i, m, o, hi, hmi, hoi, hgk, rfl, rfl, hI, hD, hBD⟩ := hrel; have HGK := hid hgk; clear hgk; by_cases hlt : i < n
    · have hil : i < ts.length := by rw [← HN.out]; exact hlt
      obtain ⟨g, q, rfl, hg, hr⟩ := HND.out wr hI.out.below i hil
      have hd : (kidsOf ts).drop i = ts[i].kids :: (kidsOf ts).drop (i + 1) := by
        rw [List.drop_eq_getElem_cons (by rw [kidsOf_len]; exact hil)]; simp [kidsOf]
      have hD' := hD.out; rw [hd, depP_cons] at hD'; have hft := HFT.out ts[i] (List.getElem_mem hil); have z0 : (0 : Int) ≤ (i : Int) := by omega
      have z1 : (i : Int) < (n : Int) := by omega
      generalize ts[i] = x at *; have HR := hid hr; have HXI := hid (n_info x); have HZ := hid (nb_zero wr); have HP := hid (nb_put wr x); have hlo := hI.out.below.size; clear hD hd hr hg hil HND; obtain ⟨pv, cv, hv, hv1, hv2⟩ := own_form0 hI.out.row; rw [stk_len] at hv; by_cases hneg : x.kids < 0
      · have HF : Hid (depI (kidsOf ts) = -1) := hid (depI_none (by rw [hD', if_pos hneg]))
        clear hD'
        go_wp2_with (first
          | (refine wpList_load_mid rfl 58 (.tmp 12) rfl g (q + i * 5) rfl x.cells _ HR.out Tryz.underlying58 rfl HXI.out ?_)
          | (refine wpList_store_mid rfl 58 (.tmp 6) (.tmp 13) rfl wr.heap.size 0 x.cells.toArray rfl rfl HZ.out.room (n_infoA x) (n_all x) ?_; generalize World.setCells _ _ _ _ = W3 at HP ⊢; have HP3 := hid HP.out; clear HP; obtain ⟨c0, c1, c2, c3, c4⟩ := HP3.out.1.at; clear c0 c2 c3 c4))
        rw [Exit.noGoto_ret]; go_ret; exact ⟨by rw [HF.out]; rfl, chain2 hI.out.below HP3.out.2⟩
      · obtain ⟨kd, hkd⟩ : ∃ kd : Nat, x.kids = (kd : Int) := ⟨x.kids.toNat, by omega⟩
        rw [if_neg hneg, hkd, Int.toNat_natCast] at hD'; have HD2 := hid hD'; have HKD := hid hkd
        have HBK : Hid (Bd (kd :: o)) := hid (fun y hy => by
          rcases List.mem_cons.1 hy with rfl | hy
          · omega
          · exact hBD.out y hy)
        clear hBD hft; obtain ⟨ol, hol⟩ : ∃ ol, ol = o.length := ⟨_, rfl⟩; rw [← hol] at hv HD2 hoi; have HOL := hid hol; clear hD' hneg hkd hol; have HI2 : Hid (IR w wr (.slice pv ol cv) (stk o)) := hid (by rw [← hv]; exact hI.out)
        clear hI; subst hv
        have HIQ : Hid (∀ W2 W3 g' cap o', Below wr.heap.size wr W2 → W3.ownsRow w.heap.size 3 1 (.slice (some ⟨g', 0, none⟩) (ol + 1) cap) (ol + 1) (iv (stk o) ++ [.int .i64 (kd : Int)]) → (W2.alloc o').grownBy W3 (Value.slice pv ol cv).ownBlock → IR w W3 (.slice (some ⟨g', 0, none⟩) (ol + 1) cap) (stk (kd :: o))) := hid (fun W2 W3 g' cap o' hb hrow hgr => by
          have h2 := HI2.out.later hb; have e : (stk o).length = ol := by rw [stk_len, HOL.out]
          have := h2.push (x := (kd : Int)) (g' := g') (cap := cap) (by rw [e]; exact hrow) hgr
          rw [e] at this
          rw [stk_cons]; exact this)
        go_wp2_with (first
          | (refine wpList_load_mid rfl 58 (.tmp 12) rfl g (q + i * 5) rfl x.cells _ HR.out Tryz.underlying58 rfl HXI.out ?_)
          | (refine wpList_store_mid rfl 58 (.tmp 6) (.tmp 13) rfl wr.heap.size 0 x.cells.toArray rfl rfl HZ.out.room (n_infoA x) (n_all x) ?_; generalize World.setCells _ _ _ _ = W3 at HP ⊢; have HP3 := hid HP.out; clear HP; obtain ⟨c0, c1, c2, c3, c4⟩ := HP3.out.1.at; clear c0 c2 c3 c4; rw [HKD.out] at c1; have kn0 : ¬(kd : Int) < 0 := by omega
             have N1 := hid (news_at W3 #[.int .i64 (kd : Int)] 3); have HS3 := hid (HI2.out.later HP3.out.2))
          | (refine wpList_append_lies _ rfl (.tmp 17) (.tmp 20) 55 rfl w.heap.size 3 i0 (.int .i64 0) 1 8 Tryz.underlying55 hi0 hy0 hy1 hy2 rfl (by decide) _ ol (iv (stk o)) rfl (by have := HS3.out.row.alloc (.cells #[.int .i64 (kd : Int)] 3); rw [stk_len, ← HOL.out] at this; exact this) ⟨W3.heap.size, 0, none⟩ 1 1 [.int .i64 (kd : Int)] rfl rfl N1.out (by simp [Value.oneCell']) (by decide) (by unfold maxLen; omega) (by omega) (by have := HS3.out.below.size; simp; omega) (W3.heap.size + 1) (by simp) ?_; intro g' cap W7 hrow hgr hgl hlt7; have HX2 := hid (HIQ.out _ _ _ _ _ HP3.out.2 hrow hgr); clear hrow hgr hgl hlt7))
        clear HZ HIQ HI2 HR HXI HP3 c1 N1 HS3 HKD; generalize wr.heap.size = wb at *; generalize W3.heap.size = wc at *; clear W3; have hm2 : max m (ol + 1) ≤ i + 1 := by omega
        have HMX : Hid (max (m : Int) ((ol : Int) + 1) = ((max m (ol + 1) : Nat) : Int)) := hid (by omega); rw [HMX.out]; generalize max m (ol + 1) = m2 at *; have HO : Hid ((norm (kd :: o)).length ≤ i + 1) := hid (by have := norm_len (kd :: o); rw [List.length_cons, ← HOL.out] at this; omega)
        clear HMX hmi; go_loopg [4, 7] (ol + 1) (fun k vo _ wr => ∃ s : List Nat, k = s.length ∧ s.length ≤ 4000 ∧ vo = .slice (some ⟨g', 0, none⟩) s.length cap ∧ Hid (IR w wr (.slice (some ⟨g', 0, none⟩) s.length cap) (stk s)) ∧ Hid (norm s = norm (kd :: o)) ∧ Hid (Bd s))
        case atStart => exact ⟨kd :: o, by simp [HOL.out], by simp [← HOL.out]; omega, by simp [HOL.out], by simpa [HOL.out] using HX2, hid rfl, HBK⟩
        case round =>
          clear HX2 HBK; obtain ⟨s, hgk2, hs4, rfl, hS, hNS, hBS⟩ := hrel; have HGK2 := hid hgk2; clear hgk2; cases s with
          | nil =>
            have HD3 := hid HD2.out; have HN0 : Hid (norm (kd :: o) = []) := hid hNS.out.symm; clear hNS; rw [List.length_nil] at hS ⊢; go_wp2; go_roundg (n - (i + 1))
            case rel => exact ⟨i + 1, m2, [], by omega, hm2, Nat.zero_le _, rfl, rfl, by go_num, hS, by have h3 := HD3.out; rw [HN0.out] at h3; exact hid h3, hBS⟩
            case measure => have := HGK.out; omega
          | cons top s =>
            have hS' := hS.out; rw [stk_cons] at hS'; obtain ⟨-, cl, fl⟩ := hS'.last; rw [stk_len] at cl fl; rw [List.length_cons] at hs4 hS HGK2; rw [List.length_cons]
            have HSET : Hid (∀ W y, W = wr.setCell ⟨g', s.length, none⟩ (.int .i64 ((y : Nat) : Int)) → IR w W (.slice (some ⟨g', 0, none⟩) (s.length + 1) cap) (stk (y :: s))) := hid (fun W y hw => by
              have := hS'.setLast (y := (y : Int)); rw [stk_len] at this; rw [hw, stk_cons]
              exact this)
            have HPOP : Hid (IR w wr (.slice (some ⟨g', 0, none⟩) s.length cap) (stk s)) := hid (by have := hS'.pop; rwa [stk_len] at this)
            have HSL := hid (And.intro hS.out.below hS.out.row); obtain ⟨q', hq'⟩ : ∃ q', q' = s.length := ⟨_, rfl⟩; rw [← hq'] at hs4 hS HGK2 cl fl HSET HPOP HSL ⊢; have HQ := hid hq'
            have hcap : q' + 1 ≤ cap := by
              obtain ⟨_, h2⟩ := HSL.out.2; rcases h2 with ⟨h3, -⟩ | ⟨_, _, _, h3, -, -, h4, -⟩
              · cases h3
              · simp only [Value.slice.injEq] at h3; omega
            have hsl : ∀ W, (Instr.slice 55 (.slice (some ⟨g', 0, none⟩) (q' + 1) cap) none (some (.int .i64 (q' : Int))) none).run Tryz.prog W = .ok (.slice (some ⟨g', 0, none⟩) q' cap) W := fun W => by
              rw [run_slice_h W 55 _ (q' + 1) cap (by kernel_rfl) .i64 (q' : Int) (by omega) (by omega), show (sizeOf (Tryz.prog.elem 55)).run Tryz.prog W = .ok 1 W by kernel_rfl]; show Result.ok (sliced _ 0 (q' : Int).toNat cap 1) W = _
              unfold sliced; simp [Addr.add_mid]
            have e1 : IntKind.i64.wrap (((q' + 1 : Nat) : Int) - 1) = (q' : Int) := by rw [wrap_in _ (by omega)]; omega
            have e2 : IntKind.i64.wrap ((q' : Int) + 1 - 1) = (q' : Int) := by rw [wrap_in _ (by omega)]; omega
            have y0 : (0 : Int) ≤ (q' : Int) := by omega
            have y1 : (q' : Int) < ((q' + 1 : Nat) : Int) := by omega
            have HB2 : Hid (Bd s) := hid (fun y hy => hBS.out y (by simp [hy])); clear hS' hS HSL hq'; cases top with
            | zero =>
              have HN2 : Hid (norm s = norm (kd :: o)) := hid hNS.out; clear hNS HSET; have cl' : wr.cell? ⟨g', q', none⟩ = some (.int .i64 0) := cl; clear cl; go_wp2; go_roundg q'
              case rel => exact ⟨s, HQ.out, by have := HQ.out; omega, by rw [HQ.out], by rw [← HQ.out]; exact HPOP, HN2, HB2⟩
              case measure => have := HGK2.out; omega
            | succ t0 =>
              have HN2 : Hid (norm (kd :: o) = t0 :: s) := hid hNS.out.symm; have hb0 := hBS.out (t0 + 1) (by simp); have e3 : IntKind.i64.wrap (((t0 + 1 : Nat) : Int) - 1) = (t0 : Int) := by rw [wrap_in _ (by omega)]; omega
              have e4 : IntKind.i64.wrap ((t0 : Int) + 1 - 1) = (t0 : Int) := by rw [wrap_in _ (by omega)]; omega
              have e5 : IntKind.i64.wrap (t0 : Int) = (t0 : Int) := wrap_in _ (by omega)
              have HB3 : Hid (Bd (t0 :: s)) := hid (fun y hy => by
                rcases List.mem_cons.1 hy with rfl | hy
                · omega
                · exact hBS.out y (by simp [hy]))
              clear hb0; have y2 : ((t0 + 1 : Nat) : Int) > 0 := by omega
              clear hNS; go_wp2; have HSS := hid (HSET.out _ t0 rfl); go_roundg (n - (i + 1))
              case rel => exact ⟨i + 1, m2, t0 :: s, by omega, hm2, by rw [← HN2.out]; exact HO.out, rfl, rfl, by go_num, HSS, by rw [← HN2.out]; exact HD2, HB3⟩
              case measure => have := HGK.out; omega
    · obtain rfl : i = n := by omega
      have hd : (kidsOf ts).drop i = [] := List.drop_eq_nil_of_le (by rw [kidsOf_len, ← HN.out]; exact Nat.le_refl _)
      have hD' := hD.out; rw [hd, depP_nil] at hD'; have HBW := hid hI.out.below; obtain ⟨pv, cv, hv, hv1, hv2⟩ := own_form0 hI.out.row; rw [stk_len] at hv; clear hD hd hI hv1 hv2 HND; subst hv; cases o with
      | nil =>
        have HF : Hid (depI (kidsOf ts) = (m : Int)) := hid (depI_some (by rw [hD', if_pos rfl])); clear hD'; rw [List.length_nil]; go_wp2; rw [Exit.noGoto_ret]; go_ret; exact ⟨by rw [HF.out]; rfl, HBW.out⟩
      | cons a o =>
        have HF : Hid (depI (kidsOf ts) = -1) := hid (depI_none (by rw [hD', if_neg (by simp)])); have ho : ((a :: o).length : Int) > 0 := by simp
        generalize (a :: o).length = ol at *; clear hD'; go_wp2; rw [Exit.noGoto_ret]; go_ret; exact ⟨by rw [HF.out]; rfl, HBW.out⟩
theorem depth_any (ts : List Nd) (v : Value) (w : World) (h : Nds w v ts) (hl : ts.length ≤ 4000) :
    Calls Tryz.prog 52 #[v] w fun e w' => e = .returned (.int .i64 (depI (kidsOf ts))) ∧ Below w.heap.size w w' := by
  obtain ⟨p, c, rfl, -⟩ := id h; exact depth_nat ts p _ c w rfl h hl
end Go.Proofs.YtmljjpdodcpohaaGreatDoor.Tr

namespace Go.Proofs.YtmljjpdodcpohaaGreatDoor.Tr
open Lib (hid)
set_option maxRecDepth 100000
set_option maxHeartbeats 2000000
open Go.RowKit Dk Lx
def rs : List Nat → List Nat
  | [] => []
  | c :: o => (c + 1) :: o
theorem rs_len (o : List Nat) : (rs o).length = o.length := by cases o <;> rfl
theorem pushed {w wr : World} {pv : Option Addr} {ol cv kd : Nat} {o : List Nat} (h : IR w wr (.slice pv ol cv) (stk o)) : ∀ W2 W3 g' cap o', Below wr.heap.size wr W2 → W3.ownsRow w.heap.size 3 1 (.slice (some ⟨g', 0, none⟩) (ol + 1) cap) (ol + 1) (iv (stk o) ++ [.int .i64 (kd : Int)]) → (W2.alloc o').grownBy W3 (Value.slice pv ol cv).ownBlock → IR w W3 (.slice (some ⟨g', 0, none⟩) (ol + 1) cap) (stk (kd :: o)) := by
  intro W2 W3 g' cap o' hb hrow hgr; have h2 := h.later hb; obtain ⟨_, _, he, -, -⟩ := own_form0 h.row; have e : ol = (stk o).length := by simp only [Value.slice.injEq] at he; exact he.2.1
  have := h2.push (x := (kd : Int)) (g' := g') (cap := cap) (by rw [← e]; exact hrow) hgr
  rw [← e] at this; rw [stk_cons]; exact this
theorem rdepth_nat (ts : List Nd) (p : Option Addr) (n c : Nat) (w : World) (hn : n = ts.length) (h : Nds w (.slice p n c) ts) (hl : n ≤ 2100) :
    Calls Tryz.prog 61 #[.slice p n c] w fun e w' => e = .returned (.int .i64 (depI (kidsOf ts))) ∧ Below w.heap.size w w' := by
  have HN := hid hn
  have HND : Hid (∀ W, Below w.heap.size w W → ∀ i (hi : i < ts.length), ∃ g o, p = some ⟨g, o, none⟩ ∧ W.cell? ⟨g, o + i * 5 + 1, none⟩ = some (.int .i64 ts[i].kids)) := hid (fun W hb i hi => by
    obtain ⟨g, o, hp, -, -, h1, -⟩ := (h.later hb).node i hi
    exact ⟨g, o, hp, h1⟩)
  have CE : Hid (∀ (a : Nat) W, Below w.heap.size w W → Calls Tryz.prog 45 #[.slice p n c, .int .i64 (a : Int)] W fun e w' => e = .returned (.int .i64 (endI (kidsOf ts) (a : Int))) ∧ W = w') :=
    hid (fun a W hb => rend_any ts _ (a : Int) W (h.later hb) (by omega))
  obtain ⟨i0, hi0, hy0, hy1, hy2⟩ := info_parts int_info3; have H0 : Hid (depP [] 0 (kidsOf ts) = depP [] 0 ((kidsOf ts).drop 0)) := hid (by rw [List.drop_zero]); have HI0 : Hid (IR w w (.slice none 0 0) (stk (rs []))) := hid (IR.first w); have HB0 : Hid (Bd (rs [])) := hid (fun _ h => by cases h); have HG0 : Hid (∀ j, j < 0 → endW 1 ((kidsOf ts).drop j) ≠ none) := hid (fun j hj => absurd hj (Nat.not_lt_zero j)); clear h hn; go_enter Tryz.func61, Tryz.ntmps61
  go_wp2; go_loopg [3, 4, 5] n (fun k vo vd vk wr => ∃ (i m : Nat) (o : List Nat), i ≤ n ∧ m ≤ i ∧ o.length ≤ i ∧ k = n - i ∧ vd = .int .i64 (m : Int) ∧ vk = .int .i64 (i : Int) ∧ Hid (IR w wr vo (stk (rs o))) ∧ Hid (depP [] 0 (kidsOf ts) = depP o m ((kidsOf ts).drop i)) ∧ Hid (Bd (rs o)) ∧ Hid (∀ j, j < i → endW 1 ((kidsOf ts).drop j) ≠ none))
  case atStart => exact ⟨0, 0, [], Nat.zero_le _, Nat.zero_le _, Nat.zero_le _, rfl, rfl, rfl, HI0, H0, HB0, HG0⟩
  case round =>
    clear H0 HI0 HB0 HG0; obtain ⟨i, m, o, hi, hmi, hoi, hgk, rfl, rfl, hI, hD, hBD, hG⟩ := hrel; have HGK := hid hgk; clear hgk; by_cases hlt : i < n
    · have hil : i < ts.length := by rw [← HN.out]; exact hlt
      have hd : (kidsOf ts).drop i = ts[i].kids :: (kidsOf ts).drop (i + 1) := by
        rw [List.drop_eq_getElem_cons (by rw [kidsOf_len]; exact hil)]; simp [kidsOf]
      have z0 : (0 : Int) ≤ (i : Int) := by omega
      have z1 : (i : Int) < (n : Int) := by omega
      have C1 := hid (CE.out i wr hI.out.below); obtain ⟨pv, cv, hv, hv1, hv2⟩ := own_form0 hI.out.row; rw [stk_len, rs_len] at hv; cases hw : endW 1 ((kidsOf ts).drop i) with
      | none =>
        have HF : Hid (depI (kidsOf ts) = -1) := hid (depI_none (by
          cases hq : depP [] 0 (kidsOf ts) with
          | none => rfl
          | some d => exact absurd hw ((depP_some _ _ _ _ hq).2 i (by rw [kidsOf_len]; exact hil))))
        rw [endI_none hw] at C1; have HBW := hid hI.out.below; clear hd hI hD hBD hG HND hv1 hv2 hw; subst hv; go_wp2_with (go_at_call 45; refine C1.out.mono ?_; rintro e w1 ⟨rfl, rfl⟩)
        go_ret; exact ⟨by rw [HF.out]; rfl, HBW.out⟩
      | some sz =>
        have HG2 : Hid (∀ j, j < i + 1 → endW 1 ((kidsOf ts).drop j) ≠ none) := hid (fun j hj => by
          by_cases hji : j = i
          · subst hji; rw [hw]; exact fun h => by cases h
          · exact hG.out j (by omega))
        rw [endI_some hw] at C1; obtain ⟨k', hk', hk0, hF, -⟩ := endW_node hw; have hkx : ts[i].kids = k' := by rw [kidsOf_at hil] at hk'; exact Option.some.inj hk'
        obtain ⟨kd, rfl⟩ : ∃ kd : Nat, k' = (kd : Int) := ⟨k'.toNat, by omega⟩; have hkn := endW_le _ _ _ hF; rw [List.length_drop, kidsOf_len, ← HN.out, Int.toNat_natCast] at hkn; have hD' := hD.out; rw [hd, depP_cons, hkx, if_neg (by omega), Int.toNat_natCast] at hD'; have HD2 := hid hD'; have kd4 : kd ≤ 2100 := by omega
        have hszn : ¬((i : Int) + (sz : Int)) < 0 := by omega
        have HCL : Hid (∀ W, Below w.heap.size w W → ∃ g q, p = some ⟨g, q, none⟩ ∧ W.cell? ⟨g, q + i * 5 + 1, none⟩ = some (.int .i64 (kd : Int))) := hid (fun W hb => by
          obtain ⟨g, q, hp, h1⟩ := HND.out W hb i hil; rw [hkx] at h1
          exact ⟨g, q, hp, h1⟩)
        have HBK : Hid (Bd o → Bd (kd :: o)) := hid (fun hb y hy => by
          rcases List.mem_cons.1 hy with rfl | hy
          · omega
          · exact hb y hy)
        clear hd hD' hD hG HND hw hk' hF hkx hkn hk0 hil; generalize hEq : (i : Int) + (sz : Int) = E at *; clear hEq; cases o with
        | nil =>
          obtain ⟨ol, hol⟩ : ∃ ol, ol = ([] : List Nat).length := ⟨_, rfl⟩; have HIW : Hid (IR w wr (.slice pv ol cv) (stk [])) := hid (by have := hI.out; rw [hv, ← hol] at this; exact this)
          have HBO : Hid (Bd (kd :: [])) := hid (HBK.out (fun _ h => by cases h)); have HIQ := hid (pushed (kd := kd) HIW.out); rw [← hol] at hv hoi HD2; have HOL := hid hol; have y2 : ¬(ol : Int) > 0 := by rw [hol]; simp
          clear hI hBD HBK hv1 hv2 hol; subst hv; have HLE : Hid ((stk ([])).length = ol) := hid (by rw [stk_len]; simp [HOL.out])
          obtain ⟨g, q, rfl, c1⟩ := HCL.out wr HIW.out.below; have N1 := hid (news_at wr #[.int .i64 (kd : Int)] 3); clear HCL; have hm2 : max m (ol + 1) ≤ i + 1 := by omega
          have HMX : Hid (∃ m2, m2 = max m (ol + 1)) := hid ⟨_, rfl⟩; have HO : Hid ((norm (kd :: [])).length ≤ i + 1) := hid (by have := norm_len (kd :: []); have h2 := HLE.out; rw [stk_len] at h2; rw [List.length_cons, h2] at this; omega)
          by_cases hmx : m < ol + 1
          · have v1 : ((ol + 1 : Nat) : Int) > (m : Int) := by omega
            have HM : Hid (max m (ol + 1) = ol + 1) := hid (by omega); rw [HM.out] at HD2 hm2; clear hmx HMX
            go_wp2_with (first
              | (go_at_call 45; refine C1.out.mono ?_; rintro e w1 ⟨rfl, rfl⟩)
              | (refine wpList_append_lies _ rfl (.tmp 31) (.tmp 37) 55 rfl w.heap.size 3 i0 (.int .i64 0) 1 8 Tryz.underlying55 hi0 hy0 hy1 hy2 rfl (by decide) _ (ol) (iv (stk ([]))) rfl (by have := HIW.out.row.alloc (.cells #[.int .i64 (kd : Int)] 3); rw [HLE.out] at this; exact this) ⟨wr.heap.size, 0, none⟩ 1 1 [.int .i64 (kd : Int)] rfl rfl N1.out (by simp [Value.oneCell']) (by decide) (by unfold maxLen; omega) (by omega) (by have := HIW.out.below.size; simp; omega) (wr.heap.size + 1) (by simp) ?_; intro g2 cap W7 hrow hgr hgl hlt7; have HX2 := hid (HIQ.out _ _ _ _ _ (Below.refl _ _) hrow hgr); clear hrow hgr hgl hlt7)
              | fail)
            obtain ⟨m2, hm2q⟩ : ∃ m2, m2 = ol + 1 := ⟨_, rfl⟩; have HMQ : Hid (((ol + 1 : Nat) : Int) = (m2 : Int)) := hid (by rw [hm2q]); have HMQ2 := hid hm2q; rw [← hm2q] at HD2 hm2; clear hm2q v1; clear N1 c1 HIQ HIW; go_loopg [3] (ol + 1) (fun k vo wr => ∃ s : List Nat, k = s.length ∧ s.length ≤ 4000 ∧ vo = .slice (some ⟨g2, 0, none⟩) s.length cap ∧ Hid (IR w wr (.slice (some ⟨g2, 0, none⟩) s.length cap) (stk s)) ∧ Hid (norm s = norm (kd :: [])) ∧ Hid (Bd s))
            case atStart => exact ⟨kd :: [], by have := HLE.out; rw [stk_len] at this; rw [List.length_cons, this], by have := HLE.out; rw [stk_len] at this; rw [List.length_cons, this]; omega, by have := HLE.out; rw [stk_len] at this; rw [List.length_cons, this], by have h2 := HLE.out; rw [stk_len] at h2; rw [List.length_cons, h2]; exact HX2, hid rfl, HBO⟩
            case round =>
              clear HX2 HBO; obtain ⟨s, hgk2, hs4, rfl, hS, hNS, hBS⟩ := hrel; have HGK2 := hid hgk2; clear hgk2; cases s with
              | nil =>
                have HN0 : Hid (norm (kd :: []) = []) := hid hNS.out.symm; clear hNS; rw [List.length_nil] at hS ⊢; go_wp2; go_roundg (n - (i + 1))
                case rel => exact ⟨i + 1, m2, [], by omega, hm2, Nat.zero_le _, rfl, by first | rw [HMQ.out] | (rw [← HMQ.out]; go_num), by go_num, hS, by have h3 := HD2.out; rw [HN0.out] at h3; exact hid h3, hBS, HG2⟩
                case measure => have := HGK.out; omega
              | cons top s =>
                have hS' := hS.out; rw [stk_cons] at hS'; obtain ⟨-, cl, fl⟩ := hS'.last; rw [stk_len] at cl fl; have hSS := hS; rw [List.length_cons] at hs4 hS HGK2; rw [List.length_cons]; have HPOP : Hid (IR w wr (.slice (some ⟨g2, 0, none⟩) s.length cap) (stk s)) := hid (by have := hS'.pop; rwa [stk_len] at this)
                obtain ⟨q', hq'⟩ : ∃ q', q' = s.length := ⟨_, rfl⟩; rw [← hq'] at hs4 hS HGK2 cl fl HPOP ⊢; have HQ := hid hq'
                have hcap : q' + 1 ≤ cap := by
                  obtain ⟨_, h2⟩ := hS.out.row; rcases h2 with ⟨h3, -⟩ | ⟨_, _, _, h3, -, -, h4, -⟩
                  · cases h3
                  · simp only [Value.slice.injEq] at h3; omega
                have hsl : ∀ W, (Instr.slice 55 (.slice (some ⟨g2, 0, none⟩) (q' + 1) cap) none (some (.int .i64 (q' : Int))) none).run Tryz.prog W = .ok (.slice (some ⟨g2, 0, none⟩) q' cap) W := fun W => by
                  rw [run_slice_h W 55 _ (q' + 1) cap (by kernel_rfl) .i64 (q' : Int) (by omega) (by omega), show (sizeOf (Tryz.prog.elem 55)).run Tryz.prog W = .ok 1 W by kernel_rfl]; show Result.ok (sliced _ 0 (q' : Int).toNat cap 1) W = _
                  unfold sliced; simp [Addr.add_mid]
                have e1 : IntKind.i64.wrap (((q' + 1 : Nat) : Int) - 1) = (q' : Int) := by rw [wrap_in _ (by omega)]; omega
                have e2 : IntKind.i64.wrap ((q' : Int) + 1 - 1) = (q' : Int) := by rw [wrap_in _ (by omega)]; omega
                have y0 : (0 : Int) ≤ (q' : Int) := by omega
                have y1 : (q' : Int) < ((q' + 1 : Nat) : Int) := by omega
                have HB2 : Hid (Bd s) := hid (fun y hy => hBS.out y (by simp [hy])); have HBS2 := hid hBS.out; clear hS' hq' hBS; cases top with
                | zero =>
                  have HN2 : Hid (norm s = norm (kd :: [])) := hid hNS.out; have cl' : wr.cell? ⟨g2, q', none⟩ = some (.int .i64 0) := cl; clear cl hNS hS hSS; go_wp2; go_roundg q'
                  case rel => exact ⟨s, HQ.out, by have := HQ.out; omega, by rw [HQ.out], by rw [← HQ.out]; exact HPOP, HN2, HB2⟩
                  case measure => have := HGK2.out; omega
                | succ t0 =>
                  have HN2 : Hid (norm (kd :: []) = t0 :: s) := hid hNS.out.symm; have y2 : (((t0 + 1 : Nat) : Int) == 0) = false := by simp; omega
                  have y3 : (((t0 : Nat) : Int) + 1 == 0) = false := by simp; omega
                  have HS9 : Hid (IR w wr (.slice (some ⟨g2, 0, none⟩) (q' + 1) cap) (stk (rs (t0 :: s)))) := hid hS.out; clear hNS hS hSS; go_wp2; go_roundg (n - (i + 1))
                  case rel => exact ⟨i + 1, m2, t0 :: s, by omega, hm2, by rw [← HN2.out]; exact HO.out, rfl, by first | rw [HMQ.out] | (rw [← HMQ.out]; go_num), by go_num, HS9, by rw [← HN2.out]; exact HD2, HBS2, HG2⟩
                  case measure => have := HGK.out; omega
          · have v1 : ¬((ol + 1 : Nat) : Int) > (m : Int) := by omega
            have HM : Hid (max m (ol + 1) = m) := hid (by omega); rw [HM.out] at HD2 hm2; clear hmx HMX
            go_wp2_with (first
              | (go_at_call 45; refine C1.out.mono ?_; rintro e w1 ⟨rfl, rfl⟩)
              | (refine wpList_append_lies _ rfl (.tmp 31) (.tmp 37) 55 rfl w.heap.size 3 i0 (.int .i64 0) 1 8 Tryz.underlying55 hi0 hy0 hy1 hy2 rfl (by decide) _ (ol) (iv (stk ([]))) rfl (by have := HIW.out.row.alloc (.cells #[.int .i64 (kd : Int)] 3); rw [HLE.out] at this; exact this) ⟨wr.heap.size, 0, none⟩ 1 1 [.int .i64 (kd : Int)] rfl rfl N1.out (by simp [Value.oneCell']) (by decide) (by unfold maxLen; omega) (by omega) (by have := HIW.out.below.size; simp; omega) (wr.heap.size + 1) (by simp) ?_; intro g2 cap W7 hrow hgr hgl hlt7; have HX2 := hid (HIQ.out _ _ _ _ _ (Below.refl _ _) hrow hgr); clear hrow hgr hgl hlt7)
              | fail)
            obtain ⟨m2, hm2q⟩ : ∃ m2, m2 = m := ⟨_, rfl⟩; have HMQ : Hid ((m : Int) = (m2 : Int)) := hid (by rw [hm2q]); rw [← hm2q] at HD2 hm2; clear hm2q v1; clear N1 c1 HIQ HIW; go_loopg [3] (ol + 1) (fun k vo wr => ∃ s : List Nat, k = s.length ∧ s.length ≤ 4000 ∧ vo = .slice (some ⟨g2, 0, none⟩) s.length cap ∧ Hid (IR w wr (.slice (some ⟨g2, 0, none⟩) s.length cap) (stk s)) ∧ Hid (norm s = norm (kd :: [])) ∧ Hid (Bd s))
            case atStart => exact ⟨kd :: [], by have := HLE.out; rw [stk_len] at this; rw [List.length_cons, this], by have := HLE.out; rw [stk_len] at this; rw [List.length_cons, this]; omega, by have := HLE.out; rw [stk_len] at this; rw [List.length_cons, this], by have h2 := HLE.out; rw [stk_len] at h2; rw [List.length_cons, h2]; exact HX2, hid rfl, HBO⟩
            case round =>
              clear HX2 HBO; obtain ⟨s, hgk2, hs4, rfl, hS, hNS, hBS⟩ := hrel; have HGK2 := hid hgk2; clear hgk2; cases s with
              | nil =>
                have HN0 : Hid (norm (kd :: []) = []) := hid hNS.out.symm; clear hNS; rw [List.length_nil] at hS ⊢; go_wp2; go_roundg (n - (i + 1))
                case rel => exact ⟨i + 1, m2, [], by omega, hm2, Nat.zero_le _, rfl, by first | rw [HMQ.out] | (rw [← HMQ.out]; go_num), by go_num, hS, by have h3 := HD2.out; rw [HN0.out] at h3; exact hid h3, hBS, HG2⟩
                case measure => have := HGK.out; omega
              | cons top s =>
                have hS' := hS.out; rw [stk_cons] at hS'; obtain ⟨-, cl, fl⟩ := hS'.last; rw [stk_len] at cl fl; have hSS := hS; rw [List.length_cons] at hs4 hS HGK2; rw [List.length_cons]; have HPOP : Hid (IR w wr (.slice (some ⟨g2, 0, none⟩) s.length cap) (stk s)) := hid (by have := hS'.pop; rwa [stk_len] at this)
                obtain ⟨q', hq'⟩ : ∃ q', q' = s.length := ⟨_, rfl⟩; rw [← hq'] at hs4 hS HGK2 cl fl HPOP ⊢; have HQ := hid hq'
                have hcap : q' + 1 ≤ cap := by
                  obtain ⟨_, h2⟩ := hS.out.row; rcases h2 with ⟨h3, -⟩ | ⟨_, _, _, h3, -, -, h4, -⟩
                  · cases h3
                  · simp only [Value.slice.injEq] at h3; omega
                have hsl : ∀ W, (Instr.slice 55 (.slice (some ⟨g2, 0, none⟩) (q' + 1) cap) none (some (.int .i64 (q' : Int))) none).run Tryz.prog W = .ok (.slice (some ⟨g2, 0, none⟩) q' cap) W := fun W => by
                  rw [run_slice_h W 55 _ (q' + 1) cap (by kernel_rfl) .i64 (q' : Int) (by omega) (by omega), show (sizeOf (Tryz.prog.elem 55)).run Tryz.prog W = .ok 1 W by kernel_rfl]; show Result.ok (sliced _ 0 (q' : Int).toNat cap 1) W = _
                  unfold sliced; simp [Addr.add_mid]
                have e1 : IntKind.i64.wrap (((q' + 1 : Nat) : Int) - 1) = (q' : Int) := by rw [wrap_in _ (by omega)]; omega
                have e2 : IntKind.i64.wrap ((q' : Int) + 1 - 1) = (q' : Int) := by rw [wrap_in _ (by omega)]; omega
                have y0 : (0 : Int) ≤ (q' : Int) := by omega
                have y1 : (q' : Int) < ((q' + 1 : Nat) : Int) := by omega
                have HB2 : Hid (Bd s) := hid (fun y hy => hBS.out y (by simp [hy])); have HBS2 := hid hBS.out; clear hS' hq' hBS; cases top with
                | zero =>
                  have HN2 : Hid (norm s = norm (kd :: [])) := hid hNS.out; have cl' : wr.cell? ⟨g2, q', none⟩ = some (.int .i64 0) := cl; clear cl hNS hS hSS; go_wp2; go_roundg q'
                  case rel => exact ⟨s, HQ.out, by have := HQ.out; omega, by rw [HQ.out], by rw [← HQ.out]; exact HPOP, HN2, HB2⟩
                  case measure => have := HGK2.out; omega
                | succ t0 =>
                  have HN2 : Hid (norm (kd :: []) = t0 :: s) := hid hNS.out.symm; have y2 : (((t0 + 1 : Nat) : Int) == 0) = false := by simp; omega
                  have y3 : (((t0 : Nat) : Int) + 1 == 0) = false := by simp; omega
                  have HS9 : Hid (IR w wr (.slice (some ⟨g2, 0, none⟩) (q' + 1) cap) (stk (rs (t0 :: s)))) := hid hS.out; clear hNS hS hSS; go_wp2; go_roundg (n - (i + 1))
                  case rel => exact ⟨i + 1, m2, t0 :: s, by omega, hm2, by rw [← HN2.out]; exact HO.out, rfl, by first | rw [HMQ.out] | (rw [← HMQ.out]; go_num), by go_num, HS9, by rw [← HN2.out]; exact HD2, HBS2, HG2⟩
                  case measure => have := HGK.out; omega
        | cons c0 o =>
          obtain ⟨x0, x1, rfl⟩ : ∃ x0 x1, pv = some (⟨x0, x1, none⟩ : Addr) := by
            rcases hI.out.row.2 with ⟨h1, h2⟩ | ⟨g, cap, cur, h1, -⟩
            · rw [stk_len] at h2; cases h2
            · rw [h1] at hv; simp only [Value.slice.injEq] at hv; exact ⟨_, _, hv.1.symm⟩
          obtain ⟨rfl, -⟩ := hv2 _ _ _ rfl; obtain ⟨ol, hol⟩ : ∃ ol, ol = o.length := ⟨_, rfl⟩; rw [List.length_cons, ← hol] at hv hoi HD2; have hI' : IR w wr (.slice (some ⟨x0, 0, none⟩) (ol + 1) cv) (stk o ++ [((c0 + 1 : Nat) : Int)]) := by have := hI.out; rw [hv, show rs (c0 :: o) = (c0 + 1) :: o from rfl, stk_cons] at this; exact this
          obtain ⟨-, cl, fl⟩ := hI'.last; rw [stk_len, ← hol] at cl fl
          have HSET : Hid (∀ W, W = wr.setCell ⟨x0, ol, none⟩ (.int .i64 (c0 : Int)) → IR w W (.slice (some ⟨x0, 0, none⟩) (ol + 1) cv) (stk (c0 :: o))) := hid (fun W hW => by
            have := hI'.setLast (y := (c0 : Int)); rw [stk_len, ← hol] at this
            rw [hW, stk_cons]; exact this)
          have hb0 := hBD.out (c0 + 1) (by simp [rs])
          have HBO : Hid (Bd (kd :: c0 :: o)) := hid (HBK.out (fun y hy => by
            rcases List.mem_cons.1 hy with rfl | hy
            · omega
            · exact hBD.out y (by simp [rs, hy])))
          have e1 : IntKind.i64.wrap (((ol + 1 : Nat) : Int) - 1) = (ol : Int) := by rw [wrap_in _ (by omega)]; omega
          have e2 : IntKind.i64.wrap ((ol : Int) + 1 - 1) = (ol : Int) := by rw [wrap_in _ (by omega)]; omega
          have e3 : IntKind.i64.wrap (((c0 + 1 : Nat) : Int) - 1) = (c0 : Int) := by rw [wrap_in _ (by omega)]; omega
          have e4 : IntKind.i64.wrap ((c0 : Int) + 1 - 1) = (c0 : Int) := by rw [wrap_in _ (by omega)]; omega
          have e5 : IntKind.i64.wrap (c0 : Int) = (c0 : Int) := wrap_in _ (by omega); have y0 : (0 : Int) ≤ (ol : Int) := by omega
          have y1 : (ol : Int) < ((ol + 1 : Nat) : Int) := by omega
          have y2 : ((ol + 1 : Nat) : Int) > 0 := by omega
          have HOL := hid hol; clear hI hBD HBK hI' hv1 hol hv2 hb0; subst hv
          go_wp2_with (first
            | (go_at_call 45; refine C1.out.mono ?_; rintro e w1 ⟨rfl, rfl⟩)
            | fail)
          have HIW : Hid (IR w (wr.setCell ⟨x0, ol, none⟩ (.int .i64 (c0 : Int))) (.slice (some ⟨x0, 0, none⟩) (ol + 1) cv) (stk (c0 :: o))) := hid (HSET.out _ rfl); clear HSET e1 e2 e3 e4 e5 y0 y1 y2 cl fl; generalize wr.setCell ⟨x0, ol, none⟩ (.int .i64 (c0 : Int)) = wr at HIW ⊢; have HIQ := hid (pushed (kd := kd) HIW.out); have HLE : Hid ((stk (c0 :: o)).length = ol + 1) := hid (by rw [stk_len]; simp [HOL.out])
          obtain ⟨g, q, rfl, c1⟩ := HCL.out wr HIW.out.below; have N1 := hid (news_at wr #[.int .i64 (kd : Int)] 3); clear HCL; have hm2 : max m (ol + 1 + 1) ≤ i + 1 := by omega
          have HMX : Hid (∃ m2, m2 = max m (ol + 1 + 1)) := hid ⟨_, rfl⟩; have HO : Hid ((norm (kd :: c0 :: o)).length ≤ i + 1) := hid (by have := norm_len (kd :: c0 :: o); have h2 := HLE.out; rw [stk_len] at h2; rw [List.length_cons, h2] at this; omega)
          by_cases hmx : m < ol + 1 + 1
          · have v1 : ((ol + 1 + 1 : Nat) : Int) > (m : Int) := by omega
            have HM : Hid (max m (ol + 1 + 1) = ol + 1 + 1) := hid (by omega); rw [HM.out] at HD2 hm2; clear hmx HMX
            go_wp2_with (first
              | (refine wpList_append_lies _ rfl (.tmp 31) (.tmp 37) 55 rfl w.heap.size 3 i0 (.int .i64 0) 1 8 Tryz.underlying55 hi0 hy0 hy1 hy2 rfl (by decide) _ (ol + 1) (iv (stk (c0 :: o))) rfl (by have := HIW.out.row.alloc (.cells #[.int .i64 (kd : Int)] 3); rw [HLE.out] at this; exact this) ⟨wr.heap.size, 0, none⟩ 1 1 [.int .i64 (kd : Int)] rfl rfl N1.out (by simp [Value.oneCell']) (by decide) (by unfold maxLen; omega) (by omega) (by have := HIW.out.below.size; simp; omega) (wr.heap.size + 1) (by simp) ?_; intro g2 cap W7 hrow hgr hgl hlt7; have HX2 := hid (HIQ.out _ _ _ _ _ (Below.refl _ _) hrow hgr); clear hrow hgr hgl hlt7)
              | fail)
            obtain ⟨m2, hm2q⟩ : ∃ m2, m2 = ol + 1 + 1 := ⟨_, rfl⟩; have HMQ : Hid (((ol + 1 + 1 : Nat) : Int) = (m2 : Int)) := hid (by rw [hm2q]); have HMQ2 := hid hm2q; rw [← hm2q] at HD2 hm2; clear hm2q v1; clear N1 c1 HIQ HIW; go_loopg [3] (ol + 1 + 1) (fun k vo wr => ∃ s : List Nat, k = s.length ∧ s.length ≤ 4000 ∧ vo = .slice (some ⟨g2, 0, none⟩) s.length cap ∧ Hid (IR w wr (.slice (some ⟨g2, 0, none⟩) s.length cap) (stk s)) ∧ Hid (norm s = norm (kd :: c0 :: o)) ∧ Hid (Bd s))
            case atStart => exact ⟨kd :: c0 :: o, by have := HLE.out; rw [stk_len] at this; rw [List.length_cons, this], by have := HLE.out; rw [stk_len] at this; rw [List.length_cons, this]; omega, by have := HLE.out; rw [stk_len] at this; rw [List.length_cons, this], by have h2 := HLE.out; rw [stk_len] at h2; rw [List.length_cons, h2]; exact HX2, hid rfl, HBO⟩
            case round =>
              clear HX2 HBO; obtain ⟨s, hgk2, hs4, rfl, hS, hNS, hBS⟩ := hrel; have HGK2 := hid hgk2; clear hgk2; cases s with
              | nil =>
                have HN0 : Hid (norm (kd :: c0 :: o) = []) := hid hNS.out.symm; clear hNS; rw [List.length_nil] at hS ⊢; go_wp2; go_roundg (n - (i + 1))
                case rel => exact ⟨i + 1, m2, [], by omega, hm2, Nat.zero_le _, rfl, by first | rw [HMQ.out] | (rw [← HMQ.out]; go_num), by go_num, hS, by have h3 := HD2.out; rw [HN0.out] at h3; exact hid h3, hBS, HG2⟩
                case measure => have := HGK.out; omega
              | cons top s =>
                have hS' := hS.out; rw [stk_cons] at hS'; obtain ⟨-, cl, fl⟩ := hS'.last; rw [stk_len] at cl fl; have hSS := hS; rw [List.length_cons] at hs4 hS HGK2; rw [List.length_cons]; have HPOP : Hid (IR w wr (.slice (some ⟨g2, 0, none⟩) s.length cap) (stk s)) := hid (by have := hS'.pop; rwa [stk_len] at this)
                obtain ⟨q', hq'⟩ : ∃ q', q' = s.length := ⟨_, rfl⟩; rw [← hq'] at hs4 hS HGK2 cl fl HPOP ⊢; have HQ := hid hq'
                have hcap : q' + 1 ≤ cap := by
                  obtain ⟨_, h2⟩ := hS.out.row; rcases h2 with ⟨h3, -⟩ | ⟨_, _, _, h3, -, -, h4, -⟩
                  · cases h3
                  · simp only [Value.slice.injEq] at h3; omega
                have hsl : ∀ W, (Instr.slice 55 (.slice (some ⟨g2, 0, none⟩) (q' + 1) cap) none (some (.int .i64 (q' : Int))) none).run Tryz.prog W = .ok (.slice (some ⟨g2, 0, none⟩) q' cap) W := fun W => by
                  rw [run_slice_h W 55 _ (q' + 1) cap (by kernel_rfl) .i64 (q' : Int) (by omega) (by omega), show (sizeOf (Tryz.prog.elem 55)).run Tryz.prog W = .ok 1 W by kernel_rfl]; show Result.ok (sliced _ 0 (q' : Int).toNat cap 1) W = _
                  unfold sliced; simp [Addr.add_mid]
                have e1 : IntKind.i64.wrap (((q' + 1 : Nat) : Int) - 1) = (q' : Int) := by rw [wrap_in _ (by omega)]; omega
                have e2 : IntKind.i64.wrap ((q' : Int) + 1 - 1) = (q' : Int) := by rw [wrap_in _ (by omega)]; omega
                have y0 : (0 : Int) ≤ (q' : Int) := by omega
                have y1 : (q' : Int) < ((q' + 1 : Nat) : Int) := by omega
                have HB2 : Hid (Bd s) := hid (fun y hy => hBS.out y (by simp [hy])); have HBS2 := hid hBS.out; clear hS' hq' hBS; cases top with
                | zero =>
                  have HN2 : Hid (norm s = norm (kd :: c0 :: o)) := hid hNS.out; have cl' : wr.cell? ⟨g2, q', none⟩ = some (.int .i64 0) := cl; clear cl hNS hS hSS; go_wp2; go_roundg q'
                  case rel => exact ⟨s, HQ.out, by have := HQ.out; omega, by rw [HQ.out], by rw [← HQ.out]; exact HPOP, HN2, HB2⟩
                  case measure => have := HGK2.out; omega
                | succ t0 =>
                  have HN2 : Hid (norm (kd :: c0 :: o) = t0 :: s) := hid hNS.out.symm; have y2 : (((t0 + 1 : Nat) : Int) == 0) = false := by simp; omega
                  have y3 : (((t0 : Nat) : Int) + 1 == 0) = false := by simp; omega
                  have HS9 : Hid (IR w wr (.slice (some ⟨g2, 0, none⟩) (q' + 1) cap) (stk (rs (t0 :: s)))) := hid hS.out; clear hNS hS hSS; go_wp2; go_roundg (n - (i + 1))
                  case rel => exact ⟨i + 1, m2, t0 :: s, by omega, hm2, by rw [← HN2.out]; exact HO.out, rfl, by first | rw [HMQ.out] | (rw [← HMQ.out]; go_num), by go_num, HS9, by rw [← HN2.out]; exact HD2, HBS2, HG2⟩
                  case measure => have := HGK.out; omega
          · have v1 : ¬((ol + 1 + 1 : Nat) : Int) > (m : Int) := by omega
            have HM : Hid (max m (ol + 1 + 1) = m) := hid (by omega); rw [HM.out] at HD2 hm2; clear hmx HMX
            go_wp2_with (first
              | (refine wpList_append_lies _ rfl (.tmp 31) (.tmp 37) 55 rfl w.heap.size 3 i0 (.int .i64 0) 1 8 Tryz.underlying55 hi0 hy0 hy1 hy2 rfl (by decide) _ (ol + 1) (iv (stk (c0 :: o))) rfl (by have := HIW.out.row.alloc (.cells #[.int .i64 (kd : Int)] 3); rw [HLE.out] at this; exact this) ⟨wr.heap.size, 0, none⟩ 1 1 [.int .i64 (kd : Int)] rfl rfl N1.out (by simp [Value.oneCell']) (by decide) (by unfold maxLen; omega) (by omega) (by have := HIW.out.below.size; simp; omega) (wr.heap.size + 1) (by simp) ?_; intro g2 cap W7 hrow hgr hgl hlt7; have HX2 := hid (HIQ.out _ _ _ _ _ (Below.refl _ _) hrow hgr); clear hrow hgr hgl hlt7)
              | fail)
            obtain ⟨m2, hm2q⟩ : ∃ m2, m2 = m := ⟨_, rfl⟩; have HMQ : Hid ((m : Int) = (m2 : Int)) := hid (by rw [hm2q]); rw [← hm2q] at HD2 hm2; clear hm2q v1; clear N1 c1 HIQ HIW; go_loopg [3] (ol + 1 + 1) (fun k vo wr => ∃ s : List Nat, k = s.length ∧ s.length ≤ 4000 ∧ vo = .slice (some ⟨g2, 0, none⟩) s.length cap ∧ Hid (IR w wr (.slice (some ⟨g2, 0, none⟩) s.length cap) (stk s)) ∧ Hid (norm s = norm (kd :: c0 :: o)) ∧ Hid (Bd s))
            case atStart => exact ⟨kd :: c0 :: o, by have := HLE.out; rw [stk_len] at this; rw [List.length_cons, this], by have := HLE.out; rw [stk_len] at this; rw [List.length_cons, this]; omega, by have := HLE.out; rw [stk_len] at this; rw [List.length_cons, this], by have h2 := HLE.out; rw [stk_len] at h2; rw [List.length_cons, h2]; exact HX2, hid rfl, HBO⟩
            case round =>
              clear HX2 HBO; obtain ⟨s, hgk2, hs4, rfl, hS, hNS, hBS⟩ := hrel; have HGK2 := hid hgk2; clear hgk2; cases s with
              | nil =>
                have HN0 : Hid (norm (kd :: c0 :: o) = []) := hid hNS.out.symm; clear hNS; rw [List.length_nil] at hS ⊢; go_wp2; go_roundg (n - (i + 1))
                case rel => exact ⟨i + 1, m2, [], by omega, hm2, Nat.zero_le _, rfl, by first | rw [HMQ.out] | (rw [← HMQ.out]; go_num), by go_num, hS, by have h3 := HD2.out; rw [HN0.out] at h3; exact hid h3, hBS, HG2⟩
                case measure => have := HGK.out; omega
              | cons top s =>
                have hS' := hS.out; rw [stk_cons] at hS'; obtain ⟨-, cl, fl⟩ := hS'.last; rw [stk_len] at cl fl; have hSS := hS; rw [List.length_cons] at hs4 hS HGK2; rw [List.length_cons]; have HPOP : Hid (IR w wr (.slice (some ⟨g2, 0, none⟩) s.length cap) (stk s)) := hid (by have := hS'.pop; rwa [stk_len] at this)
                obtain ⟨q', hq'⟩ : ∃ q', q' = s.length := ⟨_, rfl⟩; rw [← hq'] at hs4 hS HGK2 cl fl HPOP ⊢; have HQ := hid hq'
                have hcap : q' + 1 ≤ cap := by
                  obtain ⟨_, h2⟩ := hS.out.row; rcases h2 with ⟨h3, -⟩ | ⟨_, _, _, h3, -, -, h4, -⟩
                  · cases h3
                  · simp only [Value.slice.injEq] at h3; omega
                have hsl : ∀ W, (Instr.slice 55 (.slice (some ⟨g2, 0, none⟩) (q' + 1) cap) none (some (.int .i64 (q' : Int))) none).run Tryz.prog W = .ok (.slice (some ⟨g2, 0, none⟩) q' cap) W := fun W => by
                  rw [run_slice_h W 55 _ (q' + 1) cap (by kernel_rfl) .i64 (q' : Int) (by omega) (by omega), show (sizeOf (Tryz.prog.elem 55)).run Tryz.prog W = .ok 1 W by kernel_rfl]; show Result.ok (sliced _ 0 (q' : Int).toNat cap 1) W = _
                  unfold sliced; simp [Addr.add_mid]
                have e1 : IntKind.i64.wrap (((q' + 1 : Nat) : Int) - 1) = (q' : Int) := by rw [wrap_in _ (by omega)]; omega
                have e2 : IntKind.i64.wrap ((q' : Int) + 1 - 1) = (q' : Int) := by rw [wrap_in _ (by omega)]; omega
                have y0 : (0 : Int) ≤ (q' : Int) := by omega
                have y1 : (q' : Int) < ((q' + 1 : Nat) : Int) := by omega
                have HB2 : Hid (Bd s) := hid (fun y hy => hBS.out y (by simp [hy])); have HBS2 := hid hBS.out; clear hS' hq' hBS; cases top with
                | zero =>
                  have HN2 : Hid (norm s = norm (kd :: c0 :: o)) := hid hNS.out; have cl' : wr.cell? ⟨g2, q', none⟩ = some (.int .i64 0) := cl; clear cl hNS hS hSS; go_wp2; go_roundg q'
                  case rel => exact ⟨s, HQ.out, by have := HQ.out; omega, by rw [HQ.out], by rw [← HQ.out]; exact HPOP, HN2, HB2⟩
                  case measure => have := HGK2.out; omega
                | succ t0 =>
                  have HN2 : Hid (norm (kd :: c0 :: o) = t0 :: s) := hid hNS.out.symm; have y2 : (((t0 + 1 : Nat) : Int) == 0) = false := by simp; omega
                  have y3 : (((t0 : Nat) : Int) + 1 == 0) = false := by simp; omega
                  have HS9 : Hid (IR w wr (.slice (some ⟨g2, 0, none⟩) (q' + 1) cap) (stk (rs (t0 :: s)))) := hid hS.out; clear hNS hS hSS; go_wp2; go_roundg (n - (i + 1))
                  case rel => exact ⟨i + 1, m2, t0 :: s, by omega, hm2, by rw [← HN2.out]; exact HO.out, rfl, by first | rw [HMQ.out] | (rw [← HMQ.out]; go_num), by go_num, HS9, by rw [← HN2.out]; exact HD2, HBS2, HG2⟩
                  case measure => have := HGK.out; omega
    · obtain rfl : i = n := by omega
      have hd : (kidsOf ts).drop i = [] := List.drop_eq_nil_of_le (by rw [kidsOf_len, ← HN.out]; exact Nat.le_refl _)
      have HF : Hid (depI (kidsOf ts) = (m : Int)) := hid (by
        have hD' := hD.out; rw [hd, depP_nil] at hD'; by_cases ho : o = []
        · rw [if_pos ho] at hD'; exact depI_some hD'
        · rw [if_neg ho] at hD'
          rcases depP_none _ _ _ hD' with h1 | ⟨j, hj, h1⟩
          · rw [show tot [] = 0 from rfl, endW_zero] at h1; cases h1
          · exact absurd h1 (hG.out j (by rw [kidsOf_len, ← HN.out] at hj; exact hj)))
      have HBW := hid hI.out.below; clear hd hD hG hI HND hBD; go_wp2; go_ret; exact ⟨by rw [HF.out]; rfl, HBW.out⟩
theorem rdepth_any (ts : List Nd) (v : Value) (w : World) (h : Nds w v ts) (hl : ts.length ≤ 2100) :
    Calls Tryz.prog 61 #[v] w fun e w' => e = .returned (.int .i64 (depI (kidsOf ts))) ∧ Below w.heap.size w w' := by
  obtain ⟨p, c, rfl, -⟩ := id h; exact rdepth_nat ts p _ c w rfl h hl
end Go.Proofs.YtmljjpdodcpohaaGreatDoor.Tr

