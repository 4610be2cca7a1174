/- The walk of tree.Depth: its contract. No condition but those that each states. -/
import Derived.Test.YtcfgngaabledpaaTrK
import Derived.Test.YtcfgngaabledpaaTrG
import Derived.Deep.LoopGhost
namespace Go.Proofs.Ytcfgngaabledpaa.Tr
open Go.RowKit Dk Lx

/-- A stack of numbers as it lies: its top last. -/
def stk (o : List Nat) : List Int := o.reverse.map fun (x : Nat) => (x : Int)
theorem stk_cons (k : Nat) (o : List Nat) : stk (k :: o) = stk o ++ [(k : Int)] := by simp [stk]
theorem stk_len (o : List Nat) : (stk o).length = o.length := by simp [stk]

/-- Numbers that an int can be. -/
def Bd (o : List Nat) : Prop := ∀ y ∈ o, (y : Int) ≤ 9223372036854775807
theorem bd_norm : ∀ o : List Nat, Bd o → Bd (norm o)
  | [], h => h
  | 0 :: o, h => bd_norm o (fun y hy => h y (by simp [hy]))
  | (c + 1) :: o, h => fun y hy => by
    rcases List.mem_cons.1 (show y ∈ c :: o from hy) with rfl | hy
    · have := h (y + 1) (by simp); omega
    · exact h y (by simp [hy])

theorem depI_some {ks : List Int} {d : Nat} (h : depP [] 0 ks = some d) : depI ks = (d : Int) := by unfold depI; rw [h]
theorem depI_none {ks : List Int} (h : depP [] 0 ks = none) : depI ks = -1 := by unfold depI; rw [h]

theorem IR.alloc {w W : World} {v : Value} {l : List Int} (h : IR w W v l) (o : Obj) : IR w (W.alloc o) v l := h.later ((Below.refl _ _).alloc (Nat.le_refl _) o)

set_option maxHeartbeats 2000000 in
set_option maxRecDepth 100000 in
theorem depth_nat (ts : List Nd) (p : Option Addr) (n c : Nat) (w : World) (hn : n = ts.length) (h : Nds w (.slice p n c) ts) (hl : n ≤ 4000) :
    Calls Try.prog 21 #[.slice p n c] w fun e w' => e = .returned (.int .i64 (depI (kidsOf ts))) ∧ Below w.heap.size w w' := by
  have HN := Lib.hid hn
  have HND : Hid (∀ W, Below w.heap.size w W → ∀ i (hi : i < ts.length), ∃ g o, p = some ⟨g, o, none⟩ ∧ g < W.heap.size ∧ W.rangeAt g (o + i * 5) (ts[i]).cells) := Lib.hid (fun W hb i hi => by
    obtain ⟨g, o, hp, hg, -, -, -, -, -, h1⟩ := (h.later hb).node i hi
    exact ⟨g, o, hp, hg, h1⟩)
  obtain ⟨i0, hi0, hy0, hy1, hy2⟩ := info_parts int_info3
  have HFT := Lib.hid h.fit
  have HB0 : Hid (Bd []) := Lib.hid (fun _ h => by cases h)
  have H0 : Hid (depP [] 0 (kidsOf ts) = depP [] 0 ((kidsOf ts).drop 0)) := Lib.hid (by rw [List.drop_zero])
  have HI0 : Hid (IR w w (.slice none 0 0) (stk [])) := Lib.hid (IR.first w)
  clear h hn
  go_enter Try.func21, Try.ntmps21
  go_wp2
  go_step3
  go_wp2
  go_step3
  go_wp2
  go_loopg [3, 4, 10] n (fun k vd vo vk wr => ∃ (i m : Nat) (o : List Nat), i ≤ n ∧ m ≤ i ∧ o.length ≤ i ∧ k = n - i ∧ vd = .int .i64 (m : Int) ∧ vk = .int .i64 (i : Int) ∧ Hid (IR w wr vo (stk o)) ∧ Hid (depP [] 0 (kidsOf ts) = depP o m ((kidsOf ts).drop i)) ∧ Hid (Bd o))
  case atStart => exact ⟨0, 0, [], Nat.zero_le _, Nat.zero_le _, Nat.zero_le _, rfl, rfl, rfl, HI0, H0, HB0⟩
  case round =>
    clear H0 HI0 HB0
    obtain ⟨i, m, o, hi, hmi, hoi, hgk, rfl, rfl, hI, hD, hBD⟩ := hrel
    have HGK := Lib.hid hgk
    clear hgk
    by_cases hlt : i < n
    · have hil : i < ts.length := by rw [← HN.out]; exact hlt
      obtain ⟨g, q, rfl, hg, hr⟩ := HND.out wr hI.out.below i hil
      have hd : (kidsOf ts).drop i = ts[i].kids :: (kidsOf ts).drop (i + 1) := by
        rw [List.drop_eq_getElem_cons (by rw [kidsOf_len]; exact hil)]; simp [kidsOf]
      have hD' := hD.out
      rw [hd, depP_cons] at hD'
      have hft := HFT.out ts[i] (List.getElem_mem hil)
      have z0 : (0 : Int) ≤ (i : Int) := by omega
      have z1 : (i : Int) < (n : Int) := by omega
      generalize ts[i] = x at *
      have HR := Lib.hid hr
      have HXI := Lib.hid (n_info x)
      have HZ := Lib.hid (nb_zero wr)
      have HP := Lib.hid (nb_put wr x)
      have hlo := hI.out.below.size
      clear hD hd hr hg hil HND
      obtain ⟨pv, cv, hv, hv1, hv2⟩ := own_form0 hI.out.row
      rw [stk_len] at hv
      by_cases hneg : x.kids < 0
      · have HF : Hid (depI (kidsOf ts) = -1) := Lib.hid (depI_none (by rw [hD', if_pos hneg]))
        clear hD'
        go_wp2_with (first
          | (refine wpList_load_mid rfl 36 (.tmp 12) rfl g (q + i * 5) rfl x.cells _ HR.out Try.underlying36 rfl HXI.out ?_)
          | (refine wpList_store_mid rfl 36 (.tmp 6) (.tmp 13) rfl wr.heap.size 0 x.cells.toArray rfl rfl HZ.out.room (n_infoA x) (n_all x) ?_; generalize World.setCells _ _ _ _ = W3 at HP ⊢; have HP3 := Lib.hid HP.out; clear HP; obtain ⟨c0, c1, c2, c3, c4⟩ := HP3.out.1.at; clear c0 c2 c3 c4))
        rw [Exit.noGoto_ret]
        go_ret
        exact ⟨by rw [HF.out]; rfl, chain2 hI.out.below HP3.out.2⟩
      · obtain ⟨kd, hkd⟩ : ∃ kd : Nat, x.kids = (kd : Int) := ⟨x.kids.toNat, by omega⟩
        rw [if_neg hneg, hkd, Int.toNat_natCast] at hD'
        have HD2 := Lib.hid hD'
        have HKD := Lib.hid hkd
        have HBK : Hid (Bd (kd :: o)) := Lib.hid (fun y hy => by
          rcases List.mem_cons.1 hy with rfl | hy
          · omega
          · exact hBD.out y hy)
        clear hBD hft
        obtain ⟨ol, hol⟩ : ∃ ol, ol = o.length := ⟨_, rfl⟩
        rw [← hol] at hv HD2 hoi
        have HOL := Lib.hid hol
        clear hD' hneg hkd hol
        have HI2 : Hid (IR w wr (.slice pv ol cv) (stk o)) := Lib.hid (by rw [← hv]; exact hI.out)
        clear hI
        subst hv
        have HIQ : Hid (∀ W2 W3 g' cap o', Below wr.heap.size wr W2 → W3.ownsRow w.heap.size 3 1 (.slice (some ⟨g', 0, none⟩) (ol + 1) cap) (ol + 1) (iv (stk o) ++ [.int .i64 (kd : Int)]) → (W2.alloc o').grownBy W3 (Value.slice pv ol cv).ownBlock → IR w W3 (.slice (some ⟨g', 0, none⟩) (ol + 1) cap) (stk (kd :: o))) := Lib.hid (fun W2 W3 g' cap o' hb hrow hgr => by
          have h2 := HI2.out.later hb
          have e : (stk o).length = ol := by rw [stk_len, HOL.out]
          have := h2.push (x := (kd : Int)) (g' := g') (cap := cap) (by rw [e]; exact hrow) hgr
          rw [e] at this
          rw [stk_cons]; exact this)
        go_wp2_with (first
          | (refine wpList_load_mid rfl 36 (.tmp 12) rfl g (q + i * 5) rfl x.cells _ HR.out Try.underlying36 rfl HXI.out ?_)
          | (refine wpList_store_mid rfl 36 (.tmp 6) (.tmp 13) rfl wr.heap.size 0 x.cells.toArray rfl rfl HZ.out.room (n_infoA x) (n_all x) ?_; generalize World.setCells _ _ _ _ = W3 at HP ⊢; have HP3 := Lib.hid HP.out; clear HP; obtain ⟨c0, c1, c2, c3, c4⟩ := HP3.out.1.at; clear c0 c2 c3 c4; rw [HKD.out] at c1; have kn0 : ¬(kd : Int) < 0 := by omega
             have N1 := Lib.hid (news_at W3 #[.int .i64 (kd : Int)] 3); have HS3 := Lib.hid (HI2.out.later HP3.out.2))
          | (refine wpList_append_lies _ rfl (.tmp 17) (.tmp 20) 31 rfl w.heap.size 3 i0 (.int .i64 0) 1 8 Try.underlying31 hi0 hy0 hy1 hy2 rfl (by decide) _ ol (iv (stk o)) rfl (by have := HS3.out.row.alloc (.cells #[.int .i64 (kd : Int)] 3); rw [stk_len, ← HOL.out] at this; exact this) ⟨W3.heap.size, 0, none⟩ 1 1 [.int .i64 (kd : Int)] rfl rfl N1.out (by simp [Value.oneCell']) (by decide) (by unfold maxLen; omega) (by omega) (by have := HS3.out.below.size; simp; omega) (W3.heap.size + 1) (by simp) ?_; intro g' cap W7 hrow hgr hgl hlt7; have HX2 := Lib.hid (HIQ.out _ _ _ _ _ HP3.out.2 hrow hgr); clear hrow hgr hgl hlt7))
        clear HZ HIQ HI2 HR HXI HP3 c1 N1 HS3 HKD
        generalize wr.heap.size = wb at *
        generalize W3.heap.size = wc at *
        clear W3
        have hm2 : max m (ol + 1) ≤ i + 1 := by omega
        have HMX : Hid (max (m : Int) ((ol : Int) + 1) = ((max m (ol + 1) : Nat) : Int)) := Lib.hid (by omega)
        rw [HMX.out]
        generalize max m (ol + 1) = m2 at *
        have HO : Hid ((norm (kd :: o)).length ≤ i + 1) := Lib.hid (by have := norm_len (kd :: o); rw [List.length_cons, ← HOL.out] at this; omega)
        clear HMX hmi
        go_loopg [4, 7] (ol + 1) (fun k vo _ wr => ∃ s : List Nat, k = s.length ∧ s.length ≤ 4000 ∧ vo = .slice (some ⟨g', 0, none⟩) s.length cap ∧ Hid (IR w wr (.slice (some ⟨g', 0, none⟩) s.length cap) (stk s)) ∧ Hid (norm s = norm (kd :: o)) ∧ Hid (Bd s))
        case atStart => exact ⟨kd :: o, by simp [HOL.out], by simp [← HOL.out]; omega, by simp [HOL.out], by simpa [HOL.out] using HX2, Lib.hid rfl, HBK⟩
        case round =>
          clear HX2 HBK
          obtain ⟨s, hgk2, hs4, rfl, hS, hNS, hBS⟩ := hrel
          have HGK2 := Lib.hid hgk2
          clear hgk2
          cases s with
          | nil =>
            have HD3 := Lib.hid HD2.out
            have HN0 : Hid (norm (kd :: o) = []) := Lib.hid hNS.out.symm
            clear hNS
            rw [List.length_nil] at hS ⊢
            go_wp2
            go_roundg (n - (i + 1))
            case rel => exact ⟨i + 1, m2, [], by omega, hm2, Nat.zero_le _, rfl, rfl, by go_num, hS, by have h3 := HD3.out; rw [HN0.out] at h3; exact Lib.hid h3, hBS⟩
            case measure => have := HGK.out; omega
          | cons top s =>
            have hS' := hS.out
            rw [stk_cons] at hS'
            obtain ⟨-, cl, fl⟩ := hS'.last
            rw [stk_len] at cl fl
            rw [List.length_cons] at hs4 hS HGK2
            rw [List.length_cons]
            have HSET : Hid (∀ W y, W = wr.setCell ⟨g', s.length, none⟩ (.int .i64 ((y : Nat) : Int)) → IR w W (.slice (some ⟨g', 0, none⟩) (s.length + 1) cap) (stk (y :: s))) := Lib.hid (fun W y hw => by
              have := hS'.setLast (y := (y : Int))
              rw [stk_len] at this
              rw [hw, stk_cons]
              exact this)
            have HPOP : Hid (IR w wr (.slice (some ⟨g', 0, none⟩) s.length cap) (stk s)) := Lib.hid (by have := hS'.pop; rwa [stk_len] at this)
            have HSL := Lib.hid (And.intro hS.out.below hS.out.row)
            obtain ⟨q', hq'⟩ : ∃ q', q' = s.length := ⟨_, rfl⟩
            rw [← hq'] at hs4 hS HGK2 cl fl HSET HPOP HSL ⊢
            have HQ := Lib.hid hq'
            have hcap : q' + 1 ≤ cap := by
              obtain ⟨_, h2⟩ := HSL.out.2
              rcases h2 with ⟨h3, -⟩ | ⟨_, _, _, h3, -, -, h4, -⟩
              · cases h3
              · simp only [Value.slice.injEq] at h3; omega
            have hsl : ∀ W, (Instr.slice 31 (.slice (some ⟨g', 0, none⟩) (q' + 1) cap) none (some (.int .i64 (q' : Int))) none).run Try.prog W = .ok (.slice (some ⟨g', 0, none⟩) q' cap) W := fun W => by
              rw [run_slice_h W 31 _ (q' + 1) cap (by kernel_rfl) .i64 (q' : Int) (by omega) (by omega), show (sizeOf (Try.prog.elem 31)).run Try.prog W = .ok 1 W by kernel_rfl]
              show Result.ok (sliced _ 0 (q' : Int).toNat cap 1) W = _
              unfold sliced
              simp [Addr.add_mid]
            have e1 : IntKind.i64.wrap (((q' + 1 : Nat) : Int) - 1) = (q' : Int) := by rw [wrap_in _ (by omega)]; omega
            have e2 : IntKind.i64.wrap ((q' : Int) + 1 - 1) = (q' : Int) := by rw [wrap_in _ (by omega)]; omega
            have y0 : (0 : Int) ≤ (q' : Int) := by omega
            have y1 : (q' : Int) < ((q' + 1 : Nat) : Int) := by omega
            have HB2 : Hid (Bd s) := Lib.hid (fun y hy => hBS.out y (by simp [hy]))
            clear hS' hS HSL hq'
            cases top with
            | zero =>
              have HN2 : Hid (norm s = norm (kd :: o)) := Lib.hid hNS.out
              clear hNS HSET
              have cl' : wr.cell? ⟨g', q', none⟩ = some (.int .i64 0) := cl
              clear cl
              go_wp2
              go_roundg q'
              case rel => exact ⟨s, HQ.out, by have := HQ.out; omega, by rw [HQ.out], by rw [← HQ.out]; exact HPOP, HN2, HB2⟩
              case measure => have := HGK2.out; omega
            | succ t0 =>
              have HN2 : Hid (norm (kd :: o) = t0 :: s) := Lib.hid hNS.out.symm
              have hb0 := hBS.out (t0 + 1) (by simp)
              have e3 : IntKind.i64.wrap (((t0 + 1 : Nat) : Int) - 1) = (t0 : Int) := by rw [wrap_in _ (by omega)]; omega
              have e4 : IntKind.i64.wrap ((t0 : Int) + 1 - 1) = (t0 : Int) := by rw [wrap_in _ (by omega)]; omega
              have e5 : IntKind.i64.wrap (t0 : Int) = (t0 : Int) := wrap_in _ (by omega)
              have HB3 : Hid (Bd (t0 :: s)) := Lib.hid (fun y hy => by
                rcases List.mem_cons.1 hy with rfl | hy
                · omega
                · exact hBS.out y (by simp [hy]))
              clear hb0
              have y2 : ((t0 + 1 : Nat) : Int) > 0 := by omega
              clear hNS
              go_wp2
              have HSS := Lib.hid (HSET.out _ t0 rfl)
              go_roundg (n - (i + 1))
              case rel => exact ⟨i + 1, m2, t0 :: s, by omega, hm2, by rw [← HN2.out]; exact HO.out, rfl, rfl, by go_num, HSS, by rw [← HN2.out]; exact HD2, HB3⟩
              case measure => have := HGK.out; omega
    · obtain rfl : i = n := by omega
      have hd : (kidsOf ts).drop i = [] := List.drop_eq_nil_of_le (by rw [kidsOf_len, ← HN.out]; exact Nat.le_refl _)
      have hD' := hD.out
      rw [hd, depP_nil] at hD'
      have HBW := Lib.hid hI.out.below
      obtain ⟨pv, cv, hv, hv1, hv2⟩ := own_form0 hI.out.row
      rw [stk_len] at hv
      clear hD hd hI hv1 hv2 HND
      subst hv
      cases o with
      | nil =>
        have HF : Hid (depI (kidsOf ts) = (m : Int)) := Lib.hid (depI_some (by rw [hD', if_pos rfl]))
        clear hD'
        rw [List.length_nil]
        go_wp2
        rw [Exit.noGoto_ret]
        go_ret
        exact ⟨by rw [HF.out]; rfl, HBW.out⟩
      | cons a o =>
        have HF : Hid (depI (kidsOf ts) = -1) := Lib.hid (depI_none (by rw [hD', if_neg (by simp)]))
        have ho : ((a :: o).length : Int) > 0 := by simp
        generalize (a :: o).length = ol at *
        clear hD'
        go_wp2
        rw [Exit.noGoto_ret]
        go_ret
        exact ⟨by rw [HF.out]; rfl, HBW.out⟩

theorem depth_any (ts : List Nd) (v : Value) (w : World) (h : Nds w v ts) (hl : ts.length ≤ 4000) :
    Calls Try.prog 21 #[v] w fun e w' => e = .returned (.int .i64 (depI (kidsOf ts))) ∧ Below w.heap.size w w' := by
  obtain ⟨p, c, rfl, -⟩ := id h
  exact depth_nat ts p _ c w rfl h hl

end Go.Proofs.Ytcfgngaabledpaa.Tr
