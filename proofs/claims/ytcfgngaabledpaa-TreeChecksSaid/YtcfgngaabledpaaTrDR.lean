/- The walk of the document's Depth: its contract. No condition but those that each states. -/
import Derived.Test.YtcfgngaabledpaaTrD
namespace Go.Proofs.Ytcfgngaabledpaa.Tr
open Go.RowKit Dk Lx

/-- The document's stack: the node that comes is not struck off yet. -/
def rs : List Nat → List Nat
  | [] => []
  | c :: o => (c + 1) :: o
theorem rs_norm_nil {s : List Nat} (h : s = []) : rs (norm s) = s := by subst h; rfl
theorem rs_norm_cons (c : Nat) (s : List Nat) : rs (norm ((c + 1) :: s)) = (c + 1) :: s := rfl
theorem rs_len (o : List Nat) : (rs o).length = o.length := by cases o <;> rfl

theorem pushed {w wr : World} {pv : Option Addr} {ol cv kd : Nat} {o : List Nat} (h : IR w wr (.slice pv ol cv) (stk o)) : ∀ W2 W3 g' cap o', Below wr.heap.size wr W2 → W3.ownsRow w.heap.size 3 1 (.slice (some ⟨g', 0, none⟩) (ol + 1) cap) (ol + 1) (iv (stk o) ++ [.int .i64 (kd : Int)]) → (W2.alloc o').grownBy W3 (Value.slice pv ol cv).ownBlock → IR w W3 (.slice (some ⟨g', 0, none⟩) (ol + 1) cap) (stk (kd :: o)) := by
  intro W2 W3 g' cap o' hb hrow hgr
  have h2 := h.later hb
  obtain ⟨_, _, he, -, -⟩ := own_form0 h.row
  have e : ol = (stk o).length := by simp only [Value.slice.injEq] at he; exact he.2.1
  have := h2.push (x := (kd : Int)) (g' := g') (cap := cap) (by rw [← e]; exact hrow) hgr
  rw [← e] at this
  rw [stk_cons]; exact this

set_option maxHeartbeats 2000000 in
set_option maxRecDepth 100000 in
theorem rdepth_nat (ts : List Nd) (p : Option Addr) (n c : Nat) (w : World) (hn : n = ts.length) (h : Nds w (.slice p n c) ts) (hl : n ≤ 2100) :
    Calls Try.prog 22 #[.slice p n c] w fun e w' => e = .returned (.int .i64 (depI (kidsOf ts))) ∧ Below w.heap.size w w' := by
  have HN := Lib.hid hn
  have HND : Hid (∀ W, Below w.heap.size w W → ∀ i (hi : i < ts.length), ∃ g o, p = some ⟨g, o, none⟩ ∧ W.cell? ⟨g, o + i * 5 + 1, none⟩ = some (.int .i64 ts[i].kids)) := Lib.hid (fun W hb i hi => by
    obtain ⟨g, o, hp, -, -, h1, -⟩ := (h.later hb).node i hi
    exact ⟨g, o, hp, h1⟩)
  have CE : Hid (∀ (a : Nat) W, Below w.heap.size w W → Calls Try.prog 15 #[.slice p n c, .int .i64 (a : Int)] W fun e w' => e = .returned (.int .i64 (endI (kidsOf ts) (a : Int))) ∧ W = w') :=
    Lib.hid (fun a W hb => rend_any ts _ (a : Int) W (h.later hb) (by omega))
  obtain ⟨i0, hi0, hy0, hy1, hy2⟩ := info_parts int_info3
  have H0 : Hid (depP [] 0 (kidsOf ts) = depP [] 0 ((kidsOf ts).drop 0)) := Lib.hid (by rw [List.drop_zero])
  have HI0 : Hid (IR w w (.slice none 0 0) (stk (rs []))) := Lib.hid (IR.first w)
  have HB0 : Hid (Bd (rs [])) := Lib.hid (fun _ h => by cases h)
  have HG0 : Hid (∀ j, j < 0 → endW 1 ((kidsOf ts).drop j) ≠ none) := Lib.hid (fun j hj => absurd hj (Nat.not_lt_zero j))
  clear h hn
  go_enter Try.func22, Try.ntmps22
  go_wp2
  go_loopg [3, 4, 5] n (fun k vo vd vk wr => ∃ (i m : Nat) (o : List Nat), i ≤ n ∧ m ≤ i ∧ o.length ≤ i ∧ k = n - i ∧ vd = .int .i64 (m : Int) ∧ vk = .int .i64 (i : Int) ∧ Hid (IR w wr vo (stk (rs o))) ∧ Hid (depP [] 0 (kidsOf ts) = depP o m ((kidsOf ts).drop i)) ∧ Hid (Bd (rs o)) ∧ Hid (∀ j, j < i → endW 1 ((kidsOf ts).drop j) ≠ none))
  case atStart => exact ⟨0, 0, [], Nat.zero_le _, Nat.zero_le _, Nat.zero_le _, rfl, rfl, rfl, HI0, H0, HB0, HG0⟩
  case round =>
    clear H0 HI0 HB0 HG0
    obtain ⟨i, m, o, hi, hmi, hoi, hgk, rfl, rfl, hI, hD, hBD, hG⟩ := hrel
    have HGK := Lib.hid hgk
    clear hgk
    by_cases hlt : i < n
    · have hil : i < ts.length := by rw [← HN.out]; exact hlt
      have hd : (kidsOf ts).drop i = ts[i].kids :: (kidsOf ts).drop (i + 1) := by
        rw [List.drop_eq_getElem_cons (by rw [kidsOf_len]; exact hil)]; simp [kidsOf]
      have z0 : (0 : Int) ≤ (i : Int) := by omega
      have z1 : (i : Int) < (n : Int) := by omega
      have C1 := Lib.hid (CE.out i wr hI.out.below)
      obtain ⟨pv, cv, hv, hv1, hv2⟩ := own_form0 hI.out.row
      rw [stk_len, rs_len] at hv
      cases hw : endW 1 ((kidsOf ts).drop i) with
      | none =>
        have HF : Hid (depI (kidsOf ts) = -1) := Lib.hid (depI_none (by
          cases hq : depP [] 0 (kidsOf ts) with
          | none => rfl
          | some d => exact absurd hw ((depP_some _ _ _ _ hq).2 i (by rw [kidsOf_len]; exact hil))))
        rw [endI_none hw] at C1
        have HBW := Lib.hid hI.out.below
        clear hd hI hD hBD hG HND hv1 hv2 hw
        subst hv
        go_wp2_with (go_at_call 15; refine C1.out.mono ?_; rintro e w1 ⟨rfl, rfl⟩)
        go_ret
        exact ⟨by rw [HF.out]; rfl, HBW.out⟩
      | some sz =>
        have HG2 : Hid (∀ j, j < i + 1 → endW 1 ((kidsOf ts).drop j) ≠ none) := Lib.hid (fun j hj => by
          by_cases hji : j = i
          · subst hji; rw [hw]; exact fun h => by cases h
          · exact hG.out j (by omega))
        rw [endI_some hw] at C1
        obtain ⟨k', hk', hk0, hF, -⟩ := endW_node hw
        have hkx : ts[i].kids = k' := by rw [kidsOf_at hil] at hk'; exact Option.some.inj hk'
        obtain ⟨kd, rfl⟩ : ∃ kd : Nat, k' = (kd : Int) := ⟨k'.toNat, by omega⟩
        have hkn := endW_le _ _ _ hF
        rw [List.length_drop, kidsOf_len, ← HN.out, Int.toNat_natCast] at hkn
        have hD' := hD.out
        rw [hd, depP_cons, hkx, if_neg (by omega), Int.toNat_natCast] at hD'
        have HD2 := Lib.hid hD'
        have kd4 : kd ≤ 2100 := by omega
        have hszn : ¬((i : Int) + (sz : Int)) < 0 := by omega
        have HCL : Hid (∀ W, Below w.heap.size w W → ∃ g q, p = some ⟨g, q, none⟩ ∧ W.cell? ⟨g, q + i * 5 + 1, none⟩ = some (.int .i64 (kd : Int))) := Lib.hid (fun W hb => by
          obtain ⟨g, q, hp, h1⟩ := HND.out W hb i hil
          rw [hkx] at h1
          exact ⟨g, q, hp, h1⟩)
        have HBK : Hid (Bd o → Bd (kd :: o)) := Lib.hid (fun hb y hy => by
          rcases List.mem_cons.1 hy with rfl | hy
          · omega
          · exact hb y hy)
        clear hd hD' hD hG HND hw hk' hF hkx hkn hk0 hil
        generalize hEq : (i : Int) + (sz : Int) = E at *
        clear hEq
        cases o with
        | nil =>
          obtain ⟨ol, hol⟩ : ∃ ol, ol = ([] : List Nat).length := ⟨_, rfl⟩
          have HIW : Hid (IR w wr (.slice pv ol cv) (stk [])) := Lib.hid (by have := hI.out; rw [hv, ← hol] at this; exact this)
          have HBO : Hid (Bd (kd :: [])) := Lib.hid (HBK.out (fun _ h => by cases h))
          have HIQ := Lib.hid (pushed (kd := kd) HIW.out)
          rw [← hol] at hv hoi HD2
          have HOL := Lib.hid hol
          have y2 : ¬(ol : Int) > 0 := by rw [hol]; simp
          clear hI hBD HBK hv1 hv2 hol
          subst hv
          have HLE : Hid ((stk ([])).length = ol) := Lib.hid (by rw [stk_len]; simp [HOL.out])
          obtain ⟨g, q, rfl, c1⟩ := HCL.out wr HIW.out.below
          have N1 := Lib.hid (news_at wr #[.int .i64 (kd : Int)] 3)
          clear HCL
          have hm2 : max m (ol + 1) ≤ i + 1 := by omega
          have HMX : Hid (∃ m2, m2 = max m (ol + 1)) := Lib.hid ⟨_, rfl⟩
          have HO : Hid ((norm (kd :: [])).length ≤ i + 1) := Lib.hid (by have := norm_len (kd :: []); have h2 := HLE.out; rw [stk_len] at h2; rw [List.length_cons, h2] at this; omega)
          by_cases hmx : m < ol + 1
          · have v1 : ((ol + 1 : Nat) : Int) > (m : Int) := by omega
            have HM : Hid (max m (ol + 1) = ol + 1) := Lib.hid (by omega)
            rw [HM.out] at HD2 hm2
            clear hmx HMX
            go_wp2_with (first
              | (go_at_call 15; refine C1.out.mono ?_; rintro e w1 ⟨rfl, rfl⟩)
              | (refine wpList_append_lies _ rfl (.tmp 31) (.tmp 37) 31 rfl w.heap.size 3 i0 (.int .i64 0) 1 8 Try.underlying31 hi0 hy0 hy1 hy2 rfl (by decide) _ (ol) (iv (stk ([]))) rfl (by have := HIW.out.row.alloc (.cells #[.int .i64 (kd : Int)] 3); rw [HLE.out] at this; exact this) ⟨wr.heap.size, 0, none⟩ 1 1 [.int .i64 (kd : Int)] rfl rfl N1.out (by simp [Value.oneCell']) (by decide) (by unfold maxLen; omega) (by omega) (by have := HIW.out.below.size; simp; omega) (wr.heap.size + 1) (by simp) ?_; intro g2 cap W7 hrow hgr hgl hlt7; have HX2 := Lib.hid (HIQ.out _ _ _ _ _ (Below.refl _ _) hrow hgr); clear hrow hgr hgl hlt7)
              | fail)
            obtain ⟨m2, hm2q⟩ : ∃ m2, m2 = ol + 1 := ⟨_, rfl⟩
            have HMQ : Hid (((ol + 1 : Nat) : Int) = (m2 : Int)) := Lib.hid (by rw [hm2q])
            have HMQ2 := Lib.hid hm2q
            rw [← hm2q] at HD2 hm2
            clear hm2q v1
            clear N1 c1 HIQ HIW
            go_loopg [3] (ol + 1) (fun k vo wr => ∃ s : List Nat, k = s.length ∧ s.length ≤ 4000 ∧ vo = .slice (some ⟨g2, 0, none⟩) s.length cap ∧ Hid (IR w wr (.slice (some ⟨g2, 0, none⟩) s.length cap) (stk s)) ∧ Hid (norm s = norm (kd :: [])) ∧ Hid (Bd s))
            case atStart => exact ⟨kd :: [], by have := HLE.out; rw [stk_len] at this; rw [List.length_cons, this], by have := HLE.out; rw [stk_len] at this; rw [List.length_cons, this]; omega, by have := HLE.out; rw [stk_len] at this; rw [List.length_cons, this], by have h2 := HLE.out; rw [stk_len] at h2; rw [List.length_cons, h2]; exact HX2, Lib.hid rfl, HBO⟩
            case round =>
              clear HX2 HBO
              obtain ⟨s, hgk2, hs4, rfl, hS, hNS, hBS⟩ := hrel
              have HGK2 := Lib.hid hgk2
              clear hgk2
              cases s with
              | nil =>
                have HN0 : Hid (norm (kd :: []) = []) := Lib.hid hNS.out.symm
                clear hNS
                rw [List.length_nil] at hS ⊢
                go_wp2
                go_roundg (n - (i + 1))
                case rel => exact ⟨i + 1, m2, [], by omega, hm2, Nat.zero_le _, rfl, by first | rw [HMQ.out] | (rw [← HMQ.out]; go_num), by go_num, hS, by have h3 := HD2.out; rw [HN0.out] at h3; exact Lib.hid h3, hBS, HG2⟩
                case measure => have := HGK.out; omega
              | cons top s =>
                have hS' := hS.out
                rw [stk_cons] at hS'
                obtain ⟨-, cl, fl⟩ := hS'.last
                rw [stk_len] at cl fl
                have hSS := hS
                rw [List.length_cons] at hs4 hS HGK2
                rw [List.length_cons]
                have HPOP : Hid (IR w wr (.slice (some ⟨g2, 0, none⟩) s.length cap) (stk s)) := Lib.hid (by have := hS'.pop; rwa [stk_len] at this)
                obtain ⟨q', hq'⟩ : ∃ q', q' = s.length := ⟨_, rfl⟩
                rw [← hq'] at hs4 hS HGK2 cl fl HPOP ⊢
                have HQ := Lib.hid hq'
                have hcap : q' + 1 ≤ cap := by
                  obtain ⟨_, h2⟩ := hS.out.row
                  rcases h2 with ⟨h3, -⟩ | ⟨_, _, _, h3, -, -, h4, -⟩
                  · cases h3
                  · simp only [Value.slice.injEq] at h3; omega
                have hsl : ∀ W, (Instr.slice 31 (.slice (some ⟨g2, 0, none⟩) (q' + 1) cap) none (some (.int .i64 (q' : Int))) none).run Try.prog W = .ok (.slice (some ⟨g2, 0, none⟩) q' cap) W := fun W => by
                  rw [run_slice_h W 31 _ (q' + 1) cap (by kernel_rfl) .i64 (q' : Int) (by omega) (by omega), show (sizeOf (Try.prog.elem 31)).run Try.prog W = .ok 1 W by kernel_rfl]
                  show Result.ok (sliced _ 0 (q' : Int).toNat cap 1) W = _
                  unfold sliced
                  simp [Addr.add_mid]
                have e1 : IntKind.i64.wrap (((q' + 1 : Nat) : Int) - 1) = (q' : Int) := by rw [wrap_in _ (by omega)]; omega
                have e2 : IntKind.i64.wrap ((q' : Int) + 1 - 1) = (q' : Int) := by rw [wrap_in _ (by omega)]; omega
                have y0 : (0 : Int) ≤ (q' : Int) := by omega
                have y1 : (q' : Int) < ((q' + 1 : Nat) : Int) := by omega
                have HB2 : Hid (Bd s) := Lib.hid (fun y hy => hBS.out y (by simp [hy]))
                have HBS2 := Lib.hid hBS.out
                clear hS' hq' hBS
                cases top with
                | zero =>
                  have HN2 : Hid (norm s = norm (kd :: [])) := Lib.hid hNS.out
                  have cl' : wr.cell? ⟨g2, q', none⟩ = some (.int .i64 0) := cl
                  clear cl hNS hS hSS
                  go_wp2
                  go_roundg q'
                  case rel => exact ⟨s, HQ.out, by have := HQ.out; omega, by rw [HQ.out], by rw [← HQ.out]; exact HPOP, HN2, HB2⟩
                  case measure => have := HGK2.out; omega
                | succ t0 =>
                  have HN2 : Hid (norm (kd :: []) = t0 :: s) := Lib.hid hNS.out.symm
                  have y2 : (((t0 + 1 : Nat) : Int) == 0) = false := by simp; omega
                  have y3 : (((t0 : Nat) : Int) + 1 == 0) = false := by simp; omega
                  have HS9 : Hid (IR w wr (.slice (some ⟨g2, 0, none⟩) (q' + 1) cap) (stk (rs (t0 :: s)))) := Lib.hid hS.out
                  clear hNS hS hSS
                  go_wp2
                  go_roundg (n - (i + 1))
                  case rel => exact ⟨i + 1, m2, t0 :: s, by omega, hm2, by rw [← HN2.out]; exact HO.out, rfl, by first | rw [HMQ.out] | (rw [← HMQ.out]; go_num), by go_num, HS9, by rw [← HN2.out]; exact HD2, HBS2, HG2⟩
                  case measure => have := HGK.out; omega
          · have v1 : ¬((ol + 1 : Nat) : Int) > (m : Int) := by omega
            have HM : Hid (max m (ol + 1) = m) := Lib.hid (by omega)
            rw [HM.out] at HD2 hm2
            clear hmx HMX
            go_wp2_with (first
              | (go_at_call 15; refine C1.out.mono ?_; rintro e w1 ⟨rfl, rfl⟩)
              | (refine wpList_append_lies _ rfl (.tmp 31) (.tmp 37) 31 rfl w.heap.size 3 i0 (.int .i64 0) 1 8 Try.underlying31 hi0 hy0 hy1 hy2 rfl (by decide) _ (ol) (iv (stk ([]))) rfl (by have := HIW.out.row.alloc (.cells #[.int .i64 (kd : Int)] 3); rw [HLE.out] at this; exact this) ⟨wr.heap.size, 0, none⟩ 1 1 [.int .i64 (kd : Int)] rfl rfl N1.out (by simp [Value.oneCell']) (by decide) (by unfold maxLen; omega) (by omega) (by have := HIW.out.below.size; simp; omega) (wr.heap.size + 1) (by simp) ?_; intro g2 cap W7 hrow hgr hgl hlt7; have HX2 := Lib.hid (HIQ.out _ _ _ _ _ (Below.refl _ _) hrow hgr); clear hrow hgr hgl hlt7)
              | fail)
            obtain ⟨m2, hm2q⟩ : ∃ m2, m2 = m := ⟨_, rfl⟩
            have HMQ : Hid ((m : Int) = (m2 : Int)) := Lib.hid (by rw [hm2q])
            rw [← hm2q] at HD2 hm2
            clear hm2q v1
            clear N1 c1 HIQ HIW
            go_loopg [3] (ol + 1) (fun k vo wr => ∃ s : List Nat, k = s.length ∧ s.length ≤ 4000 ∧ vo = .slice (some ⟨g2, 0, none⟩) s.length cap ∧ Hid (IR w wr (.slice (some ⟨g2, 0, none⟩) s.length cap) (stk s)) ∧ Hid (norm s = norm (kd :: [])) ∧ Hid (Bd s))
            case atStart => exact ⟨kd :: [], by have := HLE.out; rw [stk_len] at this; rw [List.length_cons, this], by have := HLE.out; rw [stk_len] at this; rw [List.length_cons, this]; omega, by have := HLE.out; rw [stk_len] at this; rw [List.length_cons, this], by have h2 := HLE.out; rw [stk_len] at h2; rw [List.length_cons, h2]; exact HX2, Lib.hid rfl, HBO⟩
            case round =>
              clear HX2 HBO
              obtain ⟨s, hgk2, hs4, rfl, hS, hNS, hBS⟩ := hrel
              have HGK2 := Lib.hid hgk2
              clear hgk2
              cases s with
              | nil =>
                have HN0 : Hid (norm (kd :: []) = []) := Lib.hid hNS.out.symm
                clear hNS
                rw [List.length_nil] at hS ⊢
                go_wp2
                go_roundg (n - (i + 1))
                case rel => exact ⟨i + 1, m2, [], by omega, hm2, Nat.zero_le _, rfl, by first | rw [HMQ.out] | (rw [← HMQ.out]; go_num), by go_num, hS, by have h3 := HD2.out; rw [HN0.out] at h3; exact Lib.hid h3, hBS, HG2⟩
                case measure => have := HGK.out; omega
              | cons top s =>
                have hS' := hS.out
                rw [stk_cons] at hS'
                obtain ⟨-, cl, fl⟩ := hS'.last
                rw [stk_len] at cl fl
                have hSS := hS
                rw [List.length_cons] at hs4 hS HGK2
                rw [List.length_cons]
                have HPOP : Hid (IR w wr (.slice (some ⟨g2, 0, none⟩) s.length cap) (stk s)) := Lib.hid (by have := hS'.pop; rwa [stk_len] at this)
                obtain ⟨q', hq'⟩ : ∃ q', q' = s.length := ⟨_, rfl⟩
                rw [← hq'] at hs4 hS HGK2 cl fl HPOP ⊢
                have HQ := Lib.hid hq'
                have hcap : q' + 1 ≤ cap := by
                  obtain ⟨_, h2⟩ := hS.out.row
                  rcases h2 with ⟨h3, -⟩ | ⟨_, _, _, h3, -, -, h4, -⟩
                  · cases h3
                  · simp only [Value.slice.injEq] at h3; omega
                have hsl : ∀ W, (Instr.slice 31 (.slice (some ⟨g2, 0, none⟩) (q' + 1) cap) none (some (.int .i64 (q' : Int))) none).run Try.prog W = .ok (.slice (some ⟨g2, 0, none⟩) q' cap) W := fun W => by
                  rw [run_slice_h W 31 _ (q' + 1) cap (by kernel_rfl) .i64 (q' : Int) (by omega) (by omega), show (sizeOf (Try.prog.elem 31)).run Try.prog W = .ok 1 W by kernel_rfl]
                  show Result.ok (sliced _ 0 (q' : Int).toNat cap 1) W = _
                  unfold sliced
                  simp [Addr.add_mid]
                have e1 : IntKind.i64.wrap (((q' + 1 : Nat) : Int) - 1) = (q' : Int) := by rw [wrap_in _ (by omega)]; omega
                have e2 : IntKind.i64.wrap ((q' : Int) + 1 - 1) = (q' : Int) := by rw [wrap_in _ (by omega)]; omega
                have y0 : (0 : Int) ≤ (q' : Int) := by omega
                have y1 : (q' : Int) < ((q' + 1 : Nat) : Int) := by omega
                have HB2 : Hid (Bd s) := Lib.hid (fun y hy => hBS.out y (by simp [hy]))
                have HBS2 := Lib.hid hBS.out
                clear hS' hq' hBS
                cases top with
                | zero =>
                  have HN2 : Hid (norm s = norm (kd :: [])) := Lib.hid hNS.out
                  have cl' : wr.cell? ⟨g2, q', none⟩ = some (.int .i64 0) := cl
                  clear cl hNS hS hSS
                  go_wp2
                  go_roundg q'
                  case rel => exact ⟨s, HQ.out, by have := HQ.out; omega, by rw [HQ.out], by rw [← HQ.out]; exact HPOP, HN2, HB2⟩
                  case measure => have := HGK2.out; omega
                | succ t0 =>
                  have HN2 : Hid (norm (kd :: []) = t0 :: s) := Lib.hid hNS.out.symm
                  have y2 : (((t0 + 1 : Nat) : Int) == 0) = false := by simp; omega
                  have y3 : (((t0 : Nat) : Int) + 1 == 0) = false := by simp; omega
                  have HS9 : Hid (IR w wr (.slice (some ⟨g2, 0, none⟩) (q' + 1) cap) (stk (rs (t0 :: s)))) := Lib.hid hS.out
                  clear hNS hS hSS
                  go_wp2
                  go_roundg (n - (i + 1))
                  case rel => exact ⟨i + 1, m2, t0 :: s, by omega, hm2, by rw [← HN2.out]; exact HO.out, rfl, by first | rw [HMQ.out] | (rw [← HMQ.out]; go_num), by go_num, HS9, by rw [← HN2.out]; exact HD2, HBS2, HG2⟩
                  case measure => have := HGK.out; omega
        | cons c0 o =>
          obtain ⟨x0, x1, rfl⟩ : ∃ x0 x1, pv = some (⟨x0, x1, none⟩ : Addr) := by
            rcases hI.out.row.2 with ⟨h1, h2⟩ | ⟨g, cap, cur, h1, -⟩
            · rw [stk_len] at h2; cases h2
            · rw [h1] at hv; simp only [Value.slice.injEq] at hv; exact ⟨_, _, hv.1.symm⟩
          obtain ⟨rfl, -⟩ := hv2 _ _ _ rfl
          obtain ⟨ol, hol⟩ : ∃ ol, ol = o.length := ⟨_, rfl⟩
          rw [List.length_cons, ← hol] at hv hoi HD2
          have hI' : IR w wr (.slice (some ⟨x0, 0, none⟩) (ol + 1) cv) (stk o ++ [((c0 + 1 : Nat) : Int)]) := by have := hI.out; rw [hv, show rs (c0 :: o) = (c0 + 1) :: o from rfl, stk_cons] at this; exact this
          obtain ⟨-, cl, fl⟩ := hI'.last
          rw [stk_len, ← hol] at cl fl
          have HSET : Hid (∀ W, W = wr.setCell ⟨x0, ol, none⟩ (.int .i64 (c0 : Int)) → IR w W (.slice (some ⟨x0, 0, none⟩) (ol + 1) cv) (stk (c0 :: o))) := Lib.hid (fun W hW => by
            have := hI'.setLast (y := (c0 : Int))
            rw [stk_len, ← hol] at this
            rw [hW, stk_cons]; exact this)
          have hb0 := hBD.out (c0 + 1) (by simp [rs])
          have HBO : Hid (Bd (kd :: c0 :: o)) := Lib.hid (HBK.out (fun y hy => by
            rcases List.mem_cons.1 hy with rfl | hy
            · omega
            · exact hBD.out y (by simp [rs, hy])))
          have e1 : IntKind.i64.wrap (((ol + 1 : Nat) : Int) - 1) = (ol : Int) := by rw [wrap_in _ (by omega)]; omega
          have e2 : IntKind.i64.wrap ((ol : Int) + 1 - 1) = (ol : Int) := by rw [wrap_in _ (by omega)]; omega
          have e3 : IntKind.i64.wrap (((c0 + 1 : Nat) : Int) - 1) = (c0 : Int) := by rw [wrap_in _ (by omega)]; omega
          have e4 : IntKind.i64.wrap ((c0 : Int) + 1 - 1) = (c0 : Int) := by rw [wrap_in _ (by omega)]; omega
          have e5 : IntKind.i64.wrap (c0 : Int) = (c0 : Int) := wrap_in _ (by omega)
          have y0 : (0 : Int) ≤ (ol : Int) := by omega
          have y1 : (ol : Int) < ((ol + 1 : Nat) : Int) := by omega
          have y2 : ((ol + 1 : Nat) : Int) > 0 := by omega
          have HOL := Lib.hid hol
          clear hI hBD HBK hI' hv1 hol hv2 hb0
          subst hv
          go_wp2_with (first
            | (go_at_call 15; refine C1.out.mono ?_; rintro e w1 ⟨rfl, rfl⟩)
            | fail)
          have HIW : Hid (IR w (wr.setCell ⟨x0, ol, none⟩ (.int .i64 (c0 : Int))) (.slice (some ⟨x0, 0, none⟩) (ol + 1) cv) (stk (c0 :: o))) := Lib.hid (HSET.out _ rfl)
          clear HSET e1 e2 e3 e4 e5 y0 y1 y2 cl fl
          generalize wr.setCell ⟨x0, ol, none⟩ (.int .i64 (c0 : Int)) = wr at HIW ⊢
          have HIQ := Lib.hid (pushed (kd := kd) HIW.out)
          have HLE : Hid ((stk (c0 :: o)).length = ol + 1) := Lib.hid (by rw [stk_len]; simp [HOL.out])
          obtain ⟨g, q, rfl, c1⟩ := HCL.out wr HIW.out.below
          have N1 := Lib.hid (news_at wr #[.int .i64 (kd : Int)] 3)
          clear HCL
          have hm2 : max m (ol + 1 + 1) ≤ i + 1 := by omega
          have HMX : Hid (∃ m2, m2 = max m (ol + 1 + 1)) := Lib.hid ⟨_, rfl⟩
          have HO : Hid ((norm (kd :: c0 :: o)).length ≤ i + 1) := Lib.hid (by have := norm_len (kd :: c0 :: o); have h2 := HLE.out; rw [stk_len] at h2; rw [List.length_cons, h2] at this; omega)
          by_cases hmx : m < ol + 1 + 1
          · have v1 : ((ol + 1 + 1 : Nat) : Int) > (m : Int) := by omega
            have HM : Hid (max m (ol + 1 + 1) = ol + 1 + 1) := Lib.hid (by omega)
            rw [HM.out] at HD2 hm2
            clear hmx HMX
            go_wp2_with (first
              | (refine wpList_append_lies _ rfl (.tmp 31) (.tmp 37) 31 rfl w.heap.size 3 i0 (.int .i64 0) 1 8 Try.underlying31 hi0 hy0 hy1 hy2 rfl (by decide) _ (ol + 1) (iv (stk (c0 :: o))) rfl (by have := HIW.out.row.alloc (.cells #[.int .i64 (kd : Int)] 3); rw [HLE.out] at this; exact this) ⟨wr.heap.size, 0, none⟩ 1 1 [.int .i64 (kd : Int)] rfl rfl N1.out (by simp [Value.oneCell']) (by decide) (by unfold maxLen; omega) (by omega) (by have := HIW.out.below.size; simp; omega) (wr.heap.size + 1) (by simp) ?_; intro g2 cap W7 hrow hgr hgl hlt7; have HX2 := Lib.hid (HIQ.out _ _ _ _ _ (Below.refl _ _) hrow hgr); clear hrow hgr hgl hlt7)
              | fail)
            obtain ⟨m2, hm2q⟩ : ∃ m2, m2 = ol + 1 + 1 := ⟨_, rfl⟩
            have HMQ : Hid (((ol + 1 + 1 : Nat) : Int) = (m2 : Int)) := Lib.hid (by rw [hm2q])
            have HMQ2 := Lib.hid hm2q
            rw [← hm2q] at HD2 hm2
            clear hm2q v1
            clear N1 c1 HIQ HIW
            go_loopg [3] (ol + 1 + 1) (fun k vo wr => ∃ s : List Nat, k = s.length ∧ s.length ≤ 4000 ∧ vo = .slice (some ⟨g2, 0, none⟩) s.length cap ∧ Hid (IR w wr (.slice (some ⟨g2, 0, none⟩) s.length cap) (stk s)) ∧ Hid (norm s = norm (kd :: c0 :: o)) ∧ Hid (Bd s))
            case atStart => exact ⟨kd :: c0 :: o, by have := HLE.out; rw [stk_len] at this; rw [List.length_cons, this], by have := HLE.out; rw [stk_len] at this; rw [List.length_cons, this]; omega, by have := HLE.out; rw [stk_len] at this; rw [List.length_cons, this], by have h2 := HLE.out; rw [stk_len] at h2; rw [List.length_cons, h2]; exact HX2, Lib.hid rfl, HBO⟩
            case round =>
              clear HX2 HBO
              obtain ⟨s, hgk2, hs4, rfl, hS, hNS, hBS⟩ := hrel
              have HGK2 := Lib.hid hgk2
              clear hgk2
              cases s with
              | nil =>
                have HN0 : Hid (norm (kd :: c0 :: o) = []) := Lib.hid hNS.out.symm
                clear hNS
                rw [List.length_nil] at hS ⊢
                go_wp2
                go_roundg (n - (i + 1))
                case rel => exact ⟨i + 1, m2, [], by omega, hm2, Nat.zero_le _, rfl, by first | rw [HMQ.out] | (rw [← HMQ.out]; go_num), by go_num, hS, by have h3 := HD2.out; rw [HN0.out] at h3; exact Lib.hid h3, hBS, HG2⟩
                case measure => have := HGK.out; omega
              | cons top s =>
                have hS' := hS.out
                rw [stk_cons] at hS'
                obtain ⟨-, cl, fl⟩ := hS'.last
                rw [stk_len] at cl fl
                have hSS := hS
                rw [List.length_cons] at hs4 hS HGK2
                rw [List.length_cons]
                have HPOP : Hid (IR w wr (.slice (some ⟨g2, 0, none⟩) s.length cap) (stk s)) := Lib.hid (by have := hS'.pop; rwa [stk_len] at this)
                obtain ⟨q', hq'⟩ : ∃ q', q' = s.length := ⟨_, rfl⟩
                rw [← hq'] at hs4 hS HGK2 cl fl HPOP ⊢
                have HQ := Lib.hid hq'
                have hcap : q' + 1 ≤ cap := by
                  obtain ⟨_, h2⟩ := hS.out.row
                  rcases h2 with ⟨h3, -⟩ | ⟨_, _, _, h3, -, -, h4, -⟩
                  · cases h3
                  · simp only [Value.slice.injEq] at h3; omega
                have hsl : ∀ W, (Instr.slice 31 (.slice (some ⟨g2, 0, none⟩) (q' + 1) cap) none (some (.int .i64 (q' : Int))) none).run Try.prog W = .ok (.slice (some ⟨g2, 0, none⟩) q' cap) W := fun W => by
                  rw [run_slice_h W 31 _ (q' + 1) cap (by kernel_rfl) .i64 (q' : Int) (by omega) (by omega), show (sizeOf (Try.prog.elem 31)).run Try.prog W = .ok 1 W by kernel_rfl]
                  show Result.ok (sliced _ 0 (q' : Int).toNat cap 1) W = _
                  unfold sliced
                  simp [Addr.add_mid]
                have e1 : IntKind.i64.wrap (((q' + 1 : Nat) : Int) - 1) = (q' : Int) := by rw [wrap_in _ (by omega)]; omega
                have e2 : IntKind.i64.wrap ((q' : Int) + 1 - 1) = (q' : Int) := by rw [wrap_in _ (by omega)]; omega
                have y0 : (0 : Int) ≤ (q' : Int) := by omega
                have y1 : (q' : Int) < ((q' + 1 : Nat) : Int) := by omega
                have HB2 : Hid (Bd s) := Lib.hid (fun y hy => hBS.out y (by simp [hy]))
                have HBS2 := Lib.hid hBS.out
                clear hS' hq' hBS
                cases top with
                | zero =>
                  have HN2 : Hid (norm s = norm (kd :: c0 :: o)) := Lib.hid hNS.out
                  have cl' : wr.cell? ⟨g2, q', none⟩ = some (.int .i64 0) := cl
                  clear cl hNS hS hSS
                  go_wp2
                  go_roundg q'
                  case rel => exact ⟨s, HQ.out, by have := HQ.out; omega, by rw [HQ.out], by rw [← HQ.out]; exact HPOP, HN2, HB2⟩
                  case measure => have := HGK2.out; omega
                | succ t0 =>
                  have HN2 : Hid (norm (kd :: c0 :: o) = t0 :: s) := Lib.hid hNS.out.symm
                  have y2 : (((t0 + 1 : Nat) : Int) == 0) = false := by simp; omega
                  have y3 : (((t0 : Nat) : Int) + 1 == 0) = false := by simp; omega
                  have HS9 : Hid (IR w wr (.slice (some ⟨g2, 0, none⟩) (q' + 1) cap) (stk (rs (t0 :: s)))) := Lib.hid hS.out
                  clear hNS hS hSS
                  go_wp2
                  go_roundg (n - (i + 1))
                  case rel => exact ⟨i + 1, m2, t0 :: s, by omega, hm2, by rw [← HN2.out]; exact HO.out, rfl, by first | rw [HMQ.out] | (rw [← HMQ.out]; go_num), by go_num, HS9, by rw [← HN2.out]; exact HD2, HBS2, HG2⟩
                  case measure => have := HGK.out; omega
          · have v1 : ¬((ol + 1 + 1 : Nat) : Int) > (m : Int) := by omega
            have HM : Hid (max m (ol + 1 + 1) = m) := Lib.hid (by omega)
            rw [HM.out] at HD2 hm2
            clear hmx HMX
            go_wp2_with (first
              | (refine wpList_append_lies _ rfl (.tmp 31) (.tmp 37) 31 rfl w.heap.size 3 i0 (.int .i64 0) 1 8 Try.underlying31 hi0 hy0 hy1 hy2 rfl (by decide) _ (ol + 1) (iv (stk (c0 :: o))) rfl (by have := HIW.out.row.alloc (.cells #[.int .i64 (kd : Int)] 3); rw [HLE.out] at this; exact this) ⟨wr.heap.size, 0, none⟩ 1 1 [.int .i64 (kd : Int)] rfl rfl N1.out (by simp [Value.oneCell']) (by decide) (by unfold maxLen; omega) (by omega) (by have := HIW.out.below.size; simp; omega) (wr.heap.size + 1) (by simp) ?_; intro g2 cap W7 hrow hgr hgl hlt7; have HX2 := Lib.hid (HIQ.out _ _ _ _ _ (Below.refl _ _) hrow hgr); clear hrow hgr hgl hlt7)
              | fail)
            obtain ⟨m2, hm2q⟩ : ∃ m2, m2 = m := ⟨_, rfl⟩
            have HMQ : Hid ((m : Int) = (m2 : Int)) := Lib.hid (by rw [hm2q])
            rw [← hm2q] at HD2 hm2
            clear hm2q v1
            clear N1 c1 HIQ HIW
            go_loopg [3] (ol + 1 + 1) (fun k vo wr => ∃ s : List Nat, k = s.length ∧ s.length ≤ 4000 ∧ vo = .slice (some ⟨g2, 0, none⟩) s.length cap ∧ Hid (IR w wr (.slice (some ⟨g2, 0, none⟩) s.length cap) (stk s)) ∧ Hid (norm s = norm (kd :: c0 :: o)) ∧ Hid (Bd s))
            case atStart => exact ⟨kd :: c0 :: o, by have := HLE.out; rw [stk_len] at this; rw [List.length_cons, this], by have := HLE.out; rw [stk_len] at this; rw [List.length_cons, this]; omega, by have := HLE.out; rw [stk_len] at this; rw [List.length_cons, this], by have h2 := HLE.out; rw [stk_len] at h2; rw [List.length_cons, h2]; exact HX2, Lib.hid rfl, HBO⟩
            case round =>
              clear HX2 HBO
              obtain ⟨s, hgk2, hs4, rfl, hS, hNS, hBS⟩ := hrel
              have HGK2 := Lib.hid hgk2
              clear hgk2
              cases s with
              | nil =>
                have HN0 : Hid (norm (kd :: c0 :: o) = []) := Lib.hid hNS.out.symm
                clear hNS
                rw [List.length_nil] at hS ⊢
                go_wp2
                go_roundg (n - (i + 1))
                case rel => exact ⟨i + 1, m2, [], by omega, hm2, Nat.zero_le _, rfl, by first | rw [HMQ.out] | (rw [← HMQ.out]; go_num), by go_num, hS, by have h3 := HD2.out; rw [HN0.out] at h3; exact Lib.hid h3, hBS, HG2⟩
                case measure => have := HGK.out; omega
              | cons top s =>
                have hS' := hS.out
                rw [stk_cons] at hS'
                obtain ⟨-, cl, fl⟩ := hS'.last
                rw [stk_len] at cl fl
                have hSS := hS
                rw [List.length_cons] at hs4 hS HGK2
                rw [List.length_cons]
                have HPOP : Hid (IR w wr (.slice (some ⟨g2, 0, none⟩) s.length cap) (stk s)) := Lib.hid (by have := hS'.pop; rwa [stk_len] at this)
                obtain ⟨q', hq'⟩ : ∃ q', q' = s.length := ⟨_, rfl⟩
                rw [← hq'] at hs4 hS HGK2 cl fl HPOP ⊢
                have HQ := Lib.hid hq'
                have hcap : q' + 1 ≤ cap := by
                  obtain ⟨_, h2⟩ := hS.out.row
                  rcases h2 with ⟨h3, -⟩ | ⟨_, _, _, h3, -, -, h4, -⟩
                  · cases h3
                  · simp only [Value.slice.injEq] at h3; omega
                have hsl : ∀ W, (Instr.slice 31 (.slice (some ⟨g2, 0, none⟩) (q' + 1) cap) none (some (.int .i64 (q' : Int))) none).run Try.prog W = .ok (.slice (some ⟨g2, 0, none⟩) q' cap) W := fun W => by
                  rw [run_slice_h W 31 _ (q' + 1) cap (by kernel_rfl) .i64 (q' : Int) (by omega) (by omega), show (sizeOf (Try.prog.elem 31)).run Try.prog W = .ok 1 W by kernel_rfl]
                  show Result.ok (sliced _ 0 (q' : Int).toNat cap 1) W = _
                  unfold sliced
                  simp [Addr.add_mid]
                have e1 : IntKind.i64.wrap (((q' + 1 : Nat) : Int) - 1) = (q' : Int) := by rw [wrap_in _ (by omega)]; omega
                have e2 : IntKind.i64.wrap ((q' : Int) + 1 - 1) = (q' : Int) := by rw [wrap_in _ (by omega)]; omega
                have y0 : (0 : Int) ≤ (q' : Int) := by omega
                have y1 : (q' : Int) < ((q' + 1 : Nat) : Int) := by omega
                have HB2 : Hid (Bd s) := Lib.hid (fun y hy => hBS.out y (by simp [hy]))
                have HBS2 := Lib.hid hBS.out
                clear hS' hq' hBS
                cases top with
                | zero =>
                  have HN2 : Hid (norm s = norm (kd :: c0 :: o)) := Lib.hid hNS.out
                  have cl' : wr.cell? ⟨g2, q', none⟩ = some (.int .i64 0) := cl
                  clear cl hNS hS hSS
                  go_wp2
                  go_roundg q'
                  case rel => exact ⟨s, HQ.out, by have := HQ.out; omega, by rw [HQ.out], by rw [← HQ.out]; exact HPOP, HN2, HB2⟩
                  case measure => have := HGK2.out; omega
                | succ t0 =>
                  have HN2 : Hid (norm (kd :: c0 :: o) = t0 :: s) := Lib.hid hNS.out.symm
                  have y2 : (((t0 + 1 : Nat) : Int) == 0) = false := by simp; omega
                  have y3 : (((t0 : Nat) : Int) + 1 == 0) = false := by simp; omega
                  have HS9 : Hid (IR w wr (.slice (some ⟨g2, 0, none⟩) (q' + 1) cap) (stk (rs (t0 :: s)))) := Lib.hid hS.out
                  clear hNS hS hSS
                  go_wp2
                  go_roundg (n - (i + 1))
                  case rel => exact ⟨i + 1, m2, t0 :: s, by omega, hm2, by rw [← HN2.out]; exact HO.out, rfl, by first | rw [HMQ.out] | (rw [← HMQ.out]; go_num), by go_num, HS9, by rw [← HN2.out]; exact HD2, HBS2, HG2⟩
                  case measure => have := HGK.out; omega
    · obtain rfl : i = n := by omega
      have hd : (kidsOf ts).drop i = [] := List.drop_eq_nil_of_le (by rw [kidsOf_len, ← HN.out]; exact Nat.le_refl _)
      have HF : Hid (depI (kidsOf ts) = (m : Int)) := Lib.hid (by
        have hD' := hD.out
        rw [hd, depP_nil] at hD'
        by_cases ho : o = []
        · rw [if_pos ho] at hD'; exact depI_some hD'
        · rw [if_neg ho] at hD'
          rcases depP_none _ _ _ hD' with h1 | ⟨j, hj, h1⟩
          · rw [show tot [] = 0 from rfl, endW_zero] at h1; cases h1
          · exact absurd h1 (hG.out j (by rw [kidsOf_len, ← HN.out] at hj; exact hj)))
      have HBW := Lib.hid hI.out.below
      clear hd hD hG hI HND hBD
      go_wp2
      go_ret
      exact ⟨by rw [HF.out]; rfl, HBW.out⟩

theorem rdepth_any (ts : List Nd) (v : Value) (w : World) (h : Nds w v ts) (hl : ts.length ≤ 2100) :
    Calls Try.prog 22 #[v] w fun e w' => e = .returned (.int .i64 (depI (kidsOf ts))) ∧ Below w.heap.size w w' := by
  obtain ⟨p, c, rfl, -⟩ := id h
  exact rdepth_nat ts p _ c w rfl h hl

end Go.Proofs.Ytcfgngaabledpaa.Tr
