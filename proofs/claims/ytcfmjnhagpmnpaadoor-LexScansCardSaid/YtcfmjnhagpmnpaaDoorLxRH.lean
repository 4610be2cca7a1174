/- The walk of chrysalisref08.Scan: its contract. No condition but those that each states. -/
import Derived.Test.YtcfmjnhagpmnpaaDoorLxRG
namespace Go.Proofs.YtcfmjnhagpmnpaaDoor.Lx
open Go.RowKit Dk

set_option maxHeartbeats 4000000 in
set_option maxRecDepth 100000 in
theorem rscan_small (s : ByteArray) (w : World) (hs : s.size ≤ 8192) :
    Calls Tryd.prog 12 #[.string s] w fun x w' => ScanOk w w' x s.data.toList := by
  have hsl : s.data.toList.length = s.size := by simp
  have HSL := Lib.hid hsl
  have SK : Hid (∀ (a : Nat) W, a ≤ s.size → Calls Tryd.prog 24 #[.string s, .int .i64 (a : Int)] W fun e w' => e = .returned (.int .i64 ((a + skipN false (from' s a) : Nat) : Int)) ∧ W = w') := Lib.hid (fun a W ha => rskip_any s a W ha (by omega))
  have HT1 := Lib.hid (TR.first w)
  have hk0 := skipN_le false (from' s 0)
  rw [from_length] at hk0
  have HS0 : Hid (scanL 0 s.data.toList = (scanAt (0 + skipN false (from' s 0)) (from' s (0 + skipN false (from' s 0)))).pre []) := Lib.hid (by
    rw [pre_nil, scanL_at]; simp [from'])
  have C0 := Lib.hid (fun W => SK.out 0 W (Nat.zero_le _))
  obtain ⟨a0, ha0⟩ : ∃ a0, a0 = 0 + skipN false (from' s 0) := ⟨_, rfl⟩
  rw [← ha0] at HS0 C0
  have hle0 : a0 ≤ s.size := by omega
  obtain ⟨i0, hi0, hy0, hy1, hy2⟩ := info_parts t_info3
  clear hsl ha0 hk0
  go_enter Tryd.func12, Tryd.ntmps12
  go_wp2_with (go_at_call 24; refine (C0.out _).mono ?_; rintro e w' ⟨rfl, rfl⟩)
  go_loopw [5, 6] (fun vl vat wr => ∃ (ts : List Tk) (a : Nat), a ≤ s.size ∧ ts.length ≤ a ∧ vat = .int .i64 (a : Int) ∧ Hid (TR w wr vl ts) ∧ Hid (scanL 0 s.data.toList = (scanAt a (from' s a)).pre ts)) (fun _ vat _ => s.size - (intOf vat).toNat)
  case atStart => exact ⟨[], a0, hle0, Nat.zero_le _, rfl, HT1, HS0⟩
  case round =>
    clear HT1 HS0 C0 hle0
    obtain ⟨ts, a, ha, hts, rfl, hT, hS⟩ := hrel
    by_cases hlt : a < s.size
    · obtain ⟨c, r, hl⟩ : ∃ c r, from' s a = c :: r := by
        cases h : from' s a with
        | nil => have := from_length s a; rw [h] at this; simp at this; omega
        | cons c r => exact ⟨c, r, rfl⟩
      have hS' := hS.out
      rw [hl] at hS'
      have NX := Lib.hid (rone_any s a c r wr hl (by omega))
      cases ho : oneL (c :: r) with
      | bad e =>
        rw [ho] at NX
        simp only [oneR, tkOf, lenOf, errOf] at NX
        rw [scanAt_bad ho] at hS'
        have HS := Lib.hid hS'
        have he := oneL_bad _ _ ho
        have hz : ((e : Int) != 0) = true := by rw [bne_iff_ne]; omega
        clear ho hS hS' hl he
        go_wp2_with fail
        refine NX.out.mono ?_
        rintro x W2 ⟨rfl, hb2⟩
        have HT2 := Lib.hid (hT.out.later hb2)
        have HZ := Lib.hid (tb_zero W2)
        have HP := Lib.hid (tb_put W2 Tk.zero)
        clear hb2 hT NX
        go_wp2_with (refine wpList_store_mid rfl 29 (.tmp 7) (.tmp 23) rfl W2.heap.size 0 Tk.zero.cells.toArray rfl rfl HZ.out.room (t_infoA _) (t_all _) ?_; generalize World.setCells _ _ _ _ = W3 at HP ⊢; have HT3 := Lib.hid (HT2.out.later HP.out.2); have HP3 := Lib.hid HP.out; clear HP)
        refine bodyPost_ret (results_tmp3' rfl _ _) rfl ?_
        refine ⟨fun ts' _ h => ?_, fun e' a' _ h => ?_, fun h => absurd (by rw [HSL.out]; exact hs) h, HT3.out.below⟩
        · rw [HS.out] at h; cases h
        · rw [HS.out] at h; cases h; rfl
      | tok k t n len =>
        have hlen := oneL_len _ _ _ _ _ ho
        have hfl := from_length s a
        rw [hl] at hfl
        have hfd := from_drop s a len
        rw [hl] at hfd
        have hk1 := skipN_le false (from' s (a + len))
        rw [from_length] at hk1
        rw [scanAt_tok ho, pre_cons, hfd, scanL_at (a + len), from_drop] at hS'
        rw [ho] at NX
        simp only [oneR, tkOf, lenOf, errOf] at NX
        have e1 : IntKind.i64.wrap ((a : Int) + (len : Int)) = (a : Int) + (len : Int) := IntWalk.i64_in _ (by omega)
        obtain ⟨b, hb⟩ : ∃ b, b = a + len + skipN false (from' s (a + len)) := ⟨_, rfl⟩
        have C1 := Lib.hid (fun W => SK.out (a + len) W (by omega))
        rw [← hb] at hS' C1
        rw [Int.natCast_add a len] at C1
        have HS := Lib.hid hS'
        have hbl : b ≤ s.size ∧ a < b := by omega
        obtain ⟨hbl, hab⟩ := hbl
        clear hfd hk1 hfl hlen hS hS' ho hb hl
        generalize hE : Tk.mk k t n a = E at *
        clear hE
        have HONE := Lib.hid (t_one E)
        have HX : Hid (tcells (ts ++ [E]) = tcells ts ++ E.cells) := Lib.hid (by rw [tcells_app]; simp [tcells])
        have hbs : ∀ W, (Instr.buildSlice 23 1 #[(0, .agg E.cells.toArray)]).run Tryd.prog W = .ok (.slice (some ⟨W.heap.size, 0, none⟩) 1 1) (W.alloc (.cells E.cells.toArray 29)) :=
          fun W => run_buildSlice_one 23 29 _ 40 4 E.cells W Tryd.underlying23 t_info3 rfl rfl (by decide) (by decide)
        have HNEW : Hid (∀ (W : World) (j : Nat) (u : Value), E.cells[j]? = some u → (W.alloc (.cells E.cells.toArray 29)).cell? ((⟨W.heap.size, 0, none⟩ : Addr).add j) = some u) := Lib.hid (fun W j u hu => news_at W E.cells.toArray _ j u (by simpa using hu))
        generalize hm : ts.length = m at *
        have HM := Lib.hid hm
        clear hm
        have HI := Lib.hid (t_info E)
        have hl4 : E.cells.length = 4 := rfl
        go_wp2_with fail
        refine NX.out.mono ?_
        rintro e W2 ⟨rfl, hb2⟩
        have HT2 := Lib.hid (hT.out.later hb2)
        have HZ := Lib.hid (tb_zero W2)
        have HP := Lib.hid (tb_put W2 E)
        clear hb2 hT NX
        go_wp2_with (first
          | (refine wpList_store_mid rfl 29 (.tmp 7) (.tmp 23) rfl W2.heap.size 0 E.cells.toArray rfl rfl HZ.out.room (t_infoA E) (t_all E) ?_; generalize World.setCells _ _ _ _ = W3 at HP ⊢; have HT3 := Lib.hid (HT2.out.later HP.out.2); have HP3 := Lib.hid HP.out; clear HP)
          | (refine wpList_load_mid rfl 29 (.tmp 7) rfl W2.heap.size 0 rfl E.cells _ HP3.out.1.cells Tryd.underlying29 rfl HI.out ?_)
          | (refine wpList_append_lies _ rfl (.tmp 30) (.tmp 32) 23 rfl w.heap.size 29 i0 _ 4 40 Tryd.underlying23 hi0 hy0 hy1 hy2 rfl (by decide) _ m (tcells ts) rfl (by have := HT3.out.row.alloc (.cells E.cells.toArray 29); rw [HM.out] at this; exact this) ⟨W3.heap.size, 0, none⟩ 1 1 E.cells rfl rfl (HNEW.out W3) HONE.out (by decide) (by unfold maxLen; omega) (by omega) (by have := HT3.out.below.size; simp; omega) (W3.heap.size + 1) (by simp) ?_; intro g' cap W7 hrow hgr hgl hlt7; have HT7 := Lib.hid (HT3.out.push (e := E) (g' := g') (cap := cap) (by rw [HM.out]; exact hrow) hgr); rw [HM.out] at HT7; clear HT3 hrow hgr hgl hlt7)
          | (go_at_call 24; refine (C1.out _).mono ?_; rintro e w' ⟨rfl, rfl⟩))
        go_roundw
        case rel => exact ⟨ts ++ [E], b, hbl, by rw [List.length_append, HM.out, List.length_singleton]; omega, rfl, HT7, HS⟩
        case measure => simp [intOf]; omega
    · obtain rfl : a = s.size := by omega
      have hS' := hS.out
      rw [show from' s s.size = [] from List.eq_nil_of_length_eq_zero (by rw [from_length]; omega)] at hS'
      have HS : Hid (scanL 0 s.data.toList = .toks ts) := Lib.hid (by rw [hS']; show SR.toks (ts ++ []) = _; rw [List.append_nil])
      clear hS hS'
      go_wp2
      refine bodyPost_ret (results_tmp3' rfl _ _) rfl ?_
      refine ⟨fun ts' _ h => ?_, fun e' a' _ h => ?_, fun h => absurd (by rw [HSL.out]; exact hs) h, hT.out.below⟩
      · rw [HS.out] at h; cases h; exact ⟨_, rfl, hT.out⟩
      · rw [HS.out] at h; cases h

set_option maxHeartbeats 400000 in
theorem rscan_big (s : ByteArray) (w : World) (hs : ¬s.size ≤ 8192) : Calls Tryd.prog 12 #[.string s] w fun x w' => ScanOk w w' x s.data.toList := by
  have hsl : s.data.toList.length = s.size := by simp
  have hn : ¬s.data.toList.length ≤ 8192 := by omega
  have h1 : (s.size : Int) > 8192 := by omega
  have HN := Lib.hid hn
  clear hsl hn hs
  go_enter Tryd.func12, Tryd.ntmps12
  go_wp2
  refine bodyPost_ret (results_tmp3' rfl _ _) rfl ?_
  exact ⟨fun _ h _ => absurd h HN.out, fun _ _ h _ => absurd h HN.out, fun _ => rfl, Below.refl _ _⟩

theorem rscan_any (s : ByteArray) (w : World) : Calls Tryd.prog 12 #[.string s] w fun x w' => ScanOk w w' x s.data.toList := by
  by_cases h : s.size ≤ 8192
  · exact rscan_small s w h
  · exact rscan_big s w h

end Go.Proofs.YtcfmjnhagpmnpaaDoor.Lx
