/- The walk of lex.Text: its contract. No condition but those that each states. -/
import Derived.Test.YtcfmjnhagpmnpaaDoorLxRT
namespace Go.Proofs.YtcfmjnhagpmnpaaDoor.Lx
open Go.RowKit Dk

theorem join_eq : ∀ xs : List (List UInt8), joinL xs = Lib.join xs [32]
  | [] => rfl
  | [x] => by rw [Lib.join_one]; rfl
  | x :: y :: r => by
    have ih := join_eq (y :: r)
    show x ++ 32 :: joinL (y :: r) = _
    rw [ih]
    unfold Lib.join
    simp [List.intercalate]

theorem s_info3 : (Tryd.prog.info? 9).map (fun i => (i.zero, i.size, i.bytes)) = some (some (.string ⟨#[]⟩), 1, 16) := by kernel_rfl

/-- The row of texts, the first i written. -/
def txtRow (ts : List Tk) (i m : Nat) : Value := .string (strOf (if m < i then written (ts.getD m Tk.zero) else []))
theorem txtRow_step (ts : List Tk) (i : Nat) (t : Tk) (h : ts[i]? = some t) (m : Nat) : (if m = i then Value.string (strOf (written t)) else txtRow ts i m) = txtRow ts (i + 1) m := by
  unfold txtRow
  by_cases hm : m = i
  · subst hm
    rw [if_pos rfl, if_pos (Nat.lt_succ_self _), List.getD_eq_getElem?_getD, h]; rfl
  · rw [if_neg hm]
    by_cases hl : m < i
    · rw [if_pos hl, if_pos (by omega)]
    · rw [if_neg hl, if_neg (by omega)]
theorem txtRow_twice (ts : List Tk) (i : Nat) (v u : Value) (m : Nat) : (if m = i then v else if m = i then u else txtRow ts i m) = if m = i then v else txtRow ts i m := by
  by_cases hm : m = i
  · rw [if_pos hm, if_pos hm]
  · rw [if_neg hm, if_neg hm, if_neg hm]

theorem TB.at {W : World} {B : Nat} {t : Tk} (h : TB W B t) (j : Nat) (v : Value) (hv : t.cells[j]? = some v) : W.cell? ⟨B, j, none⟩ = some v := by
  have := h.cells j v hv
  rwa [Nat.zero_add] at this
theorem cell_other {W : World} {b b' o o' : Nat} (h : b ≠ b') {u : Value} (hc : W.cell? ⟨b, o, none⟩ = some u) (v : Value) : (W.setCell ⟨b', o', none⟩ v).cell? ⟨b, o, none⟩ = some u := by
  rw [World.cell?_setCell_other _ _ _ _ (by intro e; have e1 := congrArg Addr.block e; first | exact h e1 | exact h e1.symm)]
  exact hc

set_option maxHeartbeats 4000000 in
set_option maxRecDepth 100000 in
theorem text_some (g o cp : Nat) (ts : List Tk) (w : World) (hx : w.rangeAt g o (tcells ts)) (hg : g < w.heap.size) (hl : ts.length ≤ 10000) (hw : ∀ t ∈ ts, t.text.length ≤ 2 ^ 30) (hj : (writeL ts).length ≤ 2 ^ 40) :
    Calls Tryd.prog 14 #[.slice (some ⟨g, o, none⟩) ts.length cp] w fun e w' => e = .returned (.string (strOf (writeL ts))) ∧ Below w.heap.size w w' := by
  have HX : Hid (∀ W, Below w.heap.size w W → W.rangeAt g o (tcells ts)) := Lib.hid (fun W hb => rangeAt_block hx (hb.block g hg))
  have HWR := Lib.hid hw
  have HJ : Hid (∀ W, w.heap.size < W.heap.size → W.rowIs w.heap.size 9 ts.length (txtRow ts ts.length) → Calls Tryd.prog 26 #[.slice (some ⟨w.heap.size, 0, none⟩) ts.length ts.length, .string ⟨#[32]⟩] W fun e w' => e = .returned (.string (strOf (writeL ts))) ∧ Below W.heap.size W w') := Lib.hid (fun W hW hr => by
    have hlen : (ts.map (fun t => strOf (written t))).length = ts.length := List.length_map _
    have hmap : (ts.map (fun t => strOf (written t))).map (·.data.toList) = ts.map written := by rw [List.map_map]; exact List.map_congr_left (fun t _ => strOf_toList _)
    have := strings_Join w.heap.size 0 ts.length (ts.map (fun t => strOf (written t))) ⟨#[32]⟩ W (fun j x hx => by
      rw [Nat.zero_add]
      obtain ⟨hj, e⟩ := List.getElem?_eq_some_iff.1 hx
      rw [hlen] at hj
      rw [hr.cell hj]
      unfold txtRow
      rw [if_pos hj, ← e, List.getD_eq_getElem?_getD, List.getElem?_eq_getElem hj, List.getElem_map]
      rfl) hW (by omega) (by omega) (by rw [hmap, show (⟨#[32]⟩ : ByteArray).data.toList = [32] from rfl, ← join_eq]; exact Nat.le_trans hj (by decide))
    rw [hlen, hmap, show (⟨#[32]⟩ : ByteArray).data.toList = [32] from rfl, ← join_eq] at this
    exact this)
  obtain ⟨n, hn⟩ : ∃ n, n = ts.length := ⟨_, rfl⟩
  rw [← hn] at HJ hl ⊢
  have HN := Lib.hid hn
  have hmk := fun w : World => run_make_row' (P := Tryd.prog) 38 9 (.string ⟨#[]⟩) 16 Tryd.underlying38 s_info3 rfl .i64 .i64 n (by omega) (by omega) w
  clear hx hg hw hj hn
  go_enter Tryd.func14, Tryd.ntmps14
  go_wp2
  clear hmk
  go_loopw [11] (fun vi wr => ∃ i : Nat, i ≤ n ∧ vi = .int .i64 (i : Int) ∧ Hid (wr.rowIs w.heap.size 9 n (txtRow ts i)) ∧ Hid (Below w.heap.size w wr ∧ w.heap.size < wr.heap.size)) (fun vi _ => n - (intOf vi).toNat)
  case atStart => exact ⟨0, Nat.zero_le _, rfl, Lib.hid ((World.rowIs_made w _ _ _).congr (fun m _ => by unfold txtRow; rw [if_neg (Nat.not_lt_zero _)]; rfl)), Lib.hid ⟨(Below.refl _ _).alloc (Nat.le_refl _) _, by simp⟩⟩
  case round =>
    obtain ⟨i, hi, rfl, hrow, hI⟩ := hrel
    by_cases hlt : i < n
    · have z0 : (0 : Int) ≤ (i : Int) := by omega
      have z1 : (i : Int) < (n : Int) := by omega
      have hil : i < ts.length := by rw [← HN.out]; exact hlt
      obtain ⟨t, ht⟩ : ∃ t, t = ts[i] := ⟨_, rfl⟩
      have HTT := Lib.hid (show ts[i]? = some t by rw [ht, List.getElem?_eq_getElem hil])
      have HTX := Lib.hid (HWR.out t (by rw [ht]; exact List.getElem_mem hil))
      have HR1 : Hid (wr.rangeAt g (o + i * 4) t.cells) := Lib.hid (by
        intro j v hv
        have hj : j < 4 := (List.getElem?_eq_some_iff.1 hv).1
        have := HX.out wr hI.out.1 (i * 4 + j) v (by rw [tcells_at hil j hj, ← ht]; exact hv)
        rwa [← Nat.add_assoc] at this)
      have HTI := Lib.hid (t_info t)
      have HZ := Lib.hid (tb_zero wr)
      have HP := Lib.hid (tb_put wr t)
      have HROW : Hid (∀ W, Below wr.heap.size wr W → W.rowIs w.heap.size 9 n (txtRow ts i)) := Lib.hid (fun W hb => hrow.out.of_block (hb.block _ hI.out.2))
      have hne : w.heap.size ≠ wr.heap.size := by have := hI.out.2; omega
      clear ht hil
      have HQ := Lib.hid (fun W => quote_any t.text W (by have := HTX.out; omega))
      by_cases hk : t.kind = 3
      · have hwt : Hid (written t = quoteL t.text) := Lib.hid (by unfold written; rw [if_pos hk])
        have v1 : (t.kind == 3) = true := by simpa using hk
        clear hk
        go_wp2_with (first
          | (refine wpList_load_mid rfl 29 (.tmp 14) rfl g (o + i * 4) rfl t.cells _ HR1.out Tryd.underlying29 rfl HTI.out ?_)
          | (refine wpList_store_mid rfl 29 (.tmp 5) (.tmp 15) rfl wr.heap.size 0 t.cells.toArray rfl rfl HZ.out.room (t_infoA t) (t_all t) ?_; generalize World.setCells _ _ _ _ = W3 at HP ⊢; have HP3 := Lib.hid HP.out; clear HP; have c1 : W3.cell? ⟨wr.heap.size, 1, none⟩ = some (.string (strOf t.text)) := HP3.out.1.at 1 _ rfl; have HR3 := Lib.hid (HROW.out W3 HP3.out.2); have hfz : W3.frozen? ⟨w.heap.size, i, none⟩ = false := HR3.out.frozen _; have hcl : W3.cell? ⟨w.heap.size, i, none⟩ = some (txtRow ts i i) := HR3.out.cell hlt; have k0 : ∀ v, (W3.setCell ⟨w.heap.size, i, none⟩ v).cell? ⟨wr.heap.size, 0, none⟩ = some (.int .i64 t.kind) := cell_other (Ne.symm hne) (HP3.out.1.at 0 _ rfl); have k1 : ∀ v, (W3.setCell ⟨w.heap.size, i, none⟩ v).cell? ⟨wr.heap.size, 1, none⟩ = some (.string (strOf t.text)) := cell_other (Ne.symm hne) c1)
          | (go_at_call 16; refine (HQ.out _).mono ?_; rintro e W5 ⟨rfl, hb5⟩; have HR5 := Lib.hid ((HR3.out.set i (.string (strOf t.text))).of_block (hb5.block _ (by simp; have := HP3.out.2.size; have := hI.out.2; omega))); have hfz5 : W5.frozen? ⟨w.heap.size, i, none⟩ = false := HR5.out.frozen _; have hcl5 := HR5.out.cell hlt; have HB5 : Hid (Below w.heap.size w W5 ∧ w.heap.size < W5.heap.size) := Lib.hid ⟨(chain2 (chain2 hI.out.1 HP3.out.2 |>.setCell (by simp) (.string (strOf t.text))) hb5), (by have := hb5.size; simp at this; have := HP3.out.2.size; have := hI.out.2; omega)⟩; clear hb5))
        go_roundw
        case rel => exact ⟨i + 1, by omega, by go_num, Lib.hid ((HR5.out.set i (.string (strOf (quoteL t.text)))).congr (fun m _ => by rw [txtRow_twice, ← hwt.out]; exact txtRow_step ts i t HTT.out m)), Lib.hid ⟨HB5.out.1.setCell (by simp) _, by simp; exact HB5.out.2⟩⟩
        case measure => simp [intOf]; omega
      · have hwt : Hid (written t = t.text) := Lib.hid (by unfold written; rw [if_neg hk])
        have v1 : (t.kind == 3) = false := by simpa using hk
        clear hk
        go_wp2_with (first
          | (refine wpList_load_mid rfl 29 (.tmp 14) rfl g (o + i * 4) rfl t.cells _ HR1.out Tryd.underlying29 rfl HTI.out ?_)
          | (refine wpList_store_mid rfl 29 (.tmp 5) (.tmp 15) rfl wr.heap.size 0 t.cells.toArray rfl rfl HZ.out.room (t_infoA t) (t_all t) ?_; generalize World.setCells _ _ _ _ = W3 at HP ⊢; have HP3 := Lib.hid HP.out; clear HP; have c1 : W3.cell? ⟨wr.heap.size, 1, none⟩ = some (.string (strOf t.text)) := HP3.out.1.at 1 _ rfl; have HR3 := Lib.hid (HROW.out W3 HP3.out.2); have hfz : W3.frozen? ⟨w.heap.size, i, none⟩ = false := HR3.out.frozen _; have hcl : W3.cell? ⟨w.heap.size, i, none⟩ = some (txtRow ts i i) := HR3.out.cell hlt; have k0 : ∀ v, (W3.setCell ⟨w.heap.size, i, none⟩ v).cell? ⟨wr.heap.size, 0, none⟩ = some (.int .i64 t.kind) := cell_other (Ne.symm hne) (HP3.out.1.at 0 _ rfl); have k1 : ∀ v, (W3.setCell ⟨w.heap.size, i, none⟩ v).cell? ⟨wr.heap.size, 1, none⟩ = some (.string (strOf t.text)) := cell_other (Ne.symm hne) c1))
        go_roundw
        case rel => exact ⟨i + 1, by omega, by go_num, Lib.hid ((HR3.out.set i (.string (strOf t.text))).congr (fun m _ => by rw [← hwt.out]; exact txtRow_step ts i t HTT.out m)), Lib.hid ⟨(chain2 hI.out.1 HP3.out.2).setCell (by simp) _, by simp; have := HP3.out.2.size; have := hI.out.2; omega⟩⟩
        case measure => simp [intOf]; omega
    · obtain rfl : i = n := by omega
      go_wp2_with fail
      refine (HJ.out wr hI.out.2 hrow.out).mono ?_
      rintro e w5 ⟨rfl, hb5⟩
      have HB := Lib.hid (chain2 hI.out.1 hb5)
      clear hb5
      go_wp2
      go_ret
      exact ⟨rfl, HB.out⟩

set_option maxHeartbeats 400000 in
theorem text_nil (p : Option Addr) (cp : Nat) (w : World) :
    Calls Tryd.prog 14 #[.slice p 0 cp] w fun e w' => e = .returned (.string (strOf (writeL []))) ∧ Below w.heap.size w w' := by
  have hmk : ∀ w : World, (Instr.makeSlice 38 (.int .i64 0) (.int .i64 0)).run Tryd.prog w = .ok (.slice (some ⟨w.heap.size, 0, none⟩) 0 0) (w.alloc (.cells (madeCells #[.string ⟨#[]⟩] 0) 9)) := fun w => run_make_row' (P := Tryd.prog) 38 9 (.string ⟨#[]⟩) 16 Tryd.underlying38 s_info3 rfl .i64 .i64 0 (by omega) (by omega) w
  go_enter Tryd.func14, Tryd.ntmps14
  go_wp2
  clear hmk
  go_loopw [11] (fun vi wr => vi = .int .i64 0 ∧ Hid (Below w.heap.size w wr)) (fun _ _ => 0)
  case atStart => exact ⟨rfl, Lib.hid ((Below.refl _ _).alloc (Nat.le_refl _) _)⟩
  case round =>
    obtain ⟨rfl, hb⟩ := hrel
    go_wp2_with fail
    refine (strings_Join_none _ _ _ _).mono ?_
    rintro e w5 ⟨rfl, rfl⟩
    go_wp2
    go_ret
    exact ⟨rfl, hb.out⟩

theorem text_any (v : Value) (ts : List Tk) (w : World) (hx : Toks w v ts) (hl : ts.length ≤ 10000) (hw : ∀ t ∈ ts, t.text.length ≤ 2 ^ 30) (hj : (writeL ts).length ≤ 2 ^ 40) :
    Calls Tryd.prog 14 #[v] w fun e w' => e = .returned (.string (strOf (writeL ts))) ∧ Below w.heap.size w w' := by
  obtain ⟨p, c, rfl, -, rfl | ⟨g, o, rfl, hg, hr⟩⟩ := hx
  · exact text_nil p c w
  · exact text_some g o c ts w hr hg hl hw hj

/-! how long texts are -/
theorem flat_ge : ∀ l : List UInt8, l.length ≤ (l.flatMap escL).length
  | [] => Nat.le_refl _
  | c :: r => by
    have := flat_ge r
    have h1 : 1 ≤ (escL c).length := by
      unfold escL
      split
      · decide
      · split <;> simp
    rw [List.flatMap_cons, List.length_append, List.length_cons]; omega
theorem text_le (t : Tk) : t.text.length ≤ (written t).length := by
  unfold written
  split
  · rw [quoteL_length]; have := flat_ge t.text; omega
  · exact Nat.le_refl _
theorem mem_join : ∀ (xs : List (List UInt8)) x, x ∈ xs → x.length ≤ (joinL xs).length
  | [], _, h => by cases h
  | [y], x, h => by
    rw [List.mem_singleton] at h
    subst h; exact Nat.le_refl _
  | y :: z :: r, x, h => by
    show x.length ≤ (y ++ 32 :: joinL (z :: r)).length
    rw [List.length_append, List.length_cons]
    rcases List.mem_cons.1 h with rfl | h
    · omega
    · have := mem_join (z :: r) x h; omega

end Go.Proofs.YtcfmjnhagpmnpaaDoor.Lx
