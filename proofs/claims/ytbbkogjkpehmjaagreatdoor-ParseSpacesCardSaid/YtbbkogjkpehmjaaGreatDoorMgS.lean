/- The walk of lex.Text: its contract. The walk of the law ParseSpaces. The walk of the law ParseSpaces. No condition but those that each states. -/
import Derived.Test.YtbbkogjkpehmjaaGreatDoorMgR
import Derived.Test.YtbbkogjkpehmjaaGreatDoorPdJ
namespace Go.Proofs.YtbbkogjkpehmjaaGreatDoor.Lx
open Go.RowKit Dk

theorem join_eq : ∀ xs : List (List UInt8), joinL xs = Lib.join xs [32]
  | [] => rfl
  | [x] => by rw [Lib.join_one]; rfl
  | x :: y :: r => by
    have ih := join_eq (y :: r)
    show x ++ 32 :: joinL (y :: r) = _
    rw [ih]
    unfold Lib.join
    simp [List.intercalate]

theorem s_info3 : (Tryz.prog.info? 9).map (fun i => (i.zero, i.size, i.bytes)) = some (some (.string ⟨#[]⟩), 1, 16) := by kernel_rfl

/-- The row of texts, the first i written. -/
def txtRow (ts : List Tk) (i m : Nat) : Value := .string (strOf (if m < i then written (ts.getD m Tk.zero) else []))
theorem txtRow_step (ts : List Tk) (i : Nat) (t : Tk) (h : ts[i]? = some t) (m : Nat) : (if m = i then Value.string (strOf (written t)) else txtRow ts i m) = txtRow ts (i + 1) m := by
  unfold txtRow
  by_cases hm : m = i
  · subst hm
    rw [if_pos rfl, if_pos (Nat.lt_succ_self _), List.getD_eq_getElem?_getD, h]; rfl
  · rw [if_neg hm]
    by_cases hl : m < i
    · rw [if_pos hl, if_pos (by omega)]
    · rw [if_neg hl, if_neg (by omega)]
theorem txtRow_twice (ts : List Tk) (i : Nat) (v u : Value) (m : Nat) : (if m = i then v else if m = i then u else txtRow ts i m) = if m = i then v else txtRow ts i m := by
  by_cases hm : m = i
  · rw [if_pos hm, if_pos hm]
  · rw [if_neg hm, if_neg hm, if_neg hm]

theorem TB.at {W : World} {B : Nat} {t : Tk} (h : TB W B t) (j : Nat) (v : Value) (hv : t.cells[j]? = some v) : W.cell? ⟨B, j, none⟩ = some v := by
  have := h.cells j v hv
  rwa [Nat.zero_add] at this
theorem cell_other {W : World} {b b' o o' : Nat} (h : b ≠ b') {u : Value} (hc : W.cell? ⟨b, o, none⟩ = some u) (v : Value) : (W.setCell ⟨b', o', none⟩ v).cell? ⟨b, o, none⟩ = some u := by
  rw [World.cell?_setCell_other _ _ _ _ (by intro e; have e1 := congrArg Addr.block e; first | exact h e1 | exact h e1.symm)]
  exact hc

set_option maxHeartbeats 4000000 in
set_option maxRecDepth 100000 in
theorem text_some (g o cp : Nat) (ts : List Tk) (w : World) (hx : w.rangeAt g o (tcells ts)) (hg : g < w.heap.size) (hl : ts.length ≤ 10000) (hw : ∀ t ∈ ts, t.text.length ≤ 2 ^ 30) (hj : (writeL ts).length ≤ 2 ^ 40) :
    Calls Tryz.prog 20 #[.slice (some ⟨g, o, none⟩) ts.length cp] w fun e w' => e = .returned (.string (strOf (writeL ts))) ∧ Below w.heap.size w w' := by
  have HX : Hid (∀ W, Below w.heap.size w W → W.rangeAt g o (tcells ts)) := Lib.hid (fun W hb => rangeAt_block hx (hb.block g hg))
  have HWR := Lib.hid hw
  have HJ : Hid (∀ W, w.heap.size < W.heap.size → W.rowIs w.heap.size 9 ts.length (txtRow ts ts.length) → Calls Tryz.prog 39 #[.slice (some ⟨w.heap.size, 0, none⟩) ts.length ts.length, .string ⟨#[32]⟩] W fun e w' => e = .returned (.string (strOf (writeL ts))) ∧ Below W.heap.size W w') := Lib.hid (fun W hW hr => by
    have hlen : (ts.map (fun t => strOf (written t))).length = ts.length := List.length_map _
    have hmap : (ts.map (fun t => strOf (written t))).map (·.data.toList) = ts.map written := by rw [List.map_map]; exact List.map_congr_left (fun t _ => strOf_toList _)
    have := strings_Join w.heap.size 0 ts.length (ts.map (fun t => strOf (written t))) ⟨#[32]⟩ W (fun j x hx => by
      rw [Nat.zero_add]
      obtain ⟨hj, e⟩ := List.getElem?_eq_some_iff.1 hx
      rw [hlen] at hj
      rw [hr.cell hj]
      unfold txtRow
      rw [if_pos hj, ← e, List.getD_eq_getElem?_getD, List.getElem?_eq_getElem hj, List.getElem_map]
      rfl) hW (by omega) (by omega) (by rw [hmap, show (⟨#[32]⟩ : ByteArray).data.toList = [32] from rfl, ← join_eq]; exact Nat.le_trans hj (by decide))
    rw [hlen, hmap, show (⟨#[32]⟩ : ByteArray).data.toList = [32] from rfl, ← join_eq] at this
    exact this)
  obtain ⟨n, hn⟩ : ∃ n, n = ts.length := ⟨_, rfl⟩
  rw [← hn] at HJ hl ⊢
  have HN := Lib.hid hn
  have hmk := fun w : World => run_make_row' (P := Tryz.prog) 63 9 (.string ⟨#[]⟩) 16 Tryz.underlying63 s_info3 rfl .i64 .i64 n (by omega) (by omega) w
  clear hx hg hw hj hn
  go_enter Tryz.func20, Tryz.ntmps20
  go_wp2
  clear hmk
  go_loopw [11] (fun vi wr => ∃ i : Nat, i ≤ n ∧ vi = .int .i64 (i : Int) ∧ Hid (wr.rowIs w.heap.size 9 n (txtRow ts i)) ∧ Hid (Below w.heap.size w wr ∧ w.heap.size < wr.heap.size)) (fun vi _ => n - (intOf vi).toNat)
  case atStart => exact ⟨0, Nat.zero_le _, rfl, Lib.hid ((World.rowIs_made w _ _ _).congr (fun m _ => by unfold txtRow; rw [if_neg (Nat.not_lt_zero _)]; rfl)), Lib.hid ⟨(Below.refl _ _).alloc (Nat.le_refl _) _, by simp⟩⟩
  case round =>
    obtain ⟨i, hi, rfl, hrow, hI⟩ := hrel
    by_cases hlt : i < n
    · have z0 : (0 : Int) ≤ (i : Int) := by omega
      have z1 : (i : Int) < (n : Int) := by omega
      have hil : i < ts.length := by rw [← HN.out]; exact hlt
      obtain ⟨t, ht⟩ : ∃ t, t = ts[i] := ⟨_, rfl⟩
      have HTT := Lib.hid (show ts[i]? = some t by rw [ht, List.getElem?_eq_getElem hil])
      have HTX := Lib.hid (HWR.out t (by rw [ht]; exact List.getElem_mem hil))
      have HR1 : Hid (wr.rangeAt g (o + i * 4) t.cells) := Lib.hid (by
        intro j v hv
        have hj : j < 4 := (List.getElem?_eq_some_iff.1 hv).1
        have := HX.out wr hI.out.1 (i * 4 + j) v (by rw [tcells_at hil j hj, ← ht]; exact hv)
        rwa [← Nat.add_assoc] at this)
      have HTI := Lib.hid (t_info t)
      have HZ := Lib.hid (tb_zero wr)
      have HP := Lib.hid (tb_put wr t)
      have HROW : Hid (∀ W, Below wr.heap.size wr W → W.rowIs w.heap.size 9 n (txtRow ts i)) := Lib.hid (fun W hb => hrow.out.of_block (hb.block _ hI.out.2))
      have hne : w.heap.size ≠ wr.heap.size := by have := hI.out.2; omega
      clear ht hil
      have HQ := Lib.hid (fun W => quote_any t.text W (by have := HTX.out; omega))
      by_cases hk : t.kind = 3
      · have hwt : Hid (written t = quoteL t.text) := Lib.hid (by unfold written; rw [if_pos hk])
        have v1 : (t.kind == 3) = true := by simpa using hk
        clear hk
        go_wp2_with (first
          | (refine wpList_load_mid rfl 40 (.tmp 14) rfl g (o + i * 4) rfl t.cells _ HR1.out Tryz.underlying40 rfl HTI.out ?_)
          | (refine wpList_store_mid rfl 40 (.tmp 5) (.tmp 15) rfl wr.heap.size 0 t.cells.toArray rfl rfl HZ.out.room (t_infoA t) (t_all t) ?_; generalize World.setCells _ _ _ _ = W3 at HP ⊢; have HP3 := Lib.hid HP.out; clear HP; have c1 : W3.cell? ⟨wr.heap.size, 1, none⟩ = some (.string (strOf t.text)) := HP3.out.1.at 1 _ rfl; have HR3 := Lib.hid (HROW.out W3 HP3.out.2); have hfz : W3.frozen? ⟨w.heap.size, i, none⟩ = false := HR3.out.frozen _; have hcl : W3.cell? ⟨w.heap.size, i, none⟩ = some (txtRow ts i i) := HR3.out.cell hlt; have k0 : ∀ v, (W3.setCell ⟨w.heap.size, i, none⟩ v).cell? ⟨wr.heap.size, 0, none⟩ = some (.int .i64 t.kind) := cell_other (Ne.symm hne) (HP3.out.1.at 0 _ rfl); have k1 : ∀ v, (W3.setCell ⟨w.heap.size, i, none⟩ v).cell? ⟨wr.heap.size, 1, none⟩ = some (.string (strOf t.text)) := cell_other (Ne.symm hne) c1)
          | (go_at_call 38; refine (HQ.out _).mono ?_; rintro e W5 ⟨rfl, hb5⟩; have HR5 := Lib.hid ((HR3.out.set i (.string (strOf t.text))).of_block (hb5.block _ (by simp; have := HP3.out.2.size; have := hI.out.2; omega))); have hfz5 : W5.frozen? ⟨w.heap.size, i, none⟩ = false := HR5.out.frozen _; have hcl5 := HR5.out.cell hlt; have HB5 : Hid (Below w.heap.size w W5 ∧ w.heap.size < W5.heap.size) := Lib.hid ⟨(chain2 (chain2 hI.out.1 HP3.out.2 |>.setCell (by simp) (.string (strOf t.text))) hb5), (by have := hb5.size; simp at this; have := HP3.out.2.size; have := hI.out.2; omega)⟩; clear hb5))
        go_roundw
        case rel => exact ⟨i + 1, by omega, by go_num, Lib.hid ((HR5.out.set i (.string (strOf (quoteL t.text)))).congr (fun m _ => by rw [txtRow_twice, ← hwt.out]; exact txtRow_step ts i t HTT.out m)), Lib.hid ⟨HB5.out.1.setCell (by simp) _, by simp; exact HB5.out.2⟩⟩
        case measure => simp [intOf]; omega
      · have hwt : Hid (written t = t.text) := Lib.hid (by unfold written; rw [if_neg hk])
        have v1 : (t.kind == 3) = false := by simpa using hk
        clear hk
        go_wp2_with (first
          | (refine wpList_load_mid rfl 40 (.tmp 14) rfl g (o + i * 4) rfl t.cells _ HR1.out Tryz.underlying40 rfl HTI.out ?_)
          | (refine wpList_store_mid rfl 40 (.tmp 5) (.tmp 15) rfl wr.heap.size 0 t.cells.toArray rfl rfl HZ.out.room (t_infoA t) (t_all t) ?_; generalize World.setCells _ _ _ _ = W3 at HP ⊢; have HP3 := Lib.hid HP.out; clear HP; have c1 : W3.cell? ⟨wr.heap.size, 1, none⟩ = some (.string (strOf t.text)) := HP3.out.1.at 1 _ rfl; have HR3 := Lib.hid (HROW.out W3 HP3.out.2); have hfz : W3.frozen? ⟨w.heap.size, i, none⟩ = false := HR3.out.frozen _; have hcl : W3.cell? ⟨w.heap.size, i, none⟩ = some (txtRow ts i i) := HR3.out.cell hlt; have k0 : ∀ v, (W3.setCell ⟨w.heap.size, i, none⟩ v).cell? ⟨wr.heap.size, 0, none⟩ = some (.int .i64 t.kind) := cell_other (Ne.symm hne) (HP3.out.1.at 0 _ rfl); have k1 : ∀ v, (W3.setCell ⟨w.heap.size, i, none⟩ v).cell? ⟨wr.heap.size, 1, none⟩ = some (.string (strOf t.text)) := cell_other (Ne.symm hne) c1))
        go_roundw
        case rel => exact ⟨i + 1, by omega, by go_num, Lib.hid ((HR3.out.set i (.string (strOf t.text))).congr (fun m _ => by rw [← hwt.out]; exact txtRow_step ts i t HTT.out m)), Lib.hid ⟨(chain2 hI.out.1 HP3.out.2).setCell (by simp) _, by simp; have := HP3.out.2.size; have := hI.out.2; omega⟩⟩
        case measure => simp [intOf]; omega
    · obtain rfl : i = n := by omega
      go_wp2_with fail
      refine (HJ.out wr hI.out.2 hrow.out).mono ?_
      rintro e w5 ⟨rfl, hb5⟩
      have HB := Lib.hid (chain2 hI.out.1 hb5)
      clear hb5
      go_wp2
      go_ret
      exact ⟨rfl, HB.out⟩

set_option maxHeartbeats 400000 in
theorem text_nil (p : Option Addr) (cp : Nat) (w : World) :
    Calls Tryz.prog 20 #[.slice p 0 cp] w fun e w' => e = .returned (.string (strOf (writeL []))) ∧ Below w.heap.size w w' := by
  have hmk : ∀ w : World, (Instr.makeSlice 63 (.int .i64 0) (.int .i64 0)).run Tryz.prog w = .ok (.slice (some ⟨w.heap.size, 0, none⟩) 0 0) (w.alloc (.cells (madeCells #[.string ⟨#[]⟩] 0) 9)) := fun w => run_make_row' (P := Tryz.prog) 63 9 (.string ⟨#[]⟩) 16 Tryz.underlying63 s_info3 rfl .i64 .i64 0 (by omega) (by omega) w
  go_enter Tryz.func20, Tryz.ntmps20
  go_wp2
  clear hmk
  go_loopw [11] (fun vi wr => vi = .int .i64 0 ∧ Hid (Below w.heap.size w wr)) (fun _ _ => 0)
  case atStart => exact ⟨rfl, Lib.hid ((Below.refl _ _).alloc (Nat.le_refl _) _)⟩
  case round =>
    obtain ⟨rfl, hb⟩ := hrel
    go_wp2_with fail
    refine (strings_Join_none _ _ _ _).mono ?_
    rintro e w5 ⟨rfl, rfl⟩
    go_wp2
    go_ret
    exact ⟨rfl, hb.out⟩

theorem text_any (v : Value) (ts : List Tk) (w : World) (hx : Toks w v ts) (hl : ts.length ≤ 10000) (hw : ∀ t ∈ ts, t.text.length ≤ 2 ^ 30) (hj : (writeL ts).length ≤ 2 ^ 40) :
    Calls Tryz.prog 20 #[v] w fun e w' => e = .returned (.string (strOf (writeL ts))) ∧ Below w.heap.size w w' := by
  obtain ⟨p, c, rfl, -, rfl | ⟨g, o, rfl, hg, hr⟩⟩ := hx
  · exact text_nil p c w
  · exact text_some g o c ts w hr hg hl hw hj

/-! how long texts are -/
theorem flat_ge : ∀ l : List UInt8, l.length ≤ (l.flatMap escL).length
  | [] => Nat.le_refl _
  | c :: r => by
    have := flat_ge r
    have h1 : 1 ≤ (escL c).length := by
      unfold escL
      split
      · decide
      · split <;> simp
    rw [List.flatMap_cons, List.length_append, List.length_cons]; omega
theorem text_le (t : Tk) : t.text.length ≤ (written t).length := by
  unfold written
  split
  · rw [quoteL_length]; have := flat_ge t.text; omega
  · exact Nat.le_refl _
theorem mem_join : ∀ (xs : List (List UInt8)) x, x ∈ xs → x.length ≤ (joinL xs).length
  | [], _, h => by cases h
  | [y], x, h => by
    rw [List.mem_singleton] at h
    subst h; exact Nat.le_refl _
  | y :: z :: r, x, h => by
    show x.length ≤ (y ++ 32 :: joinL (z :: r)).length
    rw [List.length_append, List.length_cons]
    rcases List.mem_cons.1 h with rfl | h
    · omega
    · have := mem_join (z :: r) x h; omega

end Go.Proofs.YtbbkogjkpehmjaaGreatDoor.Lx
namespace Go.Proofs.YtbbkogjkpehmjaaGreatDoor.Pa
open Go.RowKit Go.Shelf Dk Lx Tr

/-! rows of tokens that are alike -/
theorem step_alk {L L' : List Tk} (h : ∀ i, Alk (lk L i) (lk L' i)) (hl : L.length = L'.length) (c : Cfg) : step L c = step L' c := by
  match c with
  | .bad i => rfl
  | .fin V => rfl
  | .run [] V i => show (if i = L.length then Cfg.fin V else .bad i) = (if i = L'.length then Cfg.fin V else .bad i); rw [hl]
  | .run (a :: A) V i =>
    show (match one L a V i with | some (B, V', j) => Cfg.run (B ++ A) V' j | none => .bad i) = (match one L' a V i with | some (B, V', j) => Cfg.run (B ++ A) V' j | none => .bad i)
    rcases one_alk (h i) a V with ⟨h1, h2⟩ | ⟨B, V', u, -, h1, h2⟩ <;> rw [h1, h2]
theorem iter_alk {L L' : List Tk} (h : ∀ i, Alk (lk L i) (lk L' i)) (hl : L.length = L'.length) : ∀ (n : Nat) (c : Cfg), iter L n c = iter L' n c
  | 0, c => rfl
  | n + 1, c => by show iter L n (step L c) = iter L' n (step L' c); rw [step_alk h hl, iter_alk h hl]
theorem run_alk {L L' : List Tk} (h : ∀ i, Alk (lk L i) (lk L' i)) (hl : L.length = L'.length) {t : List Nd} {s : St} (hr : ModRun L t s) : ModRun L' t s := by
  cases s with
  | ok i => obtain ⟨n, hn⟩ := hr; exact ⟨n, by rw [← iter_alk h hl]; exact hn⟩
  | bad i => obtain ⟨n, hn⟩ := hr; exact ⟨n, by rw [← iter_alk h hl]; exact hn⟩
theorem alk_of {L L' : List Tk} (h : Lx.Alike L L') : (∀ i, Alk (lk L i) (lk L' i)) ∧ L.length = L'.length := by
  have hl : L.length = L'.length := by have := congrArg List.length h; simpa using this
  refine ⟨fun i => ?_, hl⟩
  have := congrArg (fun l => l[i]?) h
  simp only [List.getElem?_map] at this
  unfold lk
  cases h1 : L[i]? with
  | none =>
    rw [h1] at this
    cases h2 : L'[i]? with
    | none => exact Alk.refl _
    | some t => rw [h2] at this; cases this
  | some t =>
    rw [h1] at this
    cases h2 : L'[i]? with
    | none => rw [h2] at this; cases this
    | some u =>
      rw [h2] at this
      simp only [Option.map_some, Option.some.injEq] at this
      unfold key3 at this
      simp only [Prod.mk.injEq] at this
      exact this

/-! what is put together of tokens and of what may stand between -/
def sepL (i : Nat) : List UInt8 := if i % 3 = 0 then [32, 9] else if i % 3 = 1 then [10] else [35, 32, 110, 111, 10]
def spc : Nat → List Tk → List UInt8
  | _, [] => []
  | i, t :: ts => Lx.written t ++ (sepL i ++ spc (i + 1) ts)
theorem spc_snoc : ∀ (ts : List Tk) (i : Nat) (t : Tk), spc i (ts ++ [t]) = spc i ts ++ Lx.written t ++ sepL (i + ts.length)
  | [], i, t => by simp [spc]
  | u :: ts, i, t => by
    rw [List.cons_append, spc, spc_snoc ts, spc, List.length_cons, show i + 1 + ts.length = i + (ts.length + 1) by omega]
    simp
theorem sep_cons (i : Nat) : ∃ d r, sepL i = d :: r ∧ Sep d ∧ skipN false (d :: r) = (d :: r).length ∧ remF false (d :: r) = false := by
  unfold sepL
  split
  · exact ⟨32, [9], rfl, sep32, by decide, by decide⟩
  · split
    · exact ⟨10, [], rfl, sep10, by decide, by decide⟩
    · exact ⟨35, [32, 110, 111, 10], rfl, sep35, by decide, by decide⟩
theorem sep_len (i : Nat) : (sepL i).length ≤ 5 := by unfold sepL; split <;> (try split) <;> decide
theorem scan_sep (i p : Nat) (r : List UInt8) : scanL p (sepL i ++ r) = scanL (p + (sepL i).length) r := by
  obtain ⟨d, s, e, -, h1, h2⟩ := sep_cons i
  rw [e, scanL_at, scanL_at, skip_app false (d :: s) r h1, h2, ← List.drop_drop, List.drop_left, Nat.add_assoc]
theorem spc_scan : ∀ (ts : List Tk), (∀ t ∈ ts, Lx.Good t) → ∀ i p, ∃ us, scanL p (spc i ts) = .toks us ∧ Lx.Alike us ts
  | [], _, i, p => ⟨[], rfl, rfl⟩
  | t :: ts, h, i, p => by
    obtain ⟨k, n, hk, hn, h0, h1, h2, h3⟩ := h t (List.mem_cons_self ..)
    obtain ⟨us, i1, i2⟩ := spc_scan ts (fun x hx => h x (List.mem_cons_of_mem _ hx)) (i + 1) (p + (Lx.written t).length + (sepL i).length)
    refine ⟨⟨k, t.text, n, p⟩ :: us, ?_, ?_⟩
    · obtain ⟨d, s, e, hd, -⟩ := sep_cons i
      have h4 := one_app h3 hd (s ++ spc (i + 1) ts)
      rw [show Lx.written t ++ d :: (s ++ spc (i + 1) ts) = Lx.written t ++ (sepL i ++ spc (i + 1) ts) by rw [e]; rfl] at h4
      show scanL p (Lx.written t ++ (sepL i ++ spc (i + 1) ts)) = _
      rw [scanL_step (h1 _) h4, List.drop_left, scan_sep, i1]; rfl
    · unfold Lx.Alike at i2 ⊢
      rw [List.map_cons, i2]
      unfold key3
      simp [hk, hn]
theorem written_len (t : Tk) (h : t.text.length ≤ 2000) : (Lx.written t).length ≤ 4002 := by
  unfold Lx.written
  split
  · rw [quoteL_length]
    have : ∀ l : List UInt8, (l.flatMap escL).length ≤ 2 * l.length := by
      intro l
      induction l with
      | nil => simp
      | cons c l ih => rw [List.flatMap_cons, List.length_append, List.length_cons]; have := esc_len c; omega
    have := this t.text
    omega
  · omega
theorem spc_len : ∀ (ts : List Tk) (i : Nat), (∀ t ∈ ts, t.text.length ≤ 2000) → (spc i ts).length ≤ ts.length * 4007
  | [], i, _ => by simp [spc]
  | t :: ts, i, h => by
    have h1 := spc_len ts (i + 1) (fun x hx => h x (List.mem_cons_of_mem _ hx))
    have h2 := written_len t (h t (List.mem_cons_self ..))
    have h3 := sep_len i
    rw [spc, List.length_append, List.length_append, List.length_cons]
    omega

/-! one token of a row -/
theorem tk_mid {T : List Tk} {W : World} {g o c i : Nat} (hg : g < W.heap.size) (hr : W.rangeAt g o (tcells T)) (hi : i < T.length) (hc : T.length ≤ c) :
    ∃ q, (∀ W', (Instr.slice 31 (.slice (some ⟨g, o, none⟩) T.length c) (some (.int .i64 (i : Int))) (some (.int .i64 ((i : Int) + 1))) none).run Tryz.prog W' = .ok (.slice q 1 (c - i)) W') ∧ Toks W (.slice q 1 (c - i)) [T[i]] := by
  have hic : ¬c = i := by omega
  refine ⟨some ⟨g, o + i * 4, none⟩, fun W' => ?_, _, _, rfl, by show 1 ≤ _; omega, .inr ⟨g, o + i * 4, rfl, hg, ?_⟩⟩
  · rw [run_slice_lh W' 31 _ T.length c (by kernel_rfl) .i64 .i64 (i : Int) ((i : Int) + 1) (by omega) (by omega) (by omega), tok_size]
    show Result.ok (sliced _ (i : Int).toNat ((i : Int) + 1).toNat c 4) W' = _
    rw [Int.toNat_natCast, show ((i : Int) + 1).toNat = i + 1 by omega]
    unfold sliced
    rw [if_neg hic]
    simp [Addr.add_mid]
  · have e : tcells T = tcells (T.take i) ++ (tcells [T[i]] ++ tcells (T.drop (i + 1))) := by
      rw [← tcells_app, ← tcells_app]
      congr 1
      rw [List.singleton_append, List.getElem_cons_drop, List.take_append_drop]
    rw [e] at hr
    exact rangeAt_left (rangeAt_right hr (by rw [tcells_length, List.length_take, Nat.min_eq_left (by omega)]))

/-! what Text answers of a text whose tokens are known -/
def codeOf (t : List Nd) : St → Int
  | .bad _ => 10
  | .ok _ => (checkL t).1
def rowOf (t : List Nd) : St → List Nd
  | .bad _ => []
  | .ok _ => if (checkL t).1 = 0 then t else []
theorem row_len (t : List Nd) (s : St) : (rowOf t s).length ≤ 2000 := by
  cases s with
  | bad k => exact Nat.zero_le _
  | ok i =>
    show (if (checkL t).1 = 0 then t else []).length ≤ 2000
    split
    · rename_i h; exact (check_ok h).1
    · exact Nat.zero_le _
theorem nds_nil (W : World) : Nds W (.slice none 0 0) [] := ⟨none, 0, rfl, Nat.le_refl _, (fun x hx => by cases hx), .inl rfl⟩
theorem text_ends {l : List UInt8} {L : List Tk} (hl : l.length ≤ 8192) (hs : scanL 0 l = .toks L) (W : World) (HE : HasE W) :
    Calls Tryz.prog 13 #[.string (strOf l)] W fun e w' => Below W.heap.size W w' ∧ ∃ t s, ModRun L t s ∧ ∃ v a, e = .returned (.tuple #[v, .int .i64 (codeOf t s), .int .i64 a]) ∧ Nds w' v (rowOf t s) :=
  (text_any (strOf l) W HE).mono fun e w' hk => by
    rw [strOf_toList] at hk
    obtain ⟨t, s, hr, hok⟩ := hk.yes L hl hs
    refine ⟨hk.below, t, s, hr, ?_⟩
    cases s with
    | bad k => exact ⟨_, _, hok, nds_nil _⟩
    | ok i =>
      have h' : if (checkL t).1 = 0 then _ else _ := hok
      show ∃ v a, _ ∧ Nds w' v (if (checkL t).1 = 0 then t else [])
      by_cases hc : (checkL t).1 = 0
      · rw [if_pos hc] at h' ⊢
        obtain ⟨v, he, hrow, hf⟩ := h'
        exact ⟨v, 0, by rw [he]; show _ = Ending.returned (.tuple #[v, .int .i64 (checkL t).1, _]); rw [hc], own_nds hrow hf⟩
      · rw [if_neg hc] at h' ⊢
        exact ⟨_, _, h', nds_nil _⟩
theorem ends_same {L L' : List Tk} (h : Lx.Alike L' L) {t t' : List Nd} {s s' : St} (hr : ModRun L t s) (hr' : ModRun L' t' s') : codeOf t s = codeOf t' s' ∧ rowOf t s = rowOf t' s' := by
  obtain ⟨h1, h2⟩ := alk_of h
  rcases run_one hr (run_alk h1 h2 hr') with ⟨k, rfl, rfl⟩ | ⟨i, j, rfl, rfl, rfl⟩
  · exact ⟨rfl, rfl⟩
  · exact ⟨rfl, rfl⟩

end Go.Proofs.YtbbkogjkpehmjaaGreatDoor.Pa
namespace Go.Proofs.YtbbkogjkpehmjaaGreatDoor.Pa
open Go.RowKit Go.Shelf Dk Lx Tr

theorem write_one (t : Tk) : writeL [t] = Lx.written t := rfl

set_option maxHeartbeats 4000000 in
set_option maxRecDepth 100000 in
theorem spaces_main (l : List UInt8) (hl : l.length ≤ 2000) (L : List Tk) (hL : scanL 0 l = .toks L) (w : World) (HE : HasE w) :
    Calls Tryz.prog 5 #[.string (strOf l)] w fun e w' => e = .returned (.bool true) ∧ Below w.heap.size w w' := by
  have HHE := Lib.hid HE
  have KN := Lib.hid (fun W h => known10 W h)
  have h1 : ¬((strOf l).size : Int) > 2000 := by rw [strOf_size]; omega
  have S1 := Lib.hid (text_ends (l := l) (by omega) hL)
  have S2 := Lib.hid (scan_good (by omega) hL)
  have hsc := scans_iff.1 hL
  have hfew := scans_few hsc
  have hgood := (scans_good hsc).1
  obtain ⟨us, hus, hal⟩ := spc_scan L hgood 0 0
  have HT : Hid (∀ t ∈ L, t.text.length ≤ 2000) := Lib.hid (fun t ht => by have := (hfew.2 t ht).1; omega)
  have HAL := Lib.hid hal
  have S3 := Lib.hid (fun (h : (spc 0 L).length ≤ 8192) => text_ends (l := spc 0 L) h hus)
  have S4 := Lib.hid (text_some (spc 0 L))
  obtain ⟨n, hn⟩ : ∃ n, n = L.length := ⟨_, rfl⟩
  have HN := Lib.hid hn
  have hn2 : n ≤ 2000 := by have := hfew.1; omega
  have HSA : Hid (∀ i (h : i < L.length), spc 0 (L.take (i + 1)) = spc 0 (L.take i) ++ Lx.written L[i] ++ sepL i) := Lib.hid (fun i h => by
    rw [List.take_add_one, List.getElem?_eq_getElem h]
    show spc 0 (L.take i ++ [L[i]]) = _
    rw [spc_snoc, List.length_take, Nat.zero_add, Nat.min_eq_left (by omega)])
  have HSL : Hid (∀ i, i ≤ n → (spc 0 (L.take i)).length ≤ 8014000) := Lib.hid (fun i hi => by
    have := spc_len (L.take i) 0 (fun t ht => HT.out t (List.mem_of_mem_take ht))
    rw [List.length_take] at this
    have : min i L.length * 4007 ≤ 2000 * 4007 := Nat.mul_le_mul_right _ (by omega)
    omega)
  generalize hsA : strOf l = sA at *
  clear HE hL hl hsc hfew hgood hus hal hn hsA
  go_enter Tryz.func5, Tryz.ntmps5
  go_wp2_with fail
  refine (S2.out w HHE.out).mono ?_
  rintro e w1 ⟨v1, rfl, hr1⟩
  have HB1 := Lib.hid hr1.below
  have HTR := Lib.hid hr1.toks
  obtain ⟨p, c, rfl, hc, -⟩ := hr1.toks
  rw [← HN.out]
  clear hr1 hc S2
  go_wp2_with fail
  go_loopw [6, 7] (fun vs vi wr => ∃ i : Nat, i ≤ n ∧ vi = .int .i64 (i : Int) ∧ vs = .string (strOf (spc 0 (L.take i))) ∧ Hid (Below w.heap.size w wr) ∧ Hid (Below w1.heap.size w1 wr)) (fun _ vi _ => n - (intOf vi).toNat)
  case atStart => exact ⟨0, Nat.zero_le _, rfl, rfl, HB1, Lib.hid (Below.refl _ _)⟩
  case round =>
    obtain ⟨i, hi, rfl, rfl, hB, hB1⟩ := hrel
    by_cases hlt : i < n
    · have hil : i < L.length := by rw [← HN.out]; exact hlt
      obtain ⟨q1, q0, q2, q3, q4 | ⟨g, o, hpp, hg, hr⟩⟩ := HTR.out
      · exfalso; subst q4; simp at hil
      cases q2
      subst hpp
      have hsz := hB1.out.size
      obtain ⟨q, hs, ht⟩ := tk_mid (W := wr) (show g < wr.heap.size by omega) (rangeAt_block hr (hB1.out.block g hg)) hil q3
      have CX : Hid (Calls Tryz.prog 20 #[.slice q 1 (c - i)] wr fun e w' => e = .returned (.string (strOf (Lx.written L[i]))) ∧ Below wr.heap.size wr w') := Lib.hid (by
        have ht2 := HT.out L[i] (List.getElem_mem hil)
        have hw := written_len L[i] ht2
        have := Lx.text_any (.slice q 1 (c - i)) [L[i]] wr ht (by simp) (by simp; omega) (by rw [write_one]; omega)
        rw [write_one] at this
        exact this)
      have hla := HSL.out i hi
      have hlw := written_len L[i] (HT.out L[i] (List.getElem_mem hil))
      have hla2 := HSL.out (i + 1) hlt
      have p1 : ∀ W : World, (Op.stringOp .add (strOf (spc 0 (L.take i))) (strOf (Lx.written L[i]))).run Tryz.prog W = .ok (.string (strOf (spc 0 (L.take i) ++ Lx.written L[i]))) W := fun W => add_run _ _ (by omega) W
      have p2 : ∀ W : World, (Op.stringOp .add (strOf (spc 0 (L.take i) ++ Lx.written L[i])) (strOf (sepL i))).run Tryz.prog W = .ok (.string (strOf (spc 0 (L.take (i + 1))))) W := fun W => by
        have := add_run (spc 0 (L.take i) ++ Lx.written L[i]) (sepL i) (by have := sep_len i; rw [List.length_append]; omega) W
        rw [← HSA.out i hil] at this
        exact this
      have z0 : (0 : Int) ≤ (i : Int) := by omega
      have z1 : (i : Int) < (n : Int) := by omega
      have z3 : IntKind.i64.wrap ((i : Int) + 1) = (i : Int) + 1 := IntWalk.i64_in _ (by omega)
      rw [← HN.out] at hs
      generalize hs2 : strOf (spc 0 (L.take (i + 1))) = s2 at *
      have HS2 := Lib.hid hs2
      generalize hs1 : strOf (spc 0 (L.take i) ++ Lx.written L[i]) = s1 at *
      generalize hs0 : strOf (spc 0 (L.take i)) = s0 at *
      generalize hsw : strOf (Lx.written L[i]) = sw at *
      clear hs2 hs1 hs0 hsw hla hlw hla2 ht hr hg q3 hil hsz
      rcases (show i % 3 = 0 ∨ i % 3 = 1 ∨ i % 3 = 2 by omega) with hm | hm | hm
      · have es : sepL i = [32, 9] := by unfold sepL; rw [if_pos hm]
        rw [es] at p2
        change ∀ W : World, (Op.stringOp .add s1 ⟨#[32, 9]⟩).run Tryz.prog W = _ at p2
        have e1 : ((i : Int) % 3 == 0) = true := by rw [beq_iff_eq]; omega
        clear hm es
        go_wp2_with (go_at_call 20; refine CX.out.mono ?_; rintro e w2 ⟨rfl, hb2⟩; have HB2 := Lib.hid (chain2 hB.out hb2); have HB3 := Lib.hid (chain2 hB1.out hb2); clear hb2)
        go_roundw
        case rel => exact ⟨i + 1, by omega, by go_num, by rw [HS2.out], HB2, HB3⟩
        case measure => simp [intOf]; omega
      · have es : sepL i = [10] := by unfold sepL; rw [if_neg (by omega), if_pos hm]
        rw [es] at p2
        change ∀ W : World, (Op.stringOp .add s1 ⟨#[10]⟩).run Tryz.prog W = _ at p2
        have e1 : ((i : Int) % 3 == 0) = false := by rw [beq_eq_false_iff_ne]; omega
        have e2 : ((i : Int) % 3 == 1) = true := by rw [beq_iff_eq]; omega
        clear hm es
        go_wp2_with (go_at_call 20; refine CX.out.mono ?_; rintro e w2 ⟨rfl, hb2⟩; have HB2 := Lib.hid (chain2 hB.out hb2); have HB3 := Lib.hid (chain2 hB1.out hb2); clear hb2)
        go_roundw
        case rel => exact ⟨i + 1, by omega, by go_num, by rw [HS2.out], HB2, HB3⟩
        case measure => simp [intOf]; omega
      · have es : sepL i = [35, 32, 110, 111, 10] := by unfold sepL; rw [if_neg (by omega), if_neg (by omega)]
        rw [es] at p2
        change ∀ W : World, (Op.stringOp .add s1 ⟨#[35, 32, 110, 111, 10]⟩).run Tryz.prog W = _ at p2
        have e1 : ((i : Int) % 3 == 0) = false := by rw [beq_eq_false_iff_ne]; omega
        have e2 : ((i : Int) % 3 == 1) = false := by rw [beq_eq_false_iff_ne]; omega
        clear hm es
        go_wp2_with (go_at_call 20; refine CX.out.mono ?_; rintro e w2 ⟨rfl, hb2⟩; have HB2 := Lib.hid (chain2 hB.out hb2); have HB3 := Lib.hid (chain2 hB1.out hb2); clear hb2)
        go_roundw
        case rel => exact ⟨i + 1, by omega, by go_num, by rw [HS2.out], HB2, HB3⟩
        case measure => simp [intOf]; omega
    · obtain rfl : n = i := by omega
      have htk : L.take n = L := by rw [HN.out, List.take_length]
      rw [htk]
      have hlen := HSL.out n (Nat.le_refl n)
      rw [htk] at hlen
      by_cases hbig : (spc 0 L).length ≤ 8192
      · have S3' := Lib.hid (S3.out hbig)
        have g2 : ¬((strOf (spc 0 L)).size : Int) > 8192 := by rw [strOf_size]; omega
        generalize strOf (spc 0 L) = sT at *
        clear hlen hbig S3 S4 htk hi hlt
        go_wp2_with fail
        refine (S1.out wr (HHE.out.later hB.out)).mono ?_
        rintro e w3 ⟨hb3, t, s, hr, v3, a3, rfl, hn3⟩
        have HB3 := Lib.hid (chain2 hB.out hb3)
        have HR := Lib.hid hr
        have HV3 := Lib.hid hn3
        clear hb3 hr hn3 S1
        go_wp2_with fail
        refine (S3'.out w3 (HHE.out.later HB3.out)).mono ?_
        rintro e w4 ⟨hb4, t2, s2, hr2, v4, a4, rfl, hn4⟩
        have HB4 := Lib.hid (chain2 HB3.out hb4)
        obtain ⟨ec, er⟩ := ends_same HAL.out HR.out hr2
        rw [← er] at hn4
        rw [← ec]
        have C1 := Lib.hid (same_nodes (rowOf t s) v3 v4 w4 (HV3.out.later hb4) hn4 (by have := row_len t s; omega))
        have e5 : (codeOf t s == codeOf t s) = true := by simp
        generalize codeOf t s = cd at *
        clear hb4 hr2 hn4 ec er S3' HR HV3
        go_wp2_with (first
          | (go_at_call 15; refine C1.out.mono ?_; rintro e w5 ⟨rfl, hb5⟩; have HB5 := Lib.hid (chain2 HB4.out hb5); clear hb5)
          | (go_at_call 12; refine (KN.out _ (HHE.out.later HB5.out)).mono ?_; rintro e w6 ⟨rfl, hb6⟩; have HB6 := Lib.hid (chain2 HB5.out hb6); clear hb6))
        go_ret
        exact ⟨rfl, HB6.out⟩
      · have g2 : ((strOf (spc 0 L)).size : Int) > 8192 := by rw [strOf_size]; omega
        generalize strOf (spc 0 L) = sT at *
        clear hlen hbig S3 htk hi hlt
        go_wp2_with fail
        refine (S1.out wr (HHE.out.later hB.out)).mono ?_
        rintro e w3 ⟨hb3, t, s, hr, v3, a3, rfl, hn3⟩
        have HB3 := Lib.hid (chain2 hB.out hb3)
        generalize codeOf t s = cd at *
        clear hb3 hr hn3 S1
        go_wp2_with fail
        refine (S4.out w3 (HHE.out.later HB3.out)).mono ?_
        rintro e w4 ⟨⟨v4, k4, a4, rfl⟩, hb4⟩
        have HB4 := Lib.hid (chain2 HB3.out hb4)
        clear hb4 S4
        go_wp2_with (go_at_call 12; refine (KN.out _ (HHE.out.later HB4.out)).mono ?_; rintro e w6 ⟨rfl, hb6⟩; have HB6 := Lib.hid (chain2 HB4.out hb6); clear hb6)
        go_ret
        exact ⟨rfl, HB6.out⟩

set_option maxHeartbeats 4000000 in
set_option maxRecDepth 100000 in
theorem parseSpaces_law (a : ByteArray) (_ha : a.size ≤ maxLen) (w : World) (HE : HasE w) :
    Calls Tryz.prog 5 #[.string a] w fun e w' => e = .returned (.bool true) ∧ Below w.heap.size w w' := by
  have KN := Lib.hid (fun W h => known10 W h)
  by_cases hs : a.size ≤ 2000
  case neg =>
    have HHE := Lib.hid HE
    have g1 : (a.size : Int) > 2000 := by omega
    clear hs HE
    go_enter Tryz.func5, Tryz.ntmps5
    go_wp2_with (go_at_call 12; refine (KN.out _ HHE.out).mono ?_; rintro e w3 ⟨rfl, hb3⟩; have HB3 := Lib.hid hb3; clear hb3)
    go_ret
    exact ⟨rfl, HB3.out⟩
  obtain ⟨l, rfl, hA⟩ := toS a
  rw [strOf_size] at hs
  cases hsc : scanL 0 l with
  | toks L => exact spaces_main l hs L hsc w HE
  | bad k q =>
    have hkq := scan_bad_at _ 0 _ k q (Nat.lt_succ_self _) hsc
    have HHE := Lib.hid HE
    have h1 : ¬((strOf l).size : Int) > 2000 := by rw [strOf_size]; omega
    have e1 : ((k : Int) != 0) = true := by rw [bne_iff_ne]; omega
    have S1 : Hid (∀ W, HasE W → Calls Tryz.prog 19 #[.string (strOf l)] W fun x w' => x = .returned (.tuple #[.slice none 0 0, .int .i64 (k : Int), .int .i64 (q : Int)]) ∧ Below W.heap.size W w') := Lib.hid (fun W hE => (scan_any (strOf l) W hE).mono fun x w' h => ⟨h.bad k q (by rw [strOf_toList]; omega) (by rw [strOf_toList]; exact hsc), h.below⟩)
    generalize strOf l = sA at *
    clear hs HE hsc hkq
    go_enter Tryz.func5, Tryz.ntmps5
    go_wp2_with (first
      | (go_at_call 19; refine (S1.out _ HHE.out).mono ?_; rintro e w1 ⟨rfl, hb1⟩; have HB1 := Lib.hid hb1; clear hb1)
      | (go_at_call 12; refine (KN.out _ (HHE.out.later HB1.out)).mono ?_; rintro e w6 ⟨rfl, hb6⟩; have HB6 := Lib.hid (chain2 HB1.out hb6); clear hb6))
    go_ret
    exact ⟨rfl, HB6.out⟩

end Go.Proofs.YtbbkogjkpehmjaaGreatDoor.Pa
