/- Parts of a slice of tokens. The walk of lex.Text: its contract. The walks of chrysalisref08's letter, digit, blank, Key, word, Name: their contracts. The walks of chrysalisref08's word and Name: their contracts. The walk of chrysalisref08.number: its contract. No condition but those that each states. -/
import Derived.Test.YtemlceicmpcboaaGreatDoorMgC
import Derived.Test.YtemlceicmpcboaaGreatDoorMgB
namespace Go.Proofs.YtemlceicmpcboaaGreatDoor.Lx
open Go.RowKit Dk

/-! parts of a slice of tokens -/
theorem tok_size (W : World) : (sizeOf (Tryz.prog.elem 31)).run Tryz.prog W = .ok 4 W := by kernel_rfl
theorem slice_to (p : Option Addr) (n c k : Nat) (hk : k ≤ c) (hp : p = none ∨ ∃ g o, p = some ⟨g, o, none⟩) (W : World) :
    (Instr.slice 31 (.slice p n c) none (some (.int .i64 (k : Int))) none).run Tryz.prog W = .ok (.slice p k c) W := by
  rw [run_slice_h W 31 p n c (by kernel_rfl) .i64 (k : Int) (by omega) (by omega), tok_size]
  show Result.ok (sliced p 0 (k : Int).toNat c 4) W = _
  unfold sliced
  rcases hp with rfl | ⟨g, o, rfl⟩
  · simp
  · simp [Addr.add_mid]
theorem slice_from (p : Option Addr) (n c k : Nat) (hk : k ≤ n) (W : World) :
    (Instr.slice 31 (.slice p n c) (some (.int .i64 (k : Int))) none none).run Tryz.prog W = .ok (.slice (if c = k then p else p.map (·.add (k * 4))) (n - k) (c - k)) W := by
  rw [run_slice_l W 31 p n c (by kernel_rfl) .i64 (k : Int) (by omega) (by omega), tok_size]
  rfl

theorem tcells_split (ts : List Tk) (k : Nat) (hk : k ≤ ts.length) : tcells ts = tcells (ts.take k) ++ tcells (ts.drop k) ∧ (tcells (ts.take k)).length = k * 4 := by
  constructor
  · rw [← tcells_app, List.take_append_drop]
  · rw [tcells_length, List.length_take, Nat.min_eq_left hk]

/-- The first tokens of a slice, and the others. -/
theorem Toks.parts {W : World} {p : Option Addr} {c : Nat} {ts : List Tk} (h : Toks W (.slice p ts.length c) ts) (k : Nat) (hk : k ≤ ts.length) :
    (∀ W', (Instr.slice 31 (.slice p ts.length c) none (some (.int .i64 (k : Int))) none).run Tryz.prog W' = .ok (.slice p k c) W') ∧ Toks W (.slice p k c) (ts.take k) ∧
    ∃ q, (∀ W', (Instr.slice 31 (.slice p ts.length c) (some (.int .i64 (k : Int))) none none).run Tryz.prog W' = .ok (.slice q (ts.length - k) (c - k)) W') ∧ Toks W (.slice q (ts.length - k) (c - k)) (ts.drop k) := by
  obtain ⟨p', c', e, hc, hp⟩ := h
  cases e
  have hkc : k ≤ c := by omega
  have hform : ts = [] ∨ ∃ g o, p = some ⟨g, o, none⟩ ∧ g < W.heap.size ∧ W.rangeAt g o (tcells ts) := hp
  have hl1 : (ts.take k).length = k := by rw [List.length_take, Nat.min_eq_left hk]
  have hl2 : (ts.drop k).length = ts.length - k := List.length_drop
  have hz : ts = [] → k = 0 := fun h => by subst h; simpa using hk
  refine ⟨?_, ?_, ?_⟩
  · intro W'
    rcases hform with rfl | ⟨g, o, rfl, -, -⟩
    · have := hz rfl
      subst this
      rw [show (([] : List Tk).length) = 0 from rfl, run_slice_h W' 31 p 0 c (by kernel_rfl) .i64 ((0 : Nat) : Int) (by omega) (by omega), tok_size]
      show Result.ok (sliced p 0 0 c 4) W' = _
      unfold sliced
      cases p with
      | none => simp
      | some a => cases a; simp [Addr.add]
    · exact slice_to _ _ _ _ hkc (.inr ⟨g, o, rfl⟩) W'
  · refine ⟨p, c, by rw [hl1], by rw [hl1]; exact hkc, ?_⟩
    rcases hform with rfl | ⟨g, o, rfl, hg, hr⟩
    · exact .inl (by simp)
    · refine .inr ⟨g, o, rfl, hg, ?_⟩
      rw [(tcells_split ts k hk).1] at hr
      exact rangeAt_left hr
  · refine ⟨_, fun W' => slice_from p _ c k hk W', _, _, by rw [hl2], by rw [hl2]; omega, ?_⟩
    by_cases hck : c = k
    · exact .inl (List.drop_eq_nil_of_le (by omega))
    · rw [if_neg hck]
      rcases hform with rfl | ⟨g, o, rfl, hg, hr⟩
      · exact .inl (by simp)
      · refine .inr ⟨g, o + k * 4, by simp [Addr.add_mid], hg, ?_⟩
        rw [(tcells_split ts k hk).1] at hr
        exact rangeAt_right hr (tcells_split ts k hk).2.symm

end Go.Proofs.YtemlceicmpcboaaGreatDoor.Lx
namespace Go.Proofs.YtemlceicmpcboaaGreatDoor.Lx
open Go.RowKit Dk

theorem join_eq : ∀ xs : List (List UInt8), joinL xs = Lib.join xs [32]
  | [] => rfl
  | [x] => by rw [Lib.join_one]; rfl
  | x :: y :: r => by
    have ih := join_eq (y :: r)
    show x ++ 32 :: joinL (y :: r) = _
    rw [ih]
    unfold Lib.join
    simp [List.intercalate]

theorem s_info3 : (Tryz.prog.info? 9).map (fun i => (i.zero, i.size, i.bytes)) = some (some (.string ⟨#[]⟩), 1, 16) := by kernel_rfl

/-- The row of texts, the first i written. -/
def txtRow (ts : List Tk) (i m : Nat) : Value := .string (strOf (if m < i then written (ts.getD m Tk.zero) else []))
theorem txtRow_step (ts : List Tk) (i : Nat) (t : Tk) (h : ts[i]? = some t) (m : Nat) : (if m = i then Value.string (strOf (written t)) else txtRow ts i m) = txtRow ts (i + 1) m := by
  unfold txtRow
  by_cases hm : m = i
  · subst hm
    rw [if_pos rfl, if_pos (Nat.lt_succ_self _), List.getD_eq_getElem?_getD, h]; rfl
  · rw [if_neg hm]
    by_cases hl : m < i
    · rw [if_pos hl, if_pos (by omega)]
    · rw [if_neg hl, if_neg (by omega)]
theorem txtRow_twice (ts : List Tk) (i : Nat) (v u : Value) (m : Nat) : (if m = i then v else if m = i then u else txtRow ts i m) = if m = i then v else txtRow ts i m := by
  by_cases hm : m = i
  · rw [if_pos hm, if_pos hm]
  · rw [if_neg hm, if_neg hm, if_neg hm]

theorem TB.at {W : World} {B : Nat} {t : Tk} (h : TB W B t) (j : Nat) (v : Value) (hv : t.cells[j]? = some v) : W.cell? ⟨B, j, none⟩ = some v := by
  have := h.cells j v hv
  rwa [Nat.zero_add] at this
theorem cell_other {W : World} {b b' o o' : Nat} (h : b ≠ b') {u : Value} (hc : W.cell? ⟨b, o, none⟩ = some u) (v : Value) : (W.setCell ⟨b', o', none⟩ v).cell? ⟨b, o, none⟩ = some u := by
  rw [World.cell?_setCell_other _ _ _ _ (by intro e; have e1 := congrArg Addr.block e; first | exact h e1 | exact h e1.symm)]
  exact hc

set_option maxHeartbeats 4000000 in
set_option maxRecDepth 100000 in
theorem text_some (g o cp : Nat) (ts : List Tk) (w : World) (hx : w.rangeAt g o (tcells ts)) (hg : g < w.heap.size) (hl : ts.length ≤ 40000) (hw : ∀ t ∈ ts, t.text.length ≤ 2 ^ 30) (hj : (writeL ts).length ≤ 2 ^ 40) :
    Calls Tryz.prog 46 #[.slice (some ⟨g, o, none⟩) ts.length cp] w fun e w' => e = .returned (.string (strOf (writeL ts))) ∧ Below w.heap.size w w' := by
  have HX : Hid (∀ W, Below w.heap.size w W → W.rangeAt g o (tcells ts)) := Lib.hid (fun W hb => rangeAt_block hx (hb.block g hg))
  have HWR := Lib.hid hw
  have HJ : Hid (∀ W, w.heap.size < W.heap.size → W.rowIs w.heap.size 9 ts.length (txtRow ts ts.length) → Calls Tryz.prog 101 #[.slice (some ⟨w.heap.size, 0, none⟩) ts.length ts.length, .string ⟨#[32]⟩] W fun e w' => e = .returned (.string (strOf (writeL ts))) ∧ Below W.heap.size W w') := Lib.hid (fun W hW hr => by
    have hlen : (ts.map (fun t => strOf (written t))).length = ts.length := List.length_map _
    have hmap : (ts.map (fun t => strOf (written t))).map (·.data.toList) = ts.map written := by rw [List.map_map]; exact List.map_congr_left (fun t _ => strOf_toList _)
    have := strings_Join w.heap.size 0 ts.length (ts.map (fun t => strOf (written t))) ⟨#[32]⟩ W (fun j x hx => by
      rw [Nat.zero_add]
      obtain ⟨hj, e⟩ := List.getElem?_eq_some_iff.1 hx
      rw [hlen] at hj
      rw [hr.cell hj]
      unfold txtRow
      rw [if_pos hj, ← e, List.getD_eq_getElem?_getD, List.getElem?_eq_getElem hj, List.getElem_map]
      rfl) hW (by omega) (by omega) (by rw [hmap, show (⟨#[32]⟩ : ByteArray).data.toList = [32] from rfl, ← join_eq]; exact Nat.le_trans hj (by decide))
    rw [hlen, hmap, show (⟨#[32]⟩ : ByteArray).data.toList = [32] from rfl, ← join_eq] at this
    exact this)
  obtain ⟨n, hn⟩ : ∃ n, n = ts.length := ⟨_, rfl⟩
  rw [← hn] at HJ hl ⊢
  have HN := Lib.hid hn
  have hmk := fun w : World => run_make_row' (P := Tryz.prog) 104 9 (.string ⟨#[]⟩) 16 Tryz.underlying104 s_info3 rfl .i64 .i64 n (by omega) (by omega) w
  clear hx hg hw hj hn
  go_enter Tryz.func46, Tryz.ntmps46
  go_wp2
  clear hmk
  go_loopw [11] (fun vi wr => ∃ i : Nat, i ≤ n ∧ vi = .int .i64 (i : Int) ∧ Hid (wr.rowIs w.heap.size 9 n (txtRow ts i)) ∧ Hid (Below w.heap.size w wr ∧ w.heap.size < wr.heap.size)) (fun vi _ => n - (intOf vi).toNat)
  case atStart => exact ⟨0, Nat.zero_le _, rfl, Lib.hid ((World.rowIs_made w _ _ _).congr (fun m _ => by unfold txtRow; rw [if_neg (Nat.not_lt_zero _)]; rfl)), Lib.hid ⟨(Below.refl _ _).alloc (Nat.le_refl _) _, by simp⟩⟩
  case round =>
    obtain ⟨i, hi, rfl, hrow, hI⟩ := hrel
    by_cases hlt : i < n
    · have z0 : (0 : Int) ≤ (i : Int) := by omega
      have z1 : (i : Int) < (n : Int) := by omega
      have hil : i < ts.length := by rw [← HN.out]; exact hlt
      obtain ⟨t, ht⟩ : ∃ t, t = ts[i] := ⟨_, rfl⟩
      have HTT := Lib.hid (show ts[i]? = some t by rw [ht, List.getElem?_eq_getElem hil])
      have HTX := Lib.hid (HWR.out t (by rw [ht]; exact List.getElem_mem hil))
      have HR1 : Hid (wr.rangeAt g (o + i * 4) t.cells) := Lib.hid (by
        intro j v hv
        have hj : j < 4 := (List.getElem?_eq_some_iff.1 hv).1
        have := HX.out wr hI.out.1 (i * 4 + j) v (by rw [tcells_at hil j hj, ← ht]; exact hv)
        rwa [← Nat.add_assoc] at this)
      have HTI := Lib.hid (t_info t)
      have HZ := Lib.hid (tb_zero wr)
      have HP := Lib.hid (tb_put wr t)
      have HROW : Hid (∀ W, Below wr.heap.size wr W → W.rowIs w.heap.size 9 n (txtRow ts i)) := Lib.hid (fun W hb => hrow.out.of_block (hb.block _ hI.out.2))
      have hne : w.heap.size ≠ wr.heap.size := by have := hI.out.2; omega
      clear ht hil
      have HQ := Lib.hid (fun W => quote_any t.text W (by have := HTX.out; omega))
      by_cases hk : t.kind = 3
      · have hwt : Hid (written t = quoteL t.text) := Lib.hid (by unfold written; rw [if_pos hk])
        have v1 : (t.kind == 3) = true := by simpa using hk
        clear hk
        go_wp2_with (first
          | (refine wpList_load_mid rfl 72 (.tmp 14) rfl g (o + i * 4) rfl t.cells _ HR1.out Tryz.underlying72 rfl HTI.out ?_)
          | (refine wpList_store_mid rfl 72 (.tmp 5) (.tmp 15) rfl wr.heap.size 0 t.cells.toArray rfl rfl HZ.out.room (t_infoA t) (t_all t) ?_; generalize World.setCells _ _ _ _ = W3 at HP ⊢; have HP3 := Lib.hid HP.out; clear HP; have c1 : W3.cell? ⟨wr.heap.size, 1, none⟩ = some (.string (strOf t.text)) := HP3.out.1.at 1 _ rfl; have HR3 := Lib.hid (HROW.out W3 HP3.out.2); have hfz : W3.frozen? ⟨w.heap.size, i, none⟩ = false := HR3.out.frozen _; have hcl : W3.cell? ⟨w.heap.size, i, none⟩ = some (txtRow ts i i) := HR3.out.cell hlt; have k0 : ∀ v, (W3.setCell ⟨w.heap.size, i, none⟩ v).cell? ⟨wr.heap.size, 0, none⟩ = some (.int .i64 t.kind) := cell_other (Ne.symm hne) (HP3.out.1.at 0 _ rfl); have k1 : ∀ v, (W3.setCell ⟨w.heap.size, i, none⟩ v).cell? ⟨wr.heap.size, 1, none⟩ = some (.string (strOf t.text)) := cell_other (Ne.symm hne) c1)
          | (go_at_call 100; refine (HQ.out _).mono ?_; rintro e W5 ⟨rfl, hb5⟩; have HR5 := Lib.hid ((HR3.out.set i (.string (strOf t.text))).of_block (hb5.block _ (by simp; have := HP3.out.2.size; have := hI.out.2; omega))); have hfz5 : W5.frozen? ⟨w.heap.size, i, none⟩ = false := HR5.out.frozen _; have hcl5 := HR5.out.cell hlt; have HB5 : Hid (Below w.heap.size w W5 ∧ w.heap.size < W5.heap.size) := Lib.hid ⟨(chain2 (chain2 hI.out.1 HP3.out.2 |>.setCell (by simp) (.string (strOf t.text))) hb5), (by have := hb5.size; simp at this; have := HP3.out.2.size; have := hI.out.2; omega)⟩; clear hb5))
        go_roundw
        case rel => exact ⟨i + 1, by omega, by go_num, Lib.hid ((HR5.out.set i (.string (strOf (quoteL t.text)))).congr (fun m _ => by rw [txtRow_twice, ← hwt.out]; exact txtRow_step ts i t HTT.out m)), Lib.hid ⟨HB5.out.1.setCell (by simp) _, by simp; exact HB5.out.2⟩⟩
        case measure => simp [intOf]; omega
      · have hwt : Hid (written t = t.text) := Lib.hid (by unfold written; rw [if_neg hk])
        have v1 : (t.kind == 3) = false := by simpa using hk
        clear hk
        go_wp2_with (first
          | (refine wpList_load_mid rfl 72 (.tmp 14) rfl g (o + i * 4) rfl t.cells _ HR1.out Tryz.underlying72 rfl HTI.out ?_)
          | (refine wpList_store_mid rfl 72 (.tmp 5) (.tmp 15) rfl wr.heap.size 0 t.cells.toArray rfl rfl HZ.out.room (t_infoA t) (t_all t) ?_; generalize World.setCells _ _ _ _ = W3 at HP ⊢; have HP3 := Lib.hid HP.out; clear HP; have c1 : W3.cell? ⟨wr.heap.size, 1, none⟩ = some (.string (strOf t.text)) := HP3.out.1.at 1 _ rfl; have HR3 := Lib.hid (HROW.out W3 HP3.out.2); have hfz : W3.frozen? ⟨w.heap.size, i, none⟩ = false := HR3.out.frozen _; have hcl : W3.cell? ⟨w.heap.size, i, none⟩ = some (txtRow ts i i) := HR3.out.cell hlt; have k0 : ∀ v, (W3.setCell ⟨w.heap.size, i, none⟩ v).cell? ⟨wr.heap.size, 0, none⟩ = some (.int .i64 t.kind) := cell_other (Ne.symm hne) (HP3.out.1.at 0 _ rfl); have k1 : ∀ v, (W3.setCell ⟨w.heap.size, i, none⟩ v).cell? ⟨wr.heap.size, 1, none⟩ = some (.string (strOf t.text)) := cell_other (Ne.symm hne) c1))
        go_roundw
        case rel => exact ⟨i + 1, by omega, by go_num, Lib.hid ((HR3.out.set i (.string (strOf t.text))).congr (fun m _ => by rw [← hwt.out]; exact txtRow_step ts i t HTT.out m)), Lib.hid ⟨(chain2 hI.out.1 HP3.out.2).setCell (by simp) _, by simp; have := HP3.out.2.size; have := hI.out.2; omega⟩⟩
        case measure => simp [intOf]; omega
    · obtain rfl : i = n := by omega
      go_wp2_with fail
      refine (HJ.out wr hI.out.2 hrow.out).mono ?_
      rintro e w5 ⟨rfl, hb5⟩
      have HB := Lib.hid (chain2 hI.out.1 hb5)
      clear hb5
      go_wp2
      go_ret
      exact ⟨rfl, HB.out⟩

set_option maxHeartbeats 400000 in
theorem text_nil (p : Option Addr) (cp : Nat) (w : World) :
    Calls Tryz.prog 46 #[.slice p 0 cp] w fun e w' => e = .returned (.string (strOf (writeL []))) ∧ Below w.heap.size w w' := by
  have hmk : ∀ w : World, (Instr.makeSlice 104 (.int .i64 0) (.int .i64 0)).run Tryz.prog w = .ok (.slice (some ⟨w.heap.size, 0, none⟩) 0 0) (w.alloc (.cells (madeCells #[.string ⟨#[]⟩] 0) 9)) := fun w => run_make_row' (P := Tryz.prog) 104 9 (.string ⟨#[]⟩) 16 Tryz.underlying104 s_info3 rfl .i64 .i64 0 (by omega) (by omega) w
  go_enter Tryz.func46, Tryz.ntmps46
  go_wp2
  clear hmk
  go_loopw [11] (fun vi wr => vi = .int .i64 0 ∧ Hid (Below w.heap.size w wr)) (fun _ _ => 0)
  case atStart => exact ⟨rfl, Lib.hid ((Below.refl _ _).alloc (Nat.le_refl _) _)⟩
  case round =>
    obtain ⟨rfl, hb⟩ := hrel
    go_wp2_with fail
    refine (strings_Join_none _ _ _ _).mono ?_
    rintro e w5 ⟨rfl, rfl⟩
    go_wp2
    go_ret
    exact ⟨rfl, hb.out⟩

theorem text_any (v : Value) (ts : List Tk) (w : World) (hx : Toks w v ts) (hl : ts.length ≤ 40000) (hw : ∀ t ∈ ts, t.text.length ≤ 2 ^ 30) (hj : (writeL ts).length ≤ 2 ^ 40) :
    Calls Tryz.prog 46 #[v] w fun e w' => e = .returned (.string (strOf (writeL ts))) ∧ Below w.heap.size w w' := by
  obtain ⟨p, c, rfl, -, rfl | ⟨g, o, rfl, hg, hr⟩⟩ := hx
  · exact text_nil p c w
  · exact text_some g o c ts w hr hg hl hw hj

/-! how long texts are -/
theorem flat_ge : ∀ l : List UInt8, l.length ≤ (l.flatMap escL).length
  | [] => Nat.le_refl _
  | c :: r => by
    have := flat_ge r
    have h1 : 1 ≤ (escL c).length := by
      unfold escL
      split
      · decide
      · split <;> simp
    rw [List.flatMap_cons, List.length_append, List.length_cons]; omega
theorem text_le (t : Tk) : t.text.length ≤ (written t).length := by
  unfold written
  split
  · rw [quoteL_length]; have := flat_ge t.text; omega
  · exact Nat.le_refl _
theorem mem_join : ∀ (xs : List (List UInt8)) x, x ∈ xs → x.length ≤ (joinL xs).length
  | [], _, h => by cases h
  | [y], x, h => by
    rw [List.mem_singleton] at h
    subst h; exact Nat.le_refl _
  | y :: z :: r, x, h => by
    show x.length ≤ (y ++ 32 :: joinL (z :: r)).length
    rw [List.length_append, List.length_cons]
    rcases List.mem_cons.1 h with rfl | h
    · omega
    · have := mem_join (z :: r) x h; omega

end Go.Proofs.YtemlceicmpcboaaGreatDoor.Lx
namespace Go.Proofs.YtemlceicmpcboaaGreatDoor.Lx
open Go.RowKit Dk

set_option maxHeartbeats 400000 in
theorem rletter_any (r : Int) (w : World) : Calls Tryz.prog 121 #[.int .u8 r] w fun e w' => e = .returned (.bool (rL r)) ∧ w = w' := by
  rcases (show r < 97 ∨ (97 ≤ r ∧ r ≤ 122) ∨ 122 < r by omega) with h | ⟨h, h'⟩ | h
  all_goals
    go_enter Tryz.func121, Tryz.ntmps121
    go_wp2
    go_ret
    refine ⟨?_, rfl⟩
    congr 2
    unfold rL
    simp
    omega

set_option maxHeartbeats 400000 in
theorem rdigit_any (r : Int) (w : World) : Calls Tryz.prog 124 #[.int .u8 r] w fun e w' => e = .returned (.bool (rD r)) ∧ w = w' := by
  rcases (show r < 48 ∨ (48 ≤ r ∧ r ≤ 57) ∨ 57 < r by omega) with h | ⟨h, h'⟩ | h
  all_goals
    go_enter Tryz.func124, Tryz.ntmps124
    go_wp2
    go_ret
    refine ⟨?_, rfl⟩
    congr 2
    unfold rD
    simp
    omega

set_option maxHeartbeats 400000 in
theorem rblank_any (r : Int) (w : World) : Calls Tryz.prog 120 #[.int .u8 r] w fun e w' => e = .returned (.bool (rB r)) ∧ w = w' := by
  rcases (show r = 32 ∨ r = 9 ∨ r = 10 ∨ r = 13 ∨ (r ≠ 32 ∧ r ≠ 9 ∧ r ≠ 10 ∧ r ≠ 13) by omega) with rfl | rfl | rfl | rfl | ⟨h1, h2, h3, h4⟩
  all_goals
    go_enter Tryz.func120, Tryz.ntmps120
    go_wp2
    go_ret
    refine ⟨?_, rfl⟩
    simp [rB, *]

theorem row_strings (w : World) (ks : List (List UInt8)) (t : TypeId) (j : Nat) (k : List UInt8) (h : ks[j]? = some k) : (w.alloc (.cells (ks.map fun l => Value.string (strOf l)).toArray t)).cell? ⟨w.heap.size, j, none⟩ = some (.string (strOf k)) := by
  rw [World.cell?_alloc_mark]
  simp [h]

set_option maxHeartbeats 1000000 in
theorem rkey_any (l : List UInt8) (w : World) : Calls Tryz.prog 123 #[.string (strOf l)] w fun e w' => e = .returned (.bool (isKey l)) ∧ Below w.heap.size w w' := by
  have HB : Hid (Below w.heap.size w (w.alloc (.cells (keyList.map fun l => Value.string (strOf l)).toArray 9))) := Lib.hid ((Below.refl _ _).alloc (Nat.le_refl _) _)
  have HC := Lib.hid (fun j k h => row_strings w keyList 9 j k h)
  have HK := Lib.hid (isKey_iff l)
  go_enter Tryz.func123, Tryz.ntmps123
  go_wp2
  obtain ⟨W1, hW⟩ : ∃ W1, W1 = w.alloc (.cells (keyList.map fun l => Value.string (strOf l)).toArray 9) := ⟨_, rfl⟩
  rw [← hW] at HB HC
  go_loopw [4] (fun vi wr => ∃ j : Nat, j ≤ 20 ∧ vi = .int .i64 (j : Int) ∧ wr = W1 ∧ Hid (l ∉ keyList.take j)) (fun vi _ => 20 - (intOf vi).toNat)
  case atStart => exact ⟨0, Nat.zero_le _, rfl, hW.symm, Lib.hid (by simp)⟩
  case round =>
    obtain ⟨j, hj, rfl, rfl, hn⟩ := hrel
    by_cases hlt : j < 20
    · obtain ⟨k, hk⟩ : ∃ k, keyList[j]? = some k := ⟨_, List.getElem?_eq_getElem (by show j < 20; exact hlt)⟩
      have c := HC.out j k hk
      have hb := str_beq k l
      have z0 : (0 : Int) ≤ (j : Int) := by omega
      have z1 : (j : Int) < 20 := by omega
      by_cases he : k = l
      · have HT : Hid (isKey l = true) := Lib.hid (HK.out.2 (by rw [← he]; exact List.mem_of_getElem? hk))
        rw [decide_eq_true he] at hb
        generalize strOf k = y at *
        generalize strOf l = z at *
        clear he hk hW
        go_wp2
        go_ret
        exact ⟨by rw [HT.out]; rfl, HB.out⟩
      · have HN : Hid (l ∉ keyList.take (j + 1)) := Lib.hid (by
          have e := List.getElem?_eq_some_iff.1 hk
          obtain ⟨h1, h2⟩ := e
          rw [List.take_succ_eq_append_getElem h1, List.mem_append]
          rintro (h | h)
          · exact hn.out h
          · rw [List.mem_singleton, h2] at h; exact he h.symm)
        rw [decide_eq_false he] at hb
        generalize strOf k = y at *
        generalize strOf l = z at *
        clear he hk hW hn
        go_wp2
        go_roundw
        case rel => exact ⟨j + 1, by omega, by go_num, by trivial, HN⟩
        case measure => simp [intOf]; omega
    · obtain rfl : j = 20 := by omega
      have HF : Hid (isKey l = false) := Lib.hid (by
        cases h : isKey l with
        | false => rfl
        | true => exact absurd (HK.out.1 h) hn.out)
      clear hW hn
      go_wp2
      go_ret
      exact ⟨by rw [HF.out]; rfl, HB.out⟩

/-- How many bytes of a word stand there. -/
def wordN (L : List UInt8) : Nat := match L with
  | [] => 0
  | c :: r => if isL c then spanN isW (c :: r) else 0

end Go.Proofs.YtemlceicmpcboaaGreatDoor.Lx
namespace Go.Proofs.YtemlceicmpcboaaGreatDoor.Lx
open Go.RowKit Dk

/-- A byte at a place, and the rest. -/
theorem from_split (s : ByteArray) (a n : Nat) (h : a + n < s.size) : ∃ c r, (from' s a).drop n = c :: r ∧ from' s (a + n) = c :: r ∧ (from' s a).drop (n + 1) = r := by
  cases hd : (from' s a).drop n with
  | nil =>
    have := congrArg List.length hd
    rw [List.length_drop, from_length] at this
    simp at this
    omega
  | cons c r =>
    refine ⟨c, r, rfl, by rw [← from_drop, hd], ?_⟩
    rw [show n + 1 = n + 1 from rfl, ← List.drop_drop, hd]; rfl

theorem byte_sum {P : Program} (s : ByteArray) (a n : Nat) (c : UInt8) (r : List UInt8) (hl : from' s (a + n) = c :: r) (t : TypeId) (ht : P.underlying t = some .string) (W : World) : (Instr.index t (.string s) (.int .i64 ((a : Int) + (n : Int)))).run P W = .ok (.int .u8 (c.toNat : Int)) W := by
  have := byte_at (P := P) s (a + n) c r hl t ht W
  rwa [Int.natCast_add] at this

theorem rW_parts (x : Int) : rW x = (rL x || (rD x || decide (x = 95))) := by unfold rW; rw [Bool.or_assoc]

set_option maxHeartbeats 2000000 in
theorem word_any (s : ByteArray) (a : Nat) (w : World) (ha : a ≤ s.size) (hs : s.size ≤ 2 ^ 40) :
    Calls Tryz.prog 122 #[.string s, .int .i64 (a : Int)] w fun e w' => e = .returned (.int .i64 ((wordN (from' s a) : Nat) : Int)) ∧ w = w' := by
  have hlen := from_length s a
  go_enter Tryz.func122, Tryz.ntmps122
  go_wp2
  go_loopw [5] (fun vi wr => ∃ n : Nat, a + n ≤ s.size ∧ vi = .int .i64 (n : Int) ∧ wr = w ∧ Hid (n = 0 ∨ wordN (from' s a) = n + spanN isW ((from' s a).drop n))) (fun vi _ => s.size - (intOf vi).toNat)
  case atStart => exact ⟨0, ha, rfl, rfl, Lib.hid (.inl rfl)⟩
  case round =>
    obtain ⟨n, hn, rfl, rfl, hS⟩ := hrel
    have e1 : IntKind.i64.wrap ((a : Int) + (n : Int)) = (a : Int) + (n : Int) := IntWalk.i64_in _ (by omega)
    by_cases hlt : a + n < s.size
    · obtain ⟨c, r, h1, h2, h3⟩ := from_split s a n hlt
      have hix := fun W => byte_sum (P := Tryz.prog) s a n c r h2 9 Tryz.underlying9 W
      have CL := Lib.hid (fun W => rletter_any (c.toNat : Int) W)
      have CD := Lib.hid (fun W => rdigit_any (c.toNat : Int) W)
      have hlt' : (a : Int) + (n : Int) < (s.size : Int) := by omega
      have HW : Hid (∀ m : Nat, isW c = true → (n = 0 → isL c = true) → (n + 1 = 0 ∨ wordN (from' s a) = (n + 1 : Nat) + spanN isW ((from' s a).drop (n + 1)))) := Lib.hid (fun _ hw hz => by
        refine .inr ?_
        have hsp : spanN isW (c :: r) = spanN isW r + 1 := by rw [spanN, if_pos hw]
        rcases hS.out with h0 | h0
        · subst h0
          rw [List.drop_zero] at h1
          rw [h3, h1]
          show (if isL c = true then spanN isW (c :: r) else 0) = _
          rw [if_pos (hz rfl), hsp]; omega
        · rw [h0, h1, h3, hsp]; omega)
      have HE0 : Hid (n = 0 → isL c = false → wordN (from' s a) = 0) := Lib.hid (fun h0 hl => by
        subst h0
        rw [List.drop_zero] at h1
        rw [h1]
        show (if isL c = true then _ else 0) = _
        rw [if_neg (by rw [hl]; exact Bool.false_ne_true)])
      have HE1 : Hid (n ≠ 0 → isW c = false → wordN (from' s a) = n) := Lib.hid (fun h0 hl => by
        rcases hS.out with h4 | h4
        · exact absurd h4 h0
        · rw [h4, h1, spanN, if_neg (by rw [hl]; exact Bool.false_ne_true)]; rfl)
      clear h1 h2 h3 hS
      have ARM : True := trivial
      cases hl : rL (c.toNat : Int) with
      | true =>
        have HN := Lib.hid (HW.out 0 (isL_W hl) (fun _ => hl))
        rw [hl] at CL
        clear hl
        go_wp2_with (go_at_call 121; refine (CL.out _).mono ?_; rintro e w' ⟨rfl, rfl⟩)
        go_roundw
        case rel => exact ⟨n + 1, by omega, by go_num, by trivial, HN⟩
        case measure => simp [intOf]; omega
      | false =>
        have HL : Hid (isL c = false) := Lib.hid hl
        have hwp := rW_parts (c.toNat : Int)
        rw [hl, Bool.false_or] at hwp
        rw [hl] at CL
        clear hl
        by_cases h0 : n = 0
        · have HF := Lib.hid (HE0.out h0 HL.out)
          have h0' : ¬(n : Int) > 0 := by omega
          clear hwp h0
          go_wp2_with (go_at_call 121; refine (CL.out _).mono ?_; rintro e w' ⟨rfl, rfl⟩)
          go_ret
          exact ⟨by rw [HF.out]; have : n = 0 := by omega
                    subst this; rfl, rfl⟩
        · have h0' : (n : Int) > 0 := by omega
          cases hd : rD (c.toNat : Int) with
          | true =>
            rw [hd, Bool.true_or] at hwp
            have HN := Lib.hid (HW.out 0 hwp (fun h => absurd h h0))
            rw [hd] at CD
            clear hd hwp
            go_wp2_with (first
              | (go_at_call 121; refine (CL.out _).mono ?_; rintro e w' ⟨rfl, rfl⟩)
              | (go_at_call 124; refine (CD.out _).mono ?_; rintro e w' ⟨rfl, rfl⟩))
            go_roundw
            case rel => exact ⟨n + 1, by omega, by go_num, by trivial, HN⟩
            case measure => simp [intOf]; omega
          | false =>
            rw [hd, Bool.false_or] at hwp
            rw [hd] at CD
            clear hd
            by_cases h95 : (c.toNat : Int) = 95
            · rw [decide_eq_true h95] at hwp
              have HN := Lib.hid (HW.out 0 hwp (fun h => absurd h h0))
              have v1 : ((c.toNat : Int) == 95) = true := by simpa using h95
              generalize (c.toNat : Int) = x at *
              clear hwp h95
              go_wp2_with (first
                | (go_at_call 121; refine (CL.out _).mono ?_; rintro e w' ⟨rfl, rfl⟩)
                | (go_at_call 124; refine (CD.out _).mono ?_; rintro e w' ⟨rfl, rfl⟩))
              go_roundw
              case rel => exact ⟨n + 1, by omega, by go_num, by trivial, HN⟩
              case measure => simp [intOf]; omega
            · rw [decide_eq_false h95] at hwp
              have HF := Lib.hid (HE1.out h0 hwp)
              have v1 : ((c.toNat : Int) == 95) = false := by simpa using h95
              generalize (c.toNat : Int) = x at *
              clear hwp h95
              go_wp2_with (first
                | (go_at_call 121; refine (CL.out _).mono ?_; rintro e w' ⟨rfl, rfl⟩)
                | (go_at_call 124; refine (CD.out _).mono ?_; rintro e w' ⟨rfl, rfl⟩))
              go_ret
              exact ⟨by rw [HF.out]; rfl, rfl⟩
    · have hge : ¬(a : Int) + (n : Int) < (s.size : Int) := by omega
      have HF : Hid (wordN (from' s a) = n) := Lib.hid (by
        have hd : (from' s a).drop n = [] := List.drop_eq_nil_of_le (by omega)
        rcases hS.out with h0 | h0
        · subst h0
          rw [List.drop_zero] at hd
          rw [hd]; rfl
        · rw [h0, hd]; rfl)
      clear hS
      go_wp2
      go_ret
      exact ⟨by rw [HF.out]; rfl, rfl⟩

theorem isName_word (l : List UInt8) : isName l = (decide (0 < l.length) && decide (l.length ≤ 16) && decide (wordN l = l.length) && !isKey l) := by
  cases l with
  | nil => rfl
  | cons c r =>
    rw [isName_cons]
    cases h : isL c with
    | true =>
      have e : wordN (c :: r) = spanN isW (c :: r) := if_pos h
      rw [e]
      simp
    | false =>
      have e : wordN (c :: r) = 0 := if_neg (by rw [h]; exact Bool.false_ne_true)
      rw [e]
      simp

set_option maxHeartbeats 1000000 in
theorem rname_any (l : List UInt8) (w : World) (hs : l.length ≤ 2 ^ 40) : Calls Tryz.prog 137 #[.string (strOf l)] w fun e w' => e = .returned (.bool (isName l)) ∧ Below w.heap.size w w' := by
  have hsz := strOf_size l
  have CW : Hid (∀ W, Calls Tryz.prog 122 #[.string (strOf l), .int .i64 0] W fun e w' => e = .returned (.int .i64 ((wordN l : Nat) : Int)) ∧ W = w') := Lib.hid (fun W => by
    have := word_any (strOf l) 0 W (Nat.zero_le _) (by omega)
    rw [show from' (strOf l) 0 = l by simp [from', strOf]] at this
    exact this)
  have CK := Lib.hid (fun W => rkey_any l W)
  have HN := Lib.hid (isName_word l)
  generalize isName l = N at *
  generalize l.length = m at *
  generalize wordN l = n at *
  generalize isKey l = K at *
  generalize strOf l = s at *
  by_cases h0 : 0 < m
  · by_cases h16 : m ≤ 16
    · by_cases hn : n = m
      · have HF : Hid (N = !K) := Lib.hid (by rw [HN.out]; simp [h0, h16, hn])
        subst hn
        cases K
        all_goals
          go_enter Tryz.func137, Tryz.ntmps137
          go_wp2_with (first
            | (go_at_call 122; refine (CW.out _).mono ?_; rintro e w' ⟨rfl, rfl⟩)
            | (go_at_call 123; refine (CK.out _).mono ?_; rintro e w' ⟨rfl, hb⟩; have HB := Lib.hid hb; clear hb))
          go_ret
          exact ⟨by rw [HF.out]; rfl, HB.out⟩
      · have HF : Hid (N = false) := Lib.hid (by rw [HN.out]; simp [hn])
        have hnm : ((n : Int) == (m : Int)) = false := by simp; omega
        go_enter Tryz.func137, Tryz.ntmps137
        go_wp2_with (go_at_call 122; refine (CW.out _).mono ?_; rintro e w' ⟨rfl, rfl⟩)
        go_ret
        exact ⟨by rw [HF.out]; rfl, Below.refl _ _⟩
    · have HF : Hid (N = false) := Lib.hid (by rw [HN.out]; simp [h16])
      go_enter Tryz.func137, Tryz.ntmps137
      go_wp2
      go_ret
      exact ⟨by rw [HF.out]; rfl, Below.refl _ _⟩
  · have HF : Hid (N = false) := Lib.hid (by rw [HN.out]; simp [h0])
    go_enter Tryz.func137, Tryz.ntmps137
    go_wp2
    go_ret
    exact ⟨by rw [HF.out]; rfl, Below.refl _ _⟩

end Go.Proofs.YtemlceicmpcboaaGreatDoor.Lx
namespace Go.Proofs.YtemlceicmpcboaaGreatDoor.Lx
open Go.RowKit Dk

def num1 (a : Nat) (c : UInt8) : Nat := a * 10 + (c.toNat - 48)
theorem numV_take (T : List UInt8) (i : Nat) (h : i < T.length) : numV (T.take (i + 1)) = numV (T.take i) * 10 + (T[i].toNat - 48) := by
  unfold numV
  rw [List.take_succ_eq_append_getElem h, List.foldl_append]
  rfl
theorem dig {c : UInt8} (h : isD c = true) : 48 ≤ c.toNat ∧ c.toNat ≤ 57 := by unfold isD rD at h; simp at h; omega
theorem fold_lt : ∀ (l : List UInt8) (a k : Nat), (∀ c ∈ l, isD c = true) → a < 10 ^ k → l.foldl (fun a c => a * 10 + (c.toNat - 48)) a < 10 ^ (k + l.length)
  | [], _, _, _, h => h
  | c :: r, a, k, hd, h => by
    have hc := dig (hd c (by simp))
    rw [List.foldl_cons, List.length_cons, show k + (r.length + 1) = (k + 1) + r.length by omega]
    refine fold_lt r _ (k + 1) (fun x hx => hd x (by simp [hx])) ?_
    rw [Nat.pow_succ]
    omega
theorem fold_ge : ∀ (l : List UInt8) (a : Nat), a * 10 ^ l.length ≤ l.foldl (fun a c => a * 10 + (c.toNat - 48)) a
  | [], a => by simp
  | c :: r, a => by
    have := fold_ge r (a * 10 + (c.toNat - 48))
    rw [List.foldl_cons, List.length_cons, Nat.pow_succ]
    refine Nat.le_trans ?_ this
    rw [show a * (10 ^ r.length * 10) = (a * 10) * 10 ^ r.length by rw [Nat.mul_comm (10 ^ r.length), Nat.mul_assoc]]
    exact Nat.mul_le_mul_right _ (by omega)

theorem numL_long {T : List UInt8} (hd : ∀ c ∈ T, isD c = true) (hl : 19 < T.length) : numL T = none := by
  unfold numL
  cases T with
  | nil => simp at hl
  | cons c r =>
    by_cases h0 : c = 48
    · rw [if_pos ⟨by omega, by rw [h0]; rfl⟩]
    · rw [if_neg (by rintro ⟨_, h⟩; exact h0 (Option.some.inj h)), if_neg]
      have hc := dig (hd c (by simp))
      have hc2 : c.toNat ≠ 48 := fun e => h0 (UInt8.toNat_inj.1 e)
      have h1 := fold_ge r (0 * 10 + (c.toNat - 48))
      have h2 : 10 ^ 19 ≤ 10 ^ r.length := Nat.pow_le_pow_right (by decide) (by rw [List.length_cons] at hl; omega)
      have h3 : 1 * 10 ^ r.length ≤ (0 * 10 + (c.toNat - 48)) * 10 ^ r.length := Nat.mul_le_mul_right _ (by omega)
      show ¬(List.foldl (fun a c => a * 10 + (c.toNat - 48)) (0 * 10 + (c.toNat - 48)) r) < _
      have h4 : (2 : Nat) ^ 63 ≤ 10 ^ 19 := by decide
      omega

/-- What the document's number answers. -/
structure NumR (x : Ending) (T : List UInt8) : Prop where
  yes : ∀ v, numL T = some v → x = .returned (.tuple #[.int .i64 (v : Nat), .bool true])
  no : numL T = none → ∃ n, x = .returned (.tuple #[.int .i64 n, .bool false])

set_option maxHeartbeats 2000000 in
theorem number_any (c : UInt8) (r : List UInt8) (w : World) (hd : ∀ x ∈ (c :: r), isD x = true) (hl : (c :: r).length ≤ 2 ^ 40) :
    Calls Tryz.prog 125 #[.string (strOf (c :: r))] w fun e w' => NumR e (c :: r) ∧ w = w' := by
  have hsz := strOf_size (c :: r)
  have hix0 : ∀ W : World, (Instr.index 9 (.string (strOf (c :: r))) (.int .i64 0)).run Tryz.prog W = .ok (.int .u8 (c.toNat : Int)) W := fun W => by
    have h1 : ((strOf (c :: r))[0]'(by rw [hsz]; simp)) = c := rfl
    rw [← h1]
    go_simp
  by_cases h19 : (c :: r).length > 19
  · have HF := Lib.hid (numL_long hd h19)
    have g1 : ((strOf (c :: r)).size : Int) > 19 := by omega
    generalize strOf (c :: r) = s at *
    clear hsz h19 hl hd
    go_enter Tryz.func125, Tryz.ntmps125
    go_wp2
    go_ret2
    exact ⟨⟨fun v h => (by rw [HF.out] at h; cases h), fun _ => ⟨_, rfl⟩⟩, rfl⟩
  · have g1 : ¬((strOf (c :: r)).size : Int) > 19 := by omega
    by_cases hz : (c :: r).length > 1 ∧ c.toNat = 48
    · have HF : Hid (numL (c :: r) = none) := Lib.hid (by unfold numL; rw [if_pos ⟨hz.1, by rw [List.head?_cons]; congr 1; exact UInt8.toNat_inj.1 hz.2⟩])
      have g2 : ((strOf (c :: r)).size : Int) > 1 := by omega
      have g3 : ((c.toNat : Int) == 48) = true := by rw [hz.2]; rfl
      generalize strOf (c :: r) = s at *
      clear hz hsz h19 hl hd
      go_enter Tryz.func125, Tryz.ntmps125
      go_wp2
      go_ret2
      exact ⟨⟨fun v h => (by rw [HF.out] at h; cases h), fun _ => ⟨_, rfl⟩⟩, rfl⟩
    · have HNL : Hid (numL (c :: r) = if numV (c :: r) < 2 ^ 63 then some (numV (c :: r)) else none) := Lib.hid (by
        unfold numL; rw [if_neg]; rintro ⟨h1, h2⟩; exact hz ⟨h1, by rw [List.head?_cons] at h2; rw [Option.some.inj h2]; rfl⟩)
      have HD := Lib.hid hd
      have HV : Hid (∀ i, i ≤ (c :: r).length → numV ((c :: r).take i) < 10 ^ 19) := Lib.hid (fun i hi => by
        have h1 := fold_lt ((c :: r).take i) 0 0 (fun x hx => hd x (List.mem_of_mem_take hx)) (by decide)
        rw [List.length_take, Nat.min_eq_left hi, Nat.zero_add] at h1
        exact Nat.lt_of_lt_of_le h1 (Nat.pow_le_pow_right (by decide) (by omega)))
      have HIX : Hid (∀ (i : Nat) (h : i < (c :: r).length) (W : World), (Instr.index 9 (.string (strOf (c :: r))) (.int .i64 (i : Int))).run Tryz.prog W = .ok (.int .u8 (((c :: r)[i]).toNat : Int)) W) := Lib.hid (fun i h W => by
        have hd2 := List.drop_eq_getElem_cons h
        exact byte_at (P := Tryz.prog) (strOf (c :: r)) i _ _ (by unfold from'; rw [strOf_toList]; exact hd2) 9 Tryz.underlying9 W)
      have HTS : Hid (∀ i (h : i < (c :: r).length), numV ((c :: r).take (i + 1)) = numV ((c :: r).take i) * 10 + ((c :: r)[i].toNat - 48)) := Lib.hid (fun i h => numV_take _ i h)
      have key : ¬((strOf (c :: r)).size : Int) > 1 ∨ (((strOf (c :: r)).size : Int) > 1 ∧ ((c.toNat : Int) == 48) = false) := by
        by_cases h : (c :: r).length > 1
        · refine .inr ⟨by omega, ?_⟩
          have : c.toNat ≠ 48 := fun e => hz ⟨h, e⟩
          simp; omega
        · exact .inl (by omega)
      have HT : Hid (numV ((c :: r).take (c :: r).length) = numV (c :: r)) := Lib.hid (by rw [List.take_length])
      have hm1 : 1 ≤ (c :: r).length := by simp
      generalize hTT : c :: r = T at *
      have HCC := Lib.hid hTT
      clear hTT hd hz
      have HSZ := Lib.hid hsz
      clear hsz
      rcases key with k1 | ⟨k1, k2⟩
      all_goals
        go_enter Tryz.func125, Tryz.ntmps125
        go_wp2
        go_loopw [4, 5] (fun vn vi wr => ∃ i : Nat, i ≤ T.length ∧ vi = .int .i64 (i : Int) ∧ vn = .int .u64 ((numV (T.take i) : Nat) : Int) ∧ wr = w) (fun _ vi _ => T.length - (intOf vi).toNat)
        case atStart => exact ⟨0, Nat.zero_le _, rfl, rfl, rfl⟩
        case round =>
          obtain ⟨i, hi, rfl, rfl, rfl⟩ := hrel
          have hv := HV.out i hi
          by_cases hlt : i < T.length
          · have hix := fun W => HIX.out i hlt W
            have hc := dig (HD.out T[i] (List.getElem_mem hlt))
            have hts := HTS.out i hlt
            have hv2 := HV.out (i + 1) hlt
            rw [hts] at hv2
            generalize numV (T.take i) = m at *
            generalize hx : T[i].toNat = x at *
            have s1 : IntKind.u64.wrap (10 * (m : Int)) = 10 * (m : Int) := by rw [IntKind.wrap_u64]; omega
            have s2 : IntKind.u8.wrap ((x : Int) - 48) = (x : Int) - 48 := by simp [IntKind.wrap, IntKind.bits, IntKind.signed]; omega
            have s3 : IntKind.u64.wrap ((x : Int) - 48) = (x : Int) - 48 := by rw [IntKind.wrap_u64]; omega
            have s4 : IntKind.u64.wrap (10 * (m : Int) + ((x : Int) - 48)) = 10 * (m : Int) + ((x : Int) - 48) := by rw [IntKind.wrap_u64]; omega
            have HTT := Lib.hid hts
            have g4 : (i : Int) < ((strOf T).size : Int) := by have := HSZ.out; omega
            have HXR := Lib.hid (show 48 ≤ x ∧ x ≤ 57 from hc)
            clear hts hx hv hv2 hc
            go_wp2
            go_roundw
            case rel => exact ⟨i + 1, hlt, by go_num, by rw [HTT.out]; congr 1; have := HXR.out; omega, by trivial⟩
            case measure => simp [intOf]; omega
          · obtain rfl : i = T.length := by omega
            rw [HT.out] at hv ⊢
            have g4 : ¬((T.length : Int)) < ((strOf T).size : Int) := by have := HSZ.out; omega
            generalize numV T = V at *
            by_cases h63 : V < 2 ^ 63
            · have g5 : (V : Int) < 9223372036854775808 := by omega
              have s5 : IntKind.i64.wrap (V : Int) = (V : Int) := IntWalk.i64_in _ (by omega)
              go_wp2
              go_ret2
              exact ⟨⟨fun v h => (by rw [HNL.out, if_pos h63] at h; cases h; rfl), fun h => (by rw [HNL.out, if_pos h63] at h; cases h)⟩, rfl⟩
            · have g5 : ¬(V : Int) < 9223372036854775808 := by omega
              go_wp2
              go_ret2
              exact ⟨⟨fun v h => (by rw [HNL.out, if_neg h63] at h; cases h), fun _ => ⟨_, rfl⟩⟩, rfl⟩

end Go.Proofs.YtemlceicmpcboaaGreatDoor.Lx
