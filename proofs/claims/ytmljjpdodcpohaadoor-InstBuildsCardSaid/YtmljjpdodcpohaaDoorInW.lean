/- The walks of the laws InstOps, InstShapes, InstParses and InstBack. No condition but that the table of formats lies where its variable is. -/
import Derived.Test.YtmljjpdodcpohaaDoorInK
namespace Go.Proofs.YtmljjpdodcpohaaDoor.In
open Go.RowKit Dk

theorem str_none (q : ByteArray) (l : List UInt8) (h : q = strOf l) : (q.toList == []) = (l == []) := by rw [h, strOf_tl]
theorem bne_not (a b : List UInt8) (h : (a == b) = false) : (a != b) = true := by simp [bne, h]
theorem bne_yes (a b : List UInt8) (h : (a == b) = true) : (a != b) = false := by simp [bne, h]

theorem strOf_self (s : ByteArray) : strOf s.data.toList = s := by unfold strOf; simp

set_option maxHeartbeats 2000000 in
set_option maxRecDepth 100000 in
theorem instOps_law (op : Int) (_wo : (Lit.int .i64 op).wf = true) (w : World) (HF : HasF w) : Calls Tryd.prog 7 #[.int .i64 op] w fun e w' => e = .returned (.bool true) ∧ Below w.heap.size w w' := by
  have HHF := Lib.hid HF
  have BD : Hid (Calls Tryd.prog 8 #[.agg #[.int .i64 op, .int .i64 0, .int .i64 0, .int .i64 0]] w fun e w' => e = .returned (if rightB ⟨op, 0, 0, 0⟩ then .tuple #[.string (strOf (buildL ⟨op, 0, 0, 0⟩)), .int .i64 0] else .tuple #[.string ⟨#[]⟩, .int .i64 4]) ∧ Below w.heap.size w w') := Lib.hid (build_any ⟨op, 0, 0, 0⟩ w HF)
  have RT : Hid (∀ W, HasF W → Calls Tryd.prog 10 #[.agg #[.int .i64 op, .int .i64 0, .int .i64 0, .int .i64 0]] W fun e w' => e = .returned (.bool (rightB ⟨op, 0, 0, 0⟩)) ∧ Below W.heap.size W w') := Lib.hid (fun W h => right_any ⟨op, 0, 0, 0⟩ W h)
  have SH := Lib.hid (fun W h => shape_any op W h)
  have NM := Lib.hid (fun W h => name_any op W h)
  rw [right_zero] at BD RT
  generalize buildL ⟨op, 0, 0, 0⟩ = bl at *
  generalize strOf bl = bs at *
  by_cases h : 0 ≤ op ∧ op < 38
  · have t0 : ((strOf (shapeL op)).toList == []) = false := by rw [strOf_tl]; simpa using shape_pos h
    have t1 : ((strOf (nameL op)).toList == []) = false := by rw [strOf_tl]; simpa using name_pos h
    rw [decide_eq_true h] at BD RT
    replace BD := Lib.hid (show Calls Tryd.prog 8 #[.agg #[.int .i64 op, .int .i64 0, .int .i64 0, .int .i64 0]] w fun e w' => e = .returned (.tuple #[.string bs, .int .i64 0]) ∧ Below w.heap.size w w' from BD.out)
    have v0 : op ≥ 0 := h.1
    have v1 : op < 38 := h.2
    generalize strOf (shapeL op) = sq at *
    generalize strOf (nameL op) = nq at *
    clear HF h
    go_enter Tryd.func7, Tryd.ntmps7
    go_wp2_with (first
      | (go_at_call 8; refine BD.out.mono ?_; rintro e W1 ⟨rfl, hb⟩; have HB1 := Lib.hid hb; have HF1 := Lib.hid (HHF.out.later hb); clear hb BD)
      | (go_at_call 14; refine (SH.out _ HF1.out).mono ?_; rintro e W2 ⟨rfl, rfl⟩)
      | (go_at_call 16; refine (NM.out _ HF1.out).mono ?_; rintro e W2 ⟨rfl, rfl⟩)
      | (go_at_call 10; refine (RT.out _ HF1.out).mono ?_; rintro e W3 ⟨rfl, hb⟩; have HB3 := Lib.hid (chain2 HB1.out hb); have HF3 := Lib.hid (HF1.out.later hb); clear hb HB1 HF1)
      | (go_at_call 18; refine (known13 _ HF3.out).mono ?_; rintro e W4 ⟨rfl, hb⟩; have HB4 := Lib.hid (chain2 HB3.out hb); clear hb))
    go_ret
    exact ⟨rfl, HB4.out⟩
  · have t0 : ((strOf (shapeL op)).toList == []) = true := by rw [strOf_tl, shape_none h]; rfl
    have t1 : ((strOf (nameL op)).toList == []) = true := by rw [strOf_tl, name_none h]; rfl
    rw [decide_eq_false h] at BD RT
    replace BD := Lib.hid (show Calls Tryd.prog 8 #[.agg #[.int .i64 op, .int .i64 0, .int .i64 0, .int .i64 0]] w fun e w' => e = .returned (.tuple #[.string ⟨#[]⟩, .int .i64 4]) ∧ Below w.heap.size w w' from BD.out)
    generalize strOf (shapeL op) = sq at *
    generalize strOf (nameL op) = nq at *
    by_cases v0 : op ≥ 0
    · have v1 : ¬op < 38 := fun k => h ⟨v0, k⟩
      clear HF h
      go_enter Tryd.func7, Tryd.ntmps7
      go_wp2_with (first
        | (go_at_call 8; refine BD.out.mono ?_; rintro e W1 ⟨rfl, hb⟩; have HB1 := Lib.hid hb; have HF1 := Lib.hid (HHF.out.later hb); clear hb BD)
        | (go_at_call 14; refine (SH.out _ HF1.out).mono ?_; rintro e W2 ⟨rfl, rfl⟩)
        | (go_at_call 16; refine (NM.out _ HF1.out).mono ?_; rintro e W2 ⟨rfl, rfl⟩)
        | (go_at_call 10; refine (RT.out _ HF1.out).mono ?_; rintro e W3 ⟨rfl, hb⟩; have HB3 := Lib.hid (chain2 HB1.out hb); have HF3 := Lib.hid (HF1.out.later hb); clear hb HB1 HF1)
        | (go_at_call 18; refine (known13 _ HF3.out).mono ?_; rintro e W4 ⟨rfl, hb⟩; have HB4 := Lib.hid (chain2 HB3.out hb); clear hb))
      go_ret
      exact ⟨rfl, HB4.out⟩
    · clear HF h
      go_enter Tryd.func7, Tryd.ntmps7
      go_wp2_with (first
        | (go_at_call 8; refine BD.out.mono ?_; rintro e W1 ⟨rfl, hb⟩; have HB1 := Lib.hid hb; have HF1 := Lib.hid (HHF.out.later hb); clear hb BD)
        | (go_at_call 14; refine (SH.out _ HF1.out).mono ?_; rintro e W2 ⟨rfl, rfl⟩)
        | (go_at_call 16; refine (NM.out _ HF1.out).mono ?_; rintro e W2 ⟨rfl, rfl⟩)
        | (go_at_call 10; refine (RT.out _ HF1.out).mono ?_; rintro e W3 ⟨rfl, hb⟩; have HB3 := Lib.hid (chain2 HB1.out hb); have HF3 := Lib.hid (HF1.out.later hb); clear hb HB1 HF1)
        | (go_at_call 18; refine (known13 _ HF3.out).mono ?_; rintro e W4 ⟨rfl, hb⟩; have HB4 := Lib.hid (chain2 HB3.out hb); clear hb))
      go_ret
      exact ⟨rfl, HB4.out⟩

set_option maxHeartbeats 2000000 in
set_option maxRecDepth 100000 in
theorem instShapes_law (a : Int) (_wa : (Lit.int .i64 a).wf = true) (b : Int) (_wb : (Lit.int .i64 b).wf = true) (w : World) (HF : HasF w) : Calls Tryd.prog 6 #[.int .i64 a, .int .i64 b] w fun e w' => e = .returned (.bool true) ∧ Below w.heap.size w w' := by
  have HHF := Lib.hid HF
  have SH := Lib.hid (shape_any a w HF)
  have NM := Lib.hid (name_any a w HF)
  have NB := Lib.hid (name_any b w HF)
  by_cases h : 0 ≤ a ∧ a < 38
  · have t0 : ((strOf (shapeL a)).toList == []) = false := by rw [strOf_tl]; simpa using shape_pos h
    have t1 : ((strOf (nameL a)).toList == []) = false := by rw [strOf_tl]; simpa using name_pos h
    have hsz := strOf_size (shapeL a)
    have hl := shape_len h
    have ix : (shapeL a).length = 2 → ∀ W : World, (Instr.index 9 (.string (strOf (shapeL a))) (.int .i64 1)).run Tryd.prog W = .ok (.int .u8 119) W := fun h2 W => by
      have h3 : (shapeL a)[1]? = some 119 := by
        rcases hl with h4 | ⟨-, h4⟩
        · omega
        · rw [List.getElem?_eq_getElem (by omega)]
          rw [List.getD_eq_getElem?_getD, List.getElem?_eq_getElem (by omega)] at h4
          exact congrArg some h4
      exact idx_run _ 1 119 h3 W
    by_cases hab : a = b
    · subst hab
      have e1 : (a == a) = true := by simp
      rcases hl with h3 | ⟨h2, -⟩
      · have s1 : ((strOf (shapeL a)).size : Int) = 3 := by rw [hsz, h3]; rfl
        clear ix h3 hsz h HF
        generalize strOf (shapeL a) = sq at *
        generalize strOf (nameL a) = nq at *
        go_enter Tryd.func6, Tryd.ntmps6
        go_wp2_with (first
          | (go_at_call 14; refine SH.out.mono ?_; rintro e W2 ⟨rfl, rfl⟩; clear SH)
          | (go_at_call 16; refine NM.out.mono ?_; rintro e W2 ⟨rfl, rfl⟩; clear NM)
          | (go_at_call 18; refine (known13 _ HHF.out).mono ?_; rintro e W4 ⟨rfl, hb⟩; have HB4 := Lib.hid hb; clear hb))
        go_ret
        exact ⟨rfl, HB4.out⟩
      · have s2 : ((strOf (shapeL a)).size : Int) = 2 := by rw [hsz, h2]; rfl
        have ix2 := ix h2
        clear ix h2 hsz h HF
        generalize strOf (shapeL a) = sq at *
        generalize strOf (nameL a) = nq at *
        go_enter Tryd.func6, Tryd.ntmps6
        go_wp2_with (first
          | (go_at_call 14; refine SH.out.mono ?_; rintro e W2 ⟨rfl, rfl⟩; clear SH)
          | (go_at_call 16; refine NM.out.mono ?_; rintro e W2 ⟨rfl, rfl⟩; clear NM)
          | (go_at_call 18; refine (known13 _ HHF.out).mono ?_; rintro e W4 ⟨rfl, hb⟩; have HB4 := Lib.hid hb; clear hb))
        go_ret
        exact ⟨rfl, HB4.out⟩
    · have e1 : (a == b) = false := by simpa using hab
      have e2 : ((strOf (nameL a)).toList == (strOf (nameL b)).toList) = false := by
        rw [strOf_tl, strOf_tl]
        simpa using fun k => hab (names_apart k (name_pos h))
      rcases hl with h3 | ⟨h2, -⟩
      · have s1 : ((strOf (shapeL a)).size : Int) = 3 := by rw [hsz, h3]; rfl
        clear ix h3 hsz h HF hab
        generalize strOf (shapeL a) = sq at *
        generalize strOf (nameL a) = nq at *
        generalize strOf (nameL b) = nb at *
        go_enter Tryd.func6, Tryd.ntmps6
        go_wp2_with (first
          | (go_at_call 14; refine SH.out.mono ?_; rintro e W2 ⟨rfl, rfl⟩; clear SH)
          | (go_at_call 16; refine NM.out.mono ?_; rintro e W2 ⟨rfl, rfl⟩; clear NM)
          | (go_at_call 16; refine NB.out.mono ?_; rintro e W2 ⟨rfl, rfl⟩)
          | (go_at_call 18; refine (known13 _ HHF.out).mono ?_; rintro e W4 ⟨rfl, hb⟩; have HB4 := Lib.hid hb; clear hb))
        go_ret
        exact ⟨rfl, HB4.out⟩
      · have s2 : ((strOf (shapeL a)).size : Int) = 2 := by rw [hsz, h2]; rfl
        have ix2 := ix h2
        clear ix h2 hsz h HF hab
        generalize strOf (shapeL a) = sq at *
        generalize strOf (nameL a) = nq at *
        generalize strOf (nameL b) = nb at *
        go_enter Tryd.func6, Tryd.ntmps6
        go_wp2_with (first
          | (go_at_call 14; refine SH.out.mono ?_; rintro e W2 ⟨rfl, rfl⟩; clear SH)
          | (go_at_call 16; refine NM.out.mono ?_; rintro e W2 ⟨rfl, rfl⟩; clear NM)
          | (go_at_call 16; refine NB.out.mono ?_; rintro e W2 ⟨rfl, rfl⟩)
          | (go_at_call 18; refine (known13 _ HHF.out).mono ?_; rintro e W4 ⟨rfl, hb⟩; have HB4 := Lib.hid hb; clear hb))
        go_ret
        exact ⟨rfl, HB4.out⟩
  · have t0 : ((strOf (shapeL a)).toList == []) = true := by rw [strOf_tl, shape_none h]; rfl
    have t1 : ((strOf (nameL a)).toList == []) = true := by rw [strOf_tl, name_none h]; rfl
    clear h HF NB
    generalize strOf (shapeL a) = sq at *
    generalize strOf (nameL a) = nq at *
    go_enter Tryd.func6, Tryd.ntmps6
    go_wp2_with (first
      | (go_at_call 14; refine SH.out.mono ?_; rintro e W2 ⟨rfl, rfl⟩; clear SH)
      | (go_at_call 16; refine NM.out.mono ?_; rintro e W2 ⟨rfl, rfl⟩; clear NM)
      | (go_at_call 18; refine (known13 _ HHF.out).mono ?_; rintro e W4 ⟨rfl, hb⟩; have HB4 := Lib.hid hb; clear hb))
    go_ret
    exact ⟨rfl, HB4.out⟩

set_option maxHeartbeats 2000000 in
set_option maxRecDepth 100000 in
theorem instParses_law (s : ByteArray) (_hs : s.size ≤ maxLen) (k : Int) (wk : (Lit.int .i64 k).wf = true) (w : World) (HF : HasF w) : Calls Tryd.prog 4 #[.string s, .int .i64 k] w fun e w' => e = .returned (.bool true) ∧ Below w.heap.size w w' := by
  have HHF := Lib.hid HF
  have hk : k < 9223372036854775808 := by simp [Lit.wf, IntKind.min, IntKind.max, IntKind.bits, IntKind.signed] at wk; omega
  by_cases hl : s.size ≤ 10000
  case neg =>
    have v0 : (s.size : Int) > 10000 := by omega
    clear hl HF
    go_enter Tryd.func4, Tryd.ntmps4
    go_wp2_with (go_at_call 18; refine (known13 _ HHF.out).mono ?_; rintro e W4 ⟨rfl, hb⟩)
    go_ret
    exact ⟨rfl, hb⟩
  have v0 : ¬(s.size : Int) > 10000 := by omega
  have hsl : s.data.toList.length ≤ 2 ^ 40 := by have : s.data.toList.length = s.size := by simp
                                                 omega
  have PA : Hid (Calls Tryd.prog 19 #[.string s, .int .i64 k] w fun e w' => e = .returned (ansV (parseL s.data.toList k)) ∧ Below w.heap.size w w') := Lib.hid (by have := parse_any s.data.toList k w HF hsl hk; rwa [strOf_self] at this)
  have PB : Hid (∀ W, Calls Tryd.prog 20 #[.string s, .int .i64 k] W fun e w' => e = .returned (ansV (parseL s.data.toList k)) ∧ Below W.heap.size W w') := Lib.hid (fun W => by have := rparse_any s.data.toList k W hsl hk; rwa [strOf_self] at this)
  have HIA := Lib.hid i_infoA
  have HA := Lib.hid i_all
  generalize parseL s.data.toList k = pr at *
  obtain ⟨x, er⟩ := pr
  replace PA : Hid (Calls Tryd.prog 19 #[.string s, .int .i64 k] w fun e w' => e = .returned (.tuple #[.agg x.cells.toArray, .int .i64 er]) ∧ Below w.heap.size w w') := PA
  replace PB : Hid (∀ W, Calls Tryd.prog 20 #[.string s, .int .i64 k] W fun e w' => e = .returned (.tuple #[.agg x.cells.toArray, .int .i64 er]) ∧ Below W.heap.size W w') := PB
  have e1 : (er == er) = true := by simp
  clear hl hsl HF wk hk
  go_enter Tryd.func4, Tryd.ntmps4
  go_wp2_with (first
    | (go_at_call 19; refine PA.out.mono ?_; rintro e W1 ⟨rfl, hb⟩; have HB1 := Lib.hid hb; have HZ1 := Lib.hid (ib_zero W1); have HP1 := Lib.hid (ib_put W1 x); clear hb PA)
    | (refine wpList_store_mid rfl 23 (.tmp 5) (.tmp 17) rfl W1.heap.size 0 x.cells.toArray rfl rfl HZ1.out.room (HIA.out _) (HA.out _) ?_; generalize World.setCells _ _ _ _ = W2 at HP1 ⊢; have HX2 := Lib.hid HP1.out.1; have HB2 := Lib.hid (chain2 HB1.out HP1.out.2); clear HP1 HZ1 HB1)
    | (go_at_call 20; refine (PB.out W2).mono ?_; rintro e W3 ⟨rfl, hb⟩; have HX3 := Lib.hid (HX2.out.later hb); have HB3 := Lib.hid (chain2 HB2.out hb); have HZ3 := Lib.hid (ib_zero W3); have HP3 := Lib.hid (ib_put W3 x); clear hb HX2 HB2)
    | (refine wpList_store_mid rfl 23 (.tmp 7) (.tmp 23) rfl W3.heap.size 0 x.cells.toArray rfl rfl HZ3.out.room (HIA.out _) (HA.out _) ?_; generalize World.setCells _ _ _ _ = W4 at HP3 ⊢; have HX4 := Lib.hid (HX3.out.later HP3.out.2); have HY4 := Lib.hid HP3.out.1; have HB4 := Lib.hid (chain2 HB3.out HP3.out.2); have HF4 := Lib.hid (HHF.out.later HB4.out); clear HP3 HZ3 HX3 HB3)
    | (refine wpList_ld (e := x) (by rfl) (.tmp 5) rfl W1.heap.size rfl HX4.out.cells ?_)
    | (refine wpList_ld (e := x) (by rfl) (.tmp 7) rfl W3.heap.size rfl HY4.out.cells ?_)
    | (refine wpList_eql (e := x) (f := x) (by rfl) (.tmp 25) (.tmp 26) rfl rfl rfl true (decide_eq_true rfl) ?_)
    | (go_at_call 18; refine (known13 _ HF4.out).mono ?_; rintro e W5 ⟨rfl, hb⟩; have HB5 := Lib.hid (chain2 HB4.out hb); clear hb))
  go_ret
  exact ⟨rfl, HB5.out⟩

end Go.Proofs.YtmljjpdodcpohaaDoor.In
