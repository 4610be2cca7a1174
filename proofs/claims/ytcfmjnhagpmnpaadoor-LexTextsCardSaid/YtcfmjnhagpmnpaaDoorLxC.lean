/- Tokens in blocks of their own, and the walks of lex.Key, Name, markSize: their contracts. No condition but those that each states. -/
import Derived.Test.YtcfmjnhagpmnpaaDoorLxB
import Derived.Test.YtcfmjnhagpmnpaaDoorLxS
import Derived.Test.YtcfmjnhagpmnpaaDoorDkG
namespace Go.Proofs.YtcfmjnhagpmnpaaDoor.Lx
open Go.RowKit Dk

def Tk.cells (t : Tk) : List Value := [.int .i64 t.kind, .string (strOf t.text), .int .i64 t.n, .int .i64 t.place]
def Tk.zero : Tk := ⟨0, [], 0, 0⟩

/-- Block B holds a token. -/
structure TB (W : World) (B : Nat) (t : Tk) : Prop where
  cells : W.rangeAt B 0 t.cells
  room : W.there B 0 4
  lt : B < W.heap.size

theorem TB.of_block {W W' : World} {B : Nat} {t : Tk} (h : TB W B t) (hb : W'.heap[B]? = W.heap[B]?) (hs : W.heap.size ≤ W'.heap.size) : TB W' B t := ⟨rangeAt_block h.cells hb, there_block h.room hb, Nat.lt_of_lt_of_le h.lt hs⟩
theorem TB.later {W W' : World} {B : Nat} {t : Tk} (h : TB W B t) (hb : Below W.heap.size W W') : TB W' B t := h.of_block (hb.block B h.lt) hb.size
theorem tb_new (w : World) (t : Tk) (ty : TypeId) : TB (w.alloc (.cells t.cells.toArray ty)) w.heap.size t := ⟨range_new w t.cells ty, there_new w t.cells.toArray ty, by simp⟩
theorem TB.set {W : World} {B : Nat} {t : Tk} (h : TB W B t) (t' : Tk) : TB (W.setCells B 0 t'.cells) B t' :=
  ⟨World.rangeAt_setCells_same W B 0 t'.cells h.room, World.there_setCells h.room _ _ _, by rw [Dk.size_setCells]; exact h.lt⟩
theorem t_one (t : Tk) : ∀ u ∈ t.cells, u.oneCell' = true := by
  intro u hu
  simp [Tk.cells] at hu
  rcases hu with rfl | rfl | rfl | rfl <;> rfl
theorem t_all (t : Tk) : t.cells.toArray.all (·.oneCell') = true := all_oneCell_toArray (t_one t)
theorem t_info (t : Tk) : (Tryd.prog.info? 29).map (·.size) = some t.cells.length := by kernel_rfl
theorem t_infoA (t : Tk) : (Tryd.prog.info? 29).map (·.size) = some t.cells.toArray.size := t_info t
theorem t_info3 : (Tryd.prog.info? 29).map (fun i => (i.zero, i.size, i.bytes)) = some (some (.agg Tk.zero.cells.toArray), 4, 40) := by kernel_rfl

/-! results that lie in a cell of their own -/
theorem results_cell3 {P : Program} {fn : Func} {t u v : Tmp} {ty : TypeId} {d : TypeDesc} {cs : List Value} {b : Nat} (h : fn.results = #[.cell t ty, .tmp u, .tmp v]) (tmps : Array Value) (w : World) (ht : tmps.getD t undef = .pointer (some ⟨b, 0, none⟩)) (hc : w.rangeAt b 0 cs)
    (hu : P.underlying ty = some d) (hd : d.isRow = true) (hi : (P.info? ty).map (·.size) = some cs.length) : (results fn tmps).run P w = .ok (.tuple #[.agg cs.toArray, tmps.getD u undef, tmps.getD v undef]) w := by
  have hl := run_loadVar_mid (P := P) w b 0 ty cs d hc hu hd hi
  simp only [Array.getD_eq_getD_getElem?] at ht
  simp [results, h, ht, hl, asAddr]

theorem strOf_tl (l : List UInt8) : (strOf l).toList = l := ByteArray.toList_mk l
theorem str_beq (a b : List UInt8) : ((strOf a).toList == (strOf b).toList) = decide (a = b) := by
  rw [strOf_tl, strOf_tl]
  by_cases h : a = b
  · rw [decide_eq_true h]; subst h; simp
  · rw [decide_eq_false h]; exact beq_false_of_ne h

/-! the keys -/
set_option maxHeartbeats 4000000 in
theorem key_yes (l : List UInt8) (h : l ∈ keyList) (w : World) : Calls Tryd.prog 18 #[.string (strOf l)] w fun e w' => e = .returned (.bool true) ∧ w = w' := by
  have hb : ∀ m, m ∈ keyList → ((strOf l).toList == m) = decide (l = m) := fun m _ => by
    have := str_beq l m
    rwa [strOf_tl m] at this
  simp only [keyList, List.mem_cons, List.not_mem_nil, or_false, forall_eq_or_imp, forall_eq] at hb
  obtain ⟨h1, h2, h3, h4, h5, h6, h7, h8, h9, h10, h11, h12, h13, h14, h15, h16, h17, h18, h19, h20⟩ := hb
  simp only [keyList, List.mem_cons, List.not_mem_nil, or_false] at h
  generalize strOf l = s at *
  rcases h with rfl | rfl | rfl | rfl | rfl | rfl | rfl | rfl | rfl | rfl | rfl | rfl | rfl | rfl | rfl | rfl | rfl | rfl | rfl | rfl
  all_goals
    first | replace h1 := h1.trans (show decide _ = true by decide) | replace h1 := h1.trans (show decide _ = false by decide)
    first | replace h2 := h2.trans (show decide _ = true by decide) | replace h2 := h2.trans (show decide _ = false by decide)
    first | replace h3 := h3.trans (show decide _ = true by decide) | replace h3 := h3.trans (show decide _ = false by decide)
    first | replace h4 := h4.trans (show decide _ = true by decide) | replace h4 := h4.trans (show decide _ = false by decide)
    first | replace h5 := h5.trans (show decide _ = true by decide) | replace h5 := h5.trans (show decide _ = false by decide)
    first | replace h6 := h6.trans (show decide _ = true by decide) | replace h6 := h6.trans (show decide _ = false by decide)
    first | replace h7 := h7.trans (show decide _ = true by decide) | replace h7 := h7.trans (show decide _ = false by decide)
    first | replace h8 := h8.trans (show decide _ = true by decide) | replace h8 := h8.trans (show decide _ = false by decide)
    first | replace h9 := h9.trans (show decide _ = true by decide) | replace h9 := h9.trans (show decide _ = false by decide)
    first | replace h10 := h10.trans (show decide _ = true by decide) | replace h10 := h10.trans (show decide _ = false by decide)
    first | replace h11 := h11.trans (show decide _ = true by decide) | replace h11 := h11.trans (show decide _ = false by decide)
    first | replace h12 := h12.trans (show decide _ = true by decide) | replace h12 := h12.trans (show decide _ = false by decide)
    first | replace h13 := h13.trans (show decide _ = true by decide) | replace h13 := h13.trans (show decide _ = false by decide)
    first | replace h14 := h14.trans (show decide _ = true by decide) | replace h14 := h14.trans (show decide _ = false by decide)
    first | replace h15 := h15.trans (show decide _ = true by decide) | replace h15 := h15.trans (show decide _ = false by decide)
    first | replace h16 := h16.trans (show decide _ = true by decide) | replace h16 := h16.trans (show decide _ = false by decide)
    first | replace h17 := h17.trans (show decide _ = true by decide) | replace h17 := h17.trans (show decide _ = false by decide)
    first | replace h18 := h18.trans (show decide _ = true by decide) | replace h18 := h18.trans (show decide _ = false by decide)
    first | replace h19 := h19.trans (show decide _ = true by decide) | replace h19 := h19.trans (show decide _ = false by decide)
    first | replace h20 := h20.trans (show decide _ = true by decide) | replace h20 := h20.trans (show decide _ = false by decide)
    go_enter Tryd.func18, Tryd.ntmps18
    go_wp2
    go_ret
    exact ⟨rfl, rfl⟩

set_option maxHeartbeats 1000000 in
theorem key_no (l : List UInt8) (h : l ∉ keyList) (w : World) : Calls Tryd.prog 18 #[.string (strOf l)] w fun e w' => e = .returned (.bool false) ∧ w = w' := by
  have hb : ∀ m, m ∈ keyList → ((strOf l).toList == m) = false := fun m hm => by
    rw [strOf_tl]; exact beq_false_of_ne (fun e => h (e ▸ hm))
  simp only [keyList, List.mem_cons, List.not_mem_nil, or_false, forall_eq_or_imp, forall_eq] at hb
  obtain ⟨h1, h2, h3, h4, h5, h6, h7, h8, h9, h10, h11, h12, h13, h14, h15, h16, h17, h18, h19, h20⟩ := hb
  generalize strOf l = s at *
  go_enter Tryd.func18, Tryd.ntmps18
  go_wp2
  go_ret
  exact ⟨rfl, rfl⟩

theorem isKey_iff (l : List UInt8) : isKey l = true ↔ l ∈ keyList := by unfold isKey; exact List.contains_iff_mem
theorem key_any (l : List UInt8) (w : World) : Calls Tryd.prog 18 #[.string (strOf l)] w fun e w' => e = .returned (.bool (isKey l)) ∧ w = w' := by
  cases h : isKey l with
  | true => exact key_yes l ((isKey_iff l).1 h) w
  | false => exact key_no l (fun hm => by rw [(isKey_iff l).2 hm] at h; cases h) w

/-! marks -/
theorem markOf_cons (l m : List UInt8) (r : List (List UInt8)) : markOf l (m :: r) = if m.isPrefixOf l then m.length else markOf l r := rfl
theorem indexByte_cons (x : UInt8) (cs : List UInt8) (c : UInt8) : Lib.indexByte (x :: cs) c = if x == c then 0 else if Lib.indexByte cs c == -1 then -1 else Lib.indexByte cs c + 1 := rfl
theorem markOf_ones (c : UInt8) (r : List UInt8) : ∀ cs : List UInt8, markOf (c :: r) (cs.map fun x => [x]) = if 0 ≤ Lib.indexByte cs c then 1 else 0
  | [] => by rw [if_neg (by simp [Lib.indexByte])]; rfl
  | x :: cs => by
    rw [List.map_cons, markOf_cons, markOf_ones c r cs]
    have hge := Lib.indexByte_ge cs c
    rw [indexByte_cons]
    by_cases h : x = c
    · subst h; simp
    · have h1 : (x == c) = false := beq_false_of_ne h
      have h2 : [x].isPrefixOf (c :: r) = false := by simp [List.isPrefixOf, h]
      rw [h1, h2]
      by_cases h3 : Lib.indexByte cs c = -1
      · rw [h3]; simp
      · have : (Lib.indexByte cs c == -1) = false := by simpa using h3
        rw [this]
        simp only [Bool.false_eq_true, if_false]
        rw [if_pos (by omega), if_pos (by omega)]
def ones : List UInt8 := [40, 41, 123, 125, 91, 93, 44, 59, 46, 47, 61, 60, 43, 45, 42, 37]
theorem marks_drop : markList.drop 4 = ones.map fun x => [x] := rfl

set_option maxHeartbeats 1000000 in
theorem markSize_any (c : UInt8) (r : List UInt8) (w : World) : Calls Tryd.prog 49 #[.string (strOf (c :: r))] w fun e w' => e = .returned (.int .i64 (markN (c :: r) : Nat)) ∧ Below w.heap.size w w' := by
  have HP : Hid (∀ m W, Calls Tryd.prog 54 #[.string (strOf (c :: r)), .string (strOf m)] W fun e w' => e = .returned (.bool (m.isPrefixOf (c :: r))) ∧ w' = W) := Lib.hid (fun m W => by
    have := strings_HasPrefix (strOf (c :: r)) (strOf m) W
    rw [strOf_toList, strOf_toList] at this
    exact this)
  have HX : Hid (∀ W, Calls Tryd.prog 55 #[.string ⟨#[40, 41, 123, 125, 91, 93, 44, 59, 46, 47, 61, 60, 43, 45, 42, 37]⟩, .int .u8 (c.toNat : Int)] W fun e w' => e = .returned (.int .i64 (Lib.indexByte ones c)) ∧ w' = W) := Lib.hid (fun W => by
    have := strings_IndexByte (strOf ones) (c.toNat : Int) W
    rw [strOf_toList, show ((c.toNat : Int).toNat).toUInt8 = c by simp] at this
    exact this)
  have H0 : Hid (markN (c :: r) = markOf (c :: r) (markList.drop 0)) := Lib.hid rfl
  have hpos : 0 < (strOf (c :: r)).size := by rw [strOf_size]; simp
  have hidx : ∀ W : World, (Instr.index 9 (.string (strOf (c :: r))) (.int .i64 0)).run Tryd.prog W = .ok (.int .u8 (c.toNat : Int)) W := fun W => by
    have h1 : ((strOf (c :: r))[0]'hpos) = c := rfl
    rw [← h1]
    go_simp
  generalize hs : strOf (c :: r) = s at *
  clear hs
  go_enter Tryd.func49, Tryd.ntmps49
  go_wp2
  have q : ∀ j u, #[Value.string ⟨#[61, 61]⟩, Value.string ⟨#[33, 61]⟩, Value.string ⟨#[60, 61]⟩, Value.string ⟨#[46, 46]⟩][j]? = some u → (w.alloc (.cells #[Value.string ⟨#[61, 61]⟩, Value.string ⟨#[33, 61]⟩, Value.string ⟨#[60, 61]⟩, Value.string ⟨#[46, 46]⟩] 9)).cell? ⟨w.heap.size, j, none⟩ = some u := fun j u h => by
    rw [World.cell?_alloc_mark]; simpa using h
  have q0 := q 0 _ rfl
  have q1 := q 1 _ rfl
  have q2 := q 2 _ rfl
  have q3 := q 3 _ rfl
  clear q
  have HB : Hid (Below w.heap.size w (w.alloc (.cells #[Value.string ⟨#[61, 61]⟩, Value.string ⟨#[33, 61]⟩, Value.string ⟨#[60, 61]⟩, Value.string ⟨#[46, 46]⟩] 9))) := Lib.hid ((Below.refl _ _).alloc (Nat.le_refl _) _)
  generalize w.alloc (.cells #[Value.string ⟨#[61, 61]⟩, Value.string ⟨#[33, 61]⟩, Value.string ⟨#[60, 61]⟩, Value.string ⟨#[46, 46]⟩] 9) = W1 at *
  go_loopw [7] (fun vi wr => ∃ j : Nat, j ≤ 4 ∧ vi = .int .i64 (j : Int) ∧ wr = W1 ∧ Hid (markN (c :: r) = markOf (c :: r) (markList.drop j))) (fun vi _ => 4 - (intOf vi).toNat)
  case atStart => exact ⟨0, Nat.zero_le _, rfl, rfl, H0⟩
  case round =>
    obtain ⟨j, hj, rfl, rfl, hm⟩ := hrel
    rcases (show j = 0 ∨ j = 1 ∨ j = 2 ∨ j = 3 ∨ j = 4 by omega) with rfl | rfl | rfl | rfl | rfl
    · have hm' := hm.out
      rw [show markList.drop 0 = [61, 61] :: markList.drop 1 from rfl, markOf_cons] at hm'
      have C := Lib.hid (HP.out [61, 61])
      cases hb : List.isPrefixOf [61, 61] (c :: r) with
      | true =>
        rw [hb] at hm' C
        have HM := Lib.hid hm'
        clear hb hm hm' H0
        go_wp2_with (go_at_call 54; refine (C.out _).mono ?_; rintro e w' ⟨rfl, rfl⟩)
        go_ret
        exact ⟨by rw [HM.out]; rfl, HB.out⟩
      | false =>
        rw [hb] at hm' C
        have HM := Lib.hid hm'
        clear hb hm hm' H0
        go_wp2_with (go_at_call 54; refine (C.out _).mono ?_; rintro e w' ⟨rfl, rfl⟩)
        go_roundw
        case rel => exact ⟨1, by omega, by go_num, by trivial, HM⟩
        case measure => simp [intOf]
    · have hm' := hm.out
      rw [show markList.drop 1 = [33, 61] :: markList.drop 2 from rfl, markOf_cons] at hm'
      have C := Lib.hid (HP.out [33, 61])
      cases hb : List.isPrefixOf [33, 61] (c :: r) with
      | true =>
        rw [hb] at hm' C
        have HM := Lib.hid hm'
        clear hb hm hm' H0
        go_wp2_with (go_at_call 54; refine (C.out _).mono ?_; rintro e w' ⟨rfl, rfl⟩)
        go_ret
        exact ⟨by rw [HM.out]; rfl, HB.out⟩
      | false =>
        rw [hb] at hm' C
        have HM := Lib.hid hm'
        clear hb hm hm' H0
        go_wp2_with (go_at_call 54; refine (C.out _).mono ?_; rintro e w' ⟨rfl, rfl⟩)
        go_roundw
        case rel => exact ⟨2, by omega, by go_num, by trivial, HM⟩
        case measure => simp [intOf]
    · have hm' := hm.out
      rw [show markList.drop 2 = [60, 61] :: markList.drop 3 from rfl, markOf_cons] at hm'
      have C := Lib.hid (HP.out [60, 61])
      cases hb : List.isPrefixOf [60, 61] (c :: r) with
      | true =>
        rw [hb] at hm' C
        have HM := Lib.hid hm'
        clear hb hm hm' H0
        go_wp2_with (go_at_call 54; refine (C.out _).mono ?_; rintro e w' ⟨rfl, rfl⟩)
        go_ret
        exact ⟨by rw [HM.out]; rfl, HB.out⟩
      | false =>
        rw [hb] at hm' C
        have HM := Lib.hid hm'
        clear hb hm hm' H0
        go_wp2_with (go_at_call 54; refine (C.out _).mono ?_; rintro e w' ⟨rfl, rfl⟩)
        go_roundw
        case rel => exact ⟨3, by omega, by go_num, by trivial, HM⟩
        case measure => simp [intOf]
    · have hm' := hm.out
      rw [show markList.drop 3 = [46, 46] :: markList.drop 4 from rfl, markOf_cons] at hm'
      have C := Lib.hid (HP.out [46, 46])
      cases hb : List.isPrefixOf [46, 46] (c :: r) with
      | true =>
        rw [hb] at hm' C
        have HM := Lib.hid hm'
        clear hb hm hm' H0
        go_wp2_with (go_at_call 54; refine (C.out _).mono ?_; rintro e w' ⟨rfl, rfl⟩)
        go_ret
        exact ⟨by rw [HM.out]; rfl, HB.out⟩
      | false =>
        rw [hb] at hm' C
        have HM := Lib.hid hm'
        clear hb hm hm' H0
        go_wp2_with (go_at_call 54; refine (C.out _).mono ?_; rintro e w' ⟨rfl, rfl⟩)
        go_roundw
        case rel => exact ⟨4, by omega, by go_num, by trivial, HM⟩
        case measure => simp [intOf]
    · have hm' := hm.out
      rw [marks_drop, markOf_ones] at hm'
      by_cases h0 : 0 ≤ Lib.indexByte ones c
      · rw [if_pos h0] at hm'
        have HM := Lib.hid hm'
        generalize Lib.indexByte ones c = n at *
        clear hm hm' H0
        go_wp2_with (go_at_call 55; refine (HX.out _).mono ?_; rintro e w' ⟨rfl, rfl⟩)
        go_ret
        exact ⟨by rw [HM.out]; rfl, HB.out⟩
      · rw [if_neg h0] at hm'
        have HM := Lib.hid hm'
        generalize Lib.indexByte ones c = n at *
        have h1 : n < 0 := by omega
        clear hm hm' H0
        go_wp2_with (go_at_call 55; refine (HX.out _).mono ?_; rintro e w' ⟨rfl, rfl⟩)
        go_ret
        exact ⟨by rw [HM.out]; rfl, HB.out⟩

end Go.Proofs.YtcfmjnhagpmnpaaDoor.Lx
