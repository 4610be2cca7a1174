/- The walk of the law InstBack. No condition but that the table of formats lies where its variable is. -/
import Derived.Test.YtmljjpdodcpohaaDoorInW
namespace Go.Proofs.YtmljjpdodcpohaaDoor.In
open Go.RowKit Dk

theorem parse_zero (l : List UInt8) : (∃ er : Int, er ≠ 0 ∧ parseL l 0 = (Ix.zero, er)) ∨ (parseL l 0 = (readL l, 0) ∧ rightB (readL l) = true ∧ 4 ≤ l.length) := by
  unfold parseL
  rw [if_neg (by decide)]
  by_cases h : (l.length : Int) - 0 < 4
  · rw [if_pos h]; exact .inl ⟨2, by decide, rfl⟩
  · rw [if_neg h, show (0 : Int).toNat = 0 from rfl, List.drop_zero]
    by_cases h2 : rightB (readL l) = true
    · rw [if_pos h2]; exact .inr ⟨rfl, h2, by omega⟩
    · rw [if_neg h2]; exact .inl ⟨4, by decide, rfl⟩
theorem read_app (x : Ix) (r : List UInt8) : readL (buildL x ++ r) = readL (buildL x) := rfl
theorem parse_back {x : Ix} (h : rightB x = true) (a b : List UInt8) : parseL ((a ++ buildL x) ++ b) (a.length : Int) = (x, 0) := by
  have e : ((a ++ buildL x) ++ b).drop a.length = buildL x ++ b := by
    rw [List.append_assoc, List.drop_left]
  have hl : (((a ++ buildL x) ++ b).length : Int) - (a.length : Int) = 4 + (b.length : Int) := by
    rw [List.length_append, List.length_append, show (buildL x).length = 4 from rfl]; omega
  unfold parseL
  rw [if_neg (by omega), hl, if_neg (by omega), Int.toNat_natCast, e, read_app, read_build h, if_pos h]
theorem slice4 (l : List UInt8) (h : 4 ≤ l.length) (W : World) : (Instr.slice 9 (.string (strOf l)) none (some (.int .i64 4)) none).run Tryd.prog W = .ok (.string (strOf (l.take 4))) W := by
  have hs := strOf_size l
  have e : (strOf l).extract 0 4 = strOf (l.take 4) := by
    apply ByteArray.ext
    simp [strOf, ByteArray.data_extract, List.extract_eq_take_drop]
  rw [← e]
  clear e
  have hk' : (4 : Int) ≤ ((strOf l).size : Int) := by omega
  have hk2 : 4 ≤ (strOf l).size := by omega
  clear hs h
  generalize strOf l = S at *
  go_simp

set_option maxHeartbeats 4000000 in
set_option maxRecDepth 100000 in
theorem instBack_law (x : Ix) (a : ByteArray) (_ha : a.size ≤ maxLen) (b : ByteArray) (_hb : b.size ≤ maxLen) (w : World) (HF : HasF w) : Calls Tryd.prog 5 #[.agg x.cells.toArray, .string a, .string b] w fun e w' => e = .returned (.bool true) ∧ Below w.heap.size w w' := by
  have HHF := Lib.hid HF
  obtain ⟨W1, hW1⟩ : ∃ W1, W1 = w.alloc (.cells x.cells.toArray 23) := ⟨_, rfl⟩
  have HB1 : Hid (Below w.heap.size w W1) := Lib.hid (by rw [hW1]; exact (Below.refl _ _).alloc (Nat.le_refl _) _)
  have HX1 : Hid (IB W1 w.heap.size x) := Lib.hid (by rw [hW1]; exact ib_new w x _)
  have HF1 := Lib.hid (HF.later HB1.out)
  have HIA := Lib.hid i_infoA
  have HA := Lib.hid i_all
  have hW2 : w.alloc (.cells #[.int .i64 x.op, .int .i64 x.a, .int .i64 x.b, .int .i64 x.c] 23) = W1 := hW1.symm
  have hWc : w.alloc (.cells x.cells.toArray 23) = W1 := hW1.symm
  clear hW1 HF
  by_cases hla : a.size ≤ 1000
  case neg =>
    have v0 : (a.size : Int) > 1000 := by omega
    go_enter Tryd.func5, Tryd.ntmps5
    go_wp2_with (go_at_call 18; refine (known13 _ HF1.out).mono ?_; rintro e W4 ⟨rfl, hb⟩)
    go_ret
    exact ⟨rfl, chain2 HB1.out hb⟩
  have v0 : ¬(a.size : Int) > 1000 := by omega
  by_cases hlb : b.size ≤ 1000
  case neg =>
    have v1 : (b.size : Int) > 1000 := by omega
    go_enter Tryd.func5, Tryd.ntmps5
    go_wp2_with (go_at_call 18; refine (known13 _ HF1.out).mono ?_; rintro e W4 ⟨rfl, hb⟩)
    go_ret
    exact ⟨rfl, chain2 HB1.out hb⟩
  have v1 : ¬(b.size : Int) > 1000 := by omega
  have hal : a.data.toList.length = a.size := by simp
  have hbl : b.data.toList.length = b.size := by simp
  have PB := Lib.hid (fun W h => parse_any b.data.toList 0 W h (by omega) (by decide))
  rw [strOf_self] at PB
  have BX := Lib.hid (build_any x W1 HF1.out)
  have RX := Lib.hid (fun W h => right_any x W h)
  have hpz := parse_zero b.data.toList
  cases hrx : rightB x with
  | false =>
    rw [hrx] at BX
    replace BX : Hid (Calls Tryd.prog 8 #[.agg x.cells.toArray] W1 fun e w' => e = .returned (.tuple #[.string ⟨#[]⟩, .int .i64 4]) ∧ Below W1.heap.size W1 w') := BX
    clear hrx RX
    rcases hpz with ⟨er, he, hp⟩ | ⟨hp, hr, h4⟩
    · rw [hp] at PB
      have v3 : (er == 0) = false := by simpa using he
      obtain ⟨y, hy⟩ : ∃ y, y = Ix.zero := ⟨_, rfl⟩
      rw [← hy] at PB
      replace PB : Hid (∀ W, HasF W → Calls Tryd.prog 19 #[.string b, .int .i64 0] W fun e w' => e = .returned (.tuple #[.agg y.cells.toArray, .int .i64 er]) ∧ Below W.heap.size W w') := PB
      clear hp hy he hal hbl hla hlb
      go_enter Tryd.func5, Tryd.ntmps5
      go_wp2_with (first
        | (refine wpList_ld (e := x) (by rfl) (.tmp 3) rfl w.heap.size rfl HX1.out.cells ?_)
        | (go_at_call 8; refine BX.out.mono ?_; rintro e W5 ⟨rfl, hb⟩; have HX5 := Lib.hid (HX1.out.later hb); have HB5 := Lib.hid (chain2 HB1.out hb); have HF5 := Lib.hid (HF1.out.later hb); clear hb BX HX1 HB1 HF1)
        | (go_at_call 19; refine (PB.out W5 HF5.out).mono ?_; rintro e W6 ⟨rfl, hb⟩; have HB6 := Lib.hid (chain2 HB5.out hb); have HZ6 := Lib.hid (ib_zero W6); have HP6 := Lib.hid (ib_put W6 y); clear hb HB5 HF5 PB)
        | (refine wpList_store_mid rfl 23 (.tmp 11) (.tmp 62) rfl W6.heap.size 0 y.cells.toArray rfl rfl HZ6.out.room (HIA.out _) (HA.out _) ?_; generalize World.setCells _ _ _ _ = W8 at HP6 ⊢; have HY8 := Lib.hid HP6.out.1; have HB8 := Lib.hid (chain2 HB6.out HP6.out.2); have HF8 := Lib.hid (HHF.out.later HB8.out); clear HP6 HZ6 HB6)
        | (go_at_call 18; refine (known13 _ HF8.out).mono ?_; rintro e W9 ⟨rfl, hb⟩; have HB9 := Lib.hid (chain2 HB8.out hb); clear hb))
      go_ret
      exact ⟨rfl, HB9.out⟩
    · rw [hp] at PB
      obtain ⟨y, hy⟩ : ∃ y, y = readL b.data.toList := ⟨_, rfl⟩
      rw [← hy] at PB hr
      replace PB : Hid (∀ W, HasF W → Calls Tryd.prog 19 #[.string b, .int .i64 0] W fun e w' => e = .returned (.tuple #[.agg y.cells.toArray, .int .i64 0]) ∧ Below W.heap.size W w') := PB
      have sl := slice4 b.data.toList h4
      rw [strOf_self] at sl
      have hbr : buildL y = b.data.toList.take 4 := by rw [hy]; exact build_read h4
      have BY : Hid (∀ W, HasF W → Calls Tryd.prog 8 #[.agg y.cells.toArray] W fun e w' => e = .returned (.tuple #[.string (strOf (b.data.toList.take 4)), .int .i64 0]) ∧ Below W.heap.size W w') := Lib.hid (fun W h => by have := build_any y W h; rwa [if_pos hr, hbr] at this)
      have v4 : ¬(b.size : Int) < 4 := by omega
      generalize strOf (b.data.toList.take 4) = t4 at *
      have v5 : (t4.toList == t4.toList) = true := by simp
      clear hp hy hr h4 hbr hal hbl hla hlb
      go_enter Tryd.func5, Tryd.ntmps5
      go_wp2_with (first
        | (refine wpList_ld (e := x) (by rfl) (.tmp 3) rfl w.heap.size rfl HX1.out.cells ?_)
        | (go_at_call 8; refine BX.out.mono ?_; rintro e W5 ⟨rfl, hb⟩; have HX5 := Lib.hid (HX1.out.later hb); have HB5 := Lib.hid (chain2 HB1.out hb); have HF5 := Lib.hid (HF1.out.later hb); clear hb BX HX1 HB1 HF1)
        | (go_at_call 19; refine (PB.out W5 HF5.out).mono ?_; rintro e W6 ⟨rfl, hb⟩; have HB6 := Lib.hid (chain2 HB5.out hb); have HZ6 := Lib.hid (ib_zero W6); have HP6 := Lib.hid (ib_put W6 y); clear hb HB5 HF5 PB)
        | (refine wpList_store_mid rfl 23 (.tmp 11) (.tmp 62) rfl W6.heap.size 0 y.cells.toArray rfl rfl HZ6.out.room (HIA.out _) (HA.out _) ?_; generalize World.setCells _ _ _ _ = W7 at HP6 ⊢; have HY7 := Lib.hid HP6.out.1; have HB7 := Lib.hid (chain2 HB6.out HP6.out.2); have HF7 := Lib.hid (HHF.out.later HB7.out); clear HP6 HZ6 HB6)
        | (refine wpList_ld (e := y) (by rfl) (.tmp 11) rfl _ rfl HY7.out.cells ?_)
        | (go_at_call 8; refine (BY.out W7 HF7.out).mono ?_; rintro e W8 ⟨rfl, hb⟩; have HB8 := Lib.hid (chain2 HB7.out hb); have HF8 := Lib.hid (HF7.out.later hb); clear hb BY HY7 HB7 HF7)
        | (go_at_call 18; refine (known13 _ HF8.out).mono ?_; rintro e W9 ⟨rfl, hb⟩; have HB9 := Lib.hid (chain2 HB8.out hb); clear hb))
      go_ret
      exact ⟨rfl, HB9.out⟩
  | true =>
    rw [hrx] at BX RX
    have PA := Lib.hid (fun W h => parse_any ((a.data.toList ++ buildL x) ++ b.data.toList) (a.data.toList.length : Int) W h (by rw [List.length_append, List.length_append, show (buildL x).length = 4 from rfl]; omega) (by omega))
    rw [parse_back hrx, hal] at PA
    have p1 := fun W => sum_run a.data.toList (buildL x) (by rw [show (buildL x).length = 4 from rfl]; omega) W
    have p2 := fun W => sum_run (a.data.toList ++ buildL x) b.data.toList (by rw [List.length_append, show (buildL x).length = 4 from rfl]; omega) W
    rw [strOf_self] at p1 p2
    have hs4 : ((strOf (buildL x)).size : Int) = 4 := by rw [strOf_size]; rfl
    replace BX : Hid (Calls Tryd.prog 8 #[.agg x.cells.toArray] W1 fun e w' => e = .returned (.tuple #[.string (strOf (buildL x)), .int .i64 0]) ∧ Below W1.heap.size W1 w') := BX
    replace PA : Hid (∀ W, HasF W → Calls Tryd.prog 19 #[.string (strOf ((a.data.toList ++ buildL x) ++ b.data.toList)), .int .i64 (a.size : Int)] W fun e w' => e = .returned (.tuple #[.agg x.cells.toArray, .int .i64 0]) ∧ Below W.heap.size W w') := PA
    generalize strOf ((a.data.toList ++ buildL x) ++ b.data.toList) = s3 at *
    generalize strOf (a.data.toList ++ buildL x) = s2 at *
    generalize strOf (buildL x) = s1 at *
    clear hrx
    rcases hpz with ⟨er, he, hp⟩ | ⟨hp, hr, h4⟩
    · rw [hp] at PB
      have v3 : (er == 0) = false := by simpa using he
      obtain ⟨y, hy⟩ : ∃ y, y = Ix.zero := ⟨_, rfl⟩
      rw [← hy] at PB
      replace PB : Hid (∀ W, HasF W → Calls Tryd.prog 19 #[.string b, .int .i64 0] W fun e w' => e = .returned (.tuple #[.agg y.cells.toArray, .int .i64 er]) ∧ Below W.heap.size W w') := PB
      clear hp hy he hal hbl hla hlb
      go_enter Tryd.func5, Tryd.ntmps5
      go_wp2_with (first
        | (refine wpList_ld (e := x) (by rfl) (.tmp 3) rfl w.heap.size rfl HX1.out.cells ?_)
        | (go_at_call 8; refine BX.out.mono ?_; rintro e W2 ⟨rfl, hb⟩; have HX2 := Lib.hid (HX1.out.later hb); have HB2 := Lib.hid (chain2 HB1.out hb); have HF2 := Lib.hid (HF1.out.later hb); clear hb BX HX1 HB1 HF1)
        | (go_at_call 19; refine (PA.out W2 HF2.out).mono ?_; rintro e W3 ⟨rfl, hb⟩; have HX3 := Lib.hid (HX2.out.later hb); have HB3 := Lib.hid (chain2 HB2.out hb); have HZ3 := Lib.hid (ib_zero W3); have HP3 := Lib.hid (ib_put W3 x); clear hb HX2 HB2 HF2 PA)
        | (refine wpList_store_mid rfl 23 (.tmp 9) (.tmp 40) rfl W3.heap.size 0 x.cells.toArray rfl rfl HZ3.out.room (HIA.out _) (HA.out _) ?_; generalize World.setCells _ _ _ _ = W4 at HP3 ⊢; have HX4 := Lib.hid (HX3.out.later HP3.out.2); have HY4 := Lib.hid HP3.out.1; have HB4 := Lib.hid (chain2 HB3.out HP3.out.2); have HF4 := Lib.hid (HHF.out.later HB4.out); clear HP3 HZ3 HX3 HB3)
        | (refine wpList_ld (e := x) (by rfl) (.tmp 9) rfl _ rfl HY4.out.cells ?_)
        | (refine wpList_ld (e := x) (by rfl) (.tmp 3) rfl w.heap.size rfl HX4.out.cells ?_)
        | (refine wpList_neq (e := x) (f := x) (by rfl) (.tmp 45) (.tmp 46) rfl rfl rfl false (by simp) ?_)
        | (go_at_call 10; refine (RX.out W4 HF4.out).mono ?_; rintro e W5 ⟨rfl, hb⟩; have HB5 := Lib.hid (chain2 HB4.out hb); have HF5 := Lib.hid (HF4.out.later hb); clear hb HX4 HY4 HB4 HF4 RX)
        | (go_at_call 19; refine (PB.out W5 HF5.out).mono ?_; rintro e W6 ⟨rfl, hb⟩; have HB6 := Lib.hid (chain2 HB5.out hb); have HZ6 := Lib.hid (ib_zero W6); have HP6 := Lib.hid (ib_put W6 y); clear hb HB5 HF5 PB)
        | (refine wpList_store_mid rfl 23 (.tmp 11) (.tmp 62) rfl W6.heap.size 0 y.cells.toArray rfl rfl HZ6.out.room (HIA.out _) (HA.out _) ?_; generalize World.setCells _ _ _ _ = W8 at HP6 ⊢; have HY8 := Lib.hid HP6.out.1; have HB8 := Lib.hid (chain2 HB6.out HP6.out.2); have HF8 := Lib.hid (HHF.out.later HB8.out); clear HP6 HZ6 HB6)
        | (go_at_call 18; refine (known13 _ HF8.out).mono ?_; rintro e W9 ⟨rfl, hb⟩; have HB9 := Lib.hid (chain2 HB8.out hb); clear hb))
      go_ret
      exact ⟨rfl, HB9.out⟩
    · rw [hp] at PB
      obtain ⟨y, hy⟩ : ∃ y, y = readL b.data.toList := ⟨_, rfl⟩
      rw [← hy] at PB hr
      replace PB : Hid (∀ W, HasF W → Calls Tryd.prog 19 #[.string b, .int .i64 0] W fun e w' => e = .returned (.tuple #[.agg y.cells.toArray, .int .i64 0]) ∧ Below W.heap.size W w') := PB
      have sl := slice4 b.data.toList h4
      rw [strOf_self] at sl
      have hbr : buildL y = b.data.toList.take 4 := by rw [hy]; exact build_read h4
      have BY : Hid (∀ W, HasF W → Calls Tryd.prog 8 #[.agg y.cells.toArray] W fun e w' => e = .returned (.tuple #[.string (strOf (b.data.toList.take 4)), .int .i64 0]) ∧ Below W.heap.size W w') := Lib.hid (fun W h => by have := build_any y W h; rwa [if_pos hr, hbr] at this)
      have v4 : ¬(b.size : Int) < 4 := by omega
      generalize strOf (b.data.toList.take 4) = t4 at *
      have v5 : (t4.toList == t4.toList) = true := by simp
      clear hp hy hr h4 hbr hal hbl hla hlb
      go_enter Tryd.func5, Tryd.ntmps5
      go_wp2_with (first
        | (refine wpList_ld (e := x) (by rfl) (.tmp 3) rfl w.heap.size rfl HX1.out.cells ?_)
        | (go_at_call 8; refine BX.out.mono ?_; rintro e W2 ⟨rfl, hb⟩; have HX2 := Lib.hid (HX1.out.later hb); have HB2 := Lib.hid (chain2 HB1.out hb); have HF2 := Lib.hid (HF1.out.later hb); clear hb BX HX1 HB1 HF1)
        | (go_at_call 19; refine (PA.out W2 HF2.out).mono ?_; rintro e W3 ⟨rfl, hb⟩; have HX3 := Lib.hid (HX2.out.later hb); have HB3 := Lib.hid (chain2 HB2.out hb); have HZ3 := Lib.hid (ib_zero W3); have HP3 := Lib.hid (ib_put W3 x); clear hb HX2 HB2 HF2 PA)
        | (refine wpList_store_mid rfl 23 (.tmp 9) (.tmp 40) rfl W3.heap.size 0 x.cells.toArray rfl rfl HZ3.out.room (HIA.out _) (HA.out _) ?_; generalize World.setCells _ _ _ _ = W4 at HP3 ⊢; have HX4 := Lib.hid (HX3.out.later HP3.out.2); have HY4 := Lib.hid HP3.out.1; have HB4 := Lib.hid (chain2 HB3.out HP3.out.2); have HF4 := Lib.hid (HHF.out.later HB4.out); clear HP3 HZ3 HX3 HB3)
        | (refine wpList_ld (e := x) (by rfl) (.tmp 9) rfl _ rfl HY4.out.cells ?_)
        | (refine wpList_ld (e := x) (by rfl) (.tmp 3) rfl w.heap.size rfl HX4.out.cells ?_)
        | (refine wpList_neq (e := x) (f := x) (by rfl) (.tmp 45) (.tmp 46) rfl rfl rfl false (by simp) ?_)
        | (go_at_call 10; refine (RX.out W4 HF4.out).mono ?_; rintro e W5 ⟨rfl, hb⟩; have HB5 := Lib.hid (chain2 HB4.out hb); have HF5 := Lib.hid (HF4.out.later hb); clear hb HX4 HY4 HB4 HF4 RX)
        | (go_at_call 19; refine (PB.out W5 HF5.out).mono ?_; rintro e W6 ⟨rfl, hb⟩; have HB6 := Lib.hid (chain2 HB5.out hb); have HZ6 := Lib.hid (ib_zero W6); have HP6 := Lib.hid (ib_put W6 y); clear hb HB5 HF5 PB)
        | (refine wpList_store_mid rfl 23 (.tmp 11) (.tmp 62) rfl W6.heap.size 0 y.cells.toArray rfl rfl HZ6.out.room (HIA.out _) (HA.out _) ?_; generalize World.setCells _ _ _ _ = W7 at HP6 ⊢; have HY7 := Lib.hid HP6.out.1; have HB7 := Lib.hid (chain2 HB6.out HP6.out.2); have HF7 := Lib.hid (HHF.out.later HB7.out); clear HP6 HZ6 HB6)
        | (refine wpList_ld (e := y) (by rfl) (.tmp 11) rfl _ rfl HY7.out.cells ?_)
        | (go_at_call 8; refine (BY.out W7 HF7.out).mono ?_; rintro e W8 ⟨rfl, hb⟩; have HB8 := Lib.hid (chain2 HB7.out hb); have HF8 := Lib.hid (HF7.out.later hb); clear hb BY HY7 HB7 HF7)
        | (go_at_call 18; refine (known13 _ HF8.out).mono ?_; rintro e W9 ⟨rfl, hb⟩; have HB9 := Lib.hid (chain2 HB8.out hb); clear hb))
      go_ret
      exact ⟨rfl, HB9.out⟩

end Go.Proofs.YtmljjpdodcpohaaDoor.In
