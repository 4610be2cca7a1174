/- The walks of the document's Build and Parse (chrysalisref05): their contracts. No condition but those that each states. -/
import Derived.Test.YtkplmaaeggnbgaaDoorRgK
import Derived.Test.YtkplmaaeggnbgaaDoorOctS
import Derived.Test.YtkplmaaeggnbgaaDoorOctR
import Derived.Test.YtkplmaaeggnbgaaDoorDkRx
namespace Go.Proofs.YtkplmaaeggnbgaaDoor.Rg
open Go.RowKit Dk

theorem rput_le (n : Int) (k : Nat) (hk : k = 1 ∨ k = 4) (h0 : 0 ≤ n) (h1 : n < 256 ^ k) (w : World) :
    Calls Tryd.prog 84 #[.int .i64 n, .int .i64 (k : Int)] w fun x w' => x = .returned (.tuple #[.string (strOf (le k n)), .int .i64 0]) ∧ Below w.heap.size w w' := by
  obtain ⟨f1, f2⟩ := fits_le hk h0 h1
  have C := rput_ok n k w f1 f2
  rw [Int.toNat_natCast] at C
  exact C

theorem rget_at (s : Bytes) (p k : Nat) (hk : k = 1 ∨ k = 4) (hs : s.length ≤ 1000) (h : p + k ≤ s.length) (w : World) :
    Calls Tryd.prog 87 #[.string (strOf s), .int .i64 (p : Int), .int .i64 (k : Int)] w fun x w' => x = .returned (.tuple #[.int .i64 (getI ((s.drop p).take k)), .int .i64 0]) ∧ w = w' := by
  have hw : wideB (k : Int) = true := by rcases hk with rfl | rfl <;> rfl
  have C := rget_nat (strOf s) p k w hw (by rw [strOf_size]; omega) (by rw [strOf_size]; omega)
  unfold bytesAt at C
  rw [strOf_toList] at C
  exact C

theorem ref_of (l : Bytes) (hl : l.length ≤ 3000) (w : World) : Calls Tryd.prog 85 #[.string (strOf l)] w fun e w' => e = .returned (.string (strOf (sha l))) ∧ Below w.heap.size w w' := by
  have := rof_any (strOf l) w (by rw [strOf_size]; exact hl)
  rwa [strOf_toList] at this

set_option maxHeartbeats 2000000 in
set_option maxRecDepth 100000 in
theorem rbuild_no (e : Ent) (hv : e.valid = false) (w : World) :
    Calls Tryd.prog 55 #[.agg e.cells.toArray] w fun x w' => x = .returned (.tuple #[.string (strOf []), .int .i64 1]) ∧ Below w.heap.size w w' := by
  have hx := eb_new w e 43
  have c0 := hx.cells 0 _ rfl
  have c1 := hx.cells 1 _ rfl
  have c2 := hx.cells 2 _ rfl
  have c3 := hx.cells 3 _ rfl
  have c4 := hx.cells 4 _ rfl
  rw [Nat.zero_add] at c0 c1 c2 c3 c4
  have hsz : (strOf e.sum).size = e.sum.length := strOf_size _
  have hv2 := of_decide_eq_false hv
  have HB : Hid (Below w.heap.size w (w.alloc (.cells e.cells.toArray 43))) := Lib.hid ((Below.refl _ _).alloc (Nat.le_refl _) _)
  clear hx hv
  generalize strOf e.sum = q at *
  by_cases a0 : e.kind < 1
  · have t0 : decide (e.kind < 1) = true := decide_eq_true a0
    clear hv2
    go_enter Tryd.func55, Tryd.ntmps55
    go_wp2
    go_ret2
    exact ⟨rfl, HB.out⟩
  have t0 : decide (e.kind < 1) = false := decide_eq_false a0
  by_cases a1 : 3 < e.kind
  · have t1 : decide (3 < e.kind) = true := decide_eq_true a1
    clear hv2
    go_enter Tryd.func55, Tryd.ntmps55
    go_wp2
    go_ret2
    exact ⟨rfl, HB.out⟩
  have t1 : decide (3 < e.kind) = false := decide_eq_false a1
  by_cases a2 : e.number < 1
  · have t2 : decide (e.number < 1) = true := decide_eq_true a2
    clear hv2
    go_enter Tryd.func55, Tryd.ntmps55
    go_wp2
    go_ret2
    exact ⟨rfl, HB.out⟩
  have t2 : decide (e.number < 1) = false := decide_eq_false a2
  by_cases a3 : 4294967295 < e.number
  · have t3 : decide (4294967295 < e.number) = true := decide_eq_true a3
    clear hv2
    go_enter Tryd.func55, Tryd.ntmps55
    go_wp2
    go_ret2
    exact ⟨rfl, HB.out⟩
  have t3 : decide (4294967295 < e.number) = false := decide_eq_false a3
  by_cases a4 : e.slot < 0
  · have t4 : decide (e.slot < 0) = true := decide_eq_true a4
    clear hv2
    go_enter Tryd.func55, Tryd.ntmps55
    go_wp2
    go_ret2
    exact ⟨rfl, HB.out⟩
  have t4 : decide (e.slot < 0) = false := decide_eq_false a4
  by_cases a5 : 2 < e.slot
  · have t5 : decide (2 < e.slot) = true := decide_eq_true a5
    clear hv2
    go_enter Tryd.func55, Tryd.ntmps55
    go_wp2
    go_ret2
    exact ⟨rfl, HB.out⟩
  have t5 : decide (2 < e.slot) = false := decide_eq_false a5
  by_cases a6 : e.size < 0
  · have t6 : decide (e.size < 0) = true := decide_eq_true a6
    clear hv2
    go_enter Tryd.func55, Tryd.ntmps55
    go_wp2
    go_ret2
    exact ⟨rfl, HB.out⟩
  have t6 : decide (e.size < 0) = false := decide_eq_false a6
  by_cases a7 : 4294967295 < e.size
  · have t7 : decide (4294967295 < e.size) = true := decide_eq_true a7
    clear hv2
    go_enter Tryd.func55, Tryd.ntmps55
    go_wp2
    go_ret2
    exact ⟨rfl, HB.out⟩
  have t7 : decide (4294967295 < e.size) = false := decide_eq_false a7
  have hq : ¬q.size = 32 := fun h => hv2 ⟨by omega, by omega, by omega, by omega, by omega, by omega, by omega, by omega, by omega⟩
  have u1 : ((q.size : Int) == 32) = false := by simp; omega
  have u2 : ((q.size : Int) != 32) = true := by simp; omega
  have u3 : (q.size == 32) = false := by simpa using hq
  have u4 : (q.size != 32) = true := by simpa using hq
  clear hv2 hsz
  go_enter Tryd.func55, Tryd.ntmps55
  go_wp2
  go_ret2
  exact ⟨rfl, HB.out⟩

theorem str_drop52 : (strOf zeroB).extract 52 64 = strOf (List.replicate 12 0) := by decide +kernel

set_option maxHeartbeats 4000000 in
set_option maxRecDepth 100000 in
theorem rbuild_yes (e : Ent) (hv : e.valid = true) (w : World) :
    Calls Tryd.prog 55 #[.agg e.cells.toArray] w fun x w' => x = .returned (.tuple #[.string (strOf e.blk), .int .i64 0]) ∧ Below w.heap.size w w' := by
  have HX := Lib.hid (eat_new w e 43)
  obtain ⟨b1, b2, b3, b4, b5, b6, b7, b8, b9⟩ := of_decide_eq_true hv
  have CK := Lib.hid (fun W => rput_le e.kind 1 (.inl rfl) (by omega) (by omega) W)
  have CS := Lib.hid (fun W => rput_le e.slot 1 (.inl rfl) (by omega) (by omega) W)
  have CN := Lib.hid (fun W => rput_le e.number 4 (.inr rfl) (by omega) (by omega) W)
  have CZ := Lib.hid (fun W => rput_le e.size 4 (.inr rfl) (by omega) (by omega) W)
  have HBODY : Hid (strOf [67, 74] ++ strOf (le 1 e.kind) ++ strOf (le 1 e.slot) ++ strOf (le 4 e.number) ++ strOf (le 4 e.size) ++ strOf e.sum = strOf e.body) := Lib.hid (by simp only [strOf_append]; rfl)
  have hbl := body_length (valid_sum hv)
  have HEB : Hid (strOf e.body ++ (strOf (sha e.body)).extract 0 8 ++ (strOf zeroB).extract 52 64 = strOf e.blk) := Lib.hid (by
    rw [str_take8, str_drop52, strOf_append, strOf_append, List.append_assoc]; rfl)
  have CO := Lib.hid (ref_of e.body (by omega))
  have hsb : (strOf e.body).size = 44 := by rw [strOf_size]; exact hbl
  have hsh : (strOf (sha e.body)).size = 32 := by rw [strOf_size, sha_length]
  have h8 : ((strOf (sha e.body)).extract 0 8).size = 8 := by rw [str_take8, strOf_size, sha_take]
  have hz : (strOf zeroB).size = 64 := by rw [strOf_size]; rfl
  have CV := Lib.hid ref_zero
  have hx1 : (strOf (le 1 e.kind)).size = 1 := by rw [strOf_size, le_length]
  have hx2 : (strOf (le 1 e.slot)).size = 1 := by rw [strOf_size, le_length]
  have hx3 : (strOf (le 4 e.number)).size = 4 := by rw [strOf_size, le_length]
  have hx4 : (strOf (le 4 e.size)).size = 4 := by rw [strOf_size, le_length]
  have hx5 : (strOf e.sum).size = 32 := by rw [strOf_size]; exact b9
  have t0 : decide (e.kind < 1) = false := decide_eq_false (by omega)
  have t1 : decide (3 < e.kind) = false := decide_eq_false (by omega)
  have t2 : decide (e.number < 1) = false := decide_eq_false (by omega)
  have t3 : decide (4294967295 < e.number) = false := decide_eq_false (by omega)
  have t4 : decide (e.slot < 0) = false := decide_eq_false (by omega)
  have t5 : decide (2 < e.slot) = false := decide_eq_false (by omega)
  have t6 : decide (e.size < 0) = false := decide_eq_false (by omega)
  have t7 : decide (4294967295 < e.size) = false := decide_eq_false (by omega)
  have c0 := HX.out.c0
  have c1 := HX.out.c1
  have c2 := HX.out.c2
  have c3 := HX.out.c3
  have c4 := HX.out.c4
  clear hv hbl b1 b2 b3 b4 b5 b6 b7 b8 b9
  generalize strOf e.blk = bl at *
  generalize strOf (sha e.body) = SH at *
  generalize strOf e.body = bd at *
  generalize strOf zeroB = ZB at *
  generalize strOf (le 1 e.kind) = x1 at *
  generalize strOf (le 1 e.slot) = x2 at *
  generalize strOf (le 4 e.number) = x3 at *
  generalize strOf (le 4 e.size) = x4 at *
  generalize hq : strOf e.sum = q at *
  go_enter Tryd.func55, Tryd.ntmps55
  go_wp2_with fail
  refine (CK.out _).mono ?_
  rintro y w1 ⟨rfl, hb⟩
  have X1 := Lib.hid (HX.out.later hb)
  clear hb HX c0 c1 c2 c3 c4 t0 t1 t2 t3 t4 t5 t6 t7
  have c2 := X1.out.c2
  go_wp2_with fail
  refine (CS.out _).mono ?_
  rintro y w2 ⟨rfl, hb⟩
  have X2 := Lib.hid (X1.out.later hb)
  clear hb X1 c2
  have c1 := X2.out.c1
  go_wp2_with fail
  refine (CN.out _).mono ?_
  rintro y w3 ⟨rfl, hb⟩
  have X3 := Lib.hid (X2.out.later hb)
  clear hb X2 c1
  have c3 := X3.out.c3
  go_wp2_with fail
  refine (CZ.out _).mono ?_
  rintro y w4 ⟨rfl, hb⟩
  have X4 := Lib.hid (X3.out.later hb)
  clear hb X3 c3
  have c4 := X4.out.c4
  have HBO := Lib.hid X4.out.below
  go_wp2_with fail
  have e1 : (⟨#[67, 74]⟩ : ByteArray) ++ x1 ++ x2 ++ x3 ++ x4 ++ q = bd := HBODY.out
  rw [e1]
  clear c4 e1 HBODY CK CS CN CZ hx1 hx2 hx3 hx4 hx5 hq X4
  refine (CO.out _).mono ?_
  rintro y w5 ⟨rfl, hb⟩
  have HB5 := Lib.hid (chain2 HBO.out hb)
  clear hb HBO CO
  go_wp2_with fail
  refine (CV.out _).mono ?_
  rintro y w6 ⟨rfl, hb⟩
  have HB6 := Lib.hid (chain2 HB5.out hb)
  clear hb HB5 CV
  go_wp2
  go_ret2
  exact ⟨by rw [← HEB.out]; rfl, HB6.out⟩

theorem rbuild_any (e : Ent) (w : World) :
    Calls Tryd.prog 55 #[.agg e.cells.toArray] w fun x w' => x = .returned (.tuple #[.string (strOf (if e.valid then e.blk else [])), .int .i64 (if e.valid then 0 else 1)]) ∧ Below w.heap.size w w' := by
  cases hv : e.valid with
  | true => exact rbuild_yes e hv w
  | false => exact rbuild_no e hv w

set_option maxHeartbeats 2000000 in
set_option maxRecDepth 100000 in
theorem rparse_short (s : Bytes) (h : s.length ≠ 64) (w : World) :
    Calls Tryd.prog 70 #[.string (strOf s)] w fun x w' => x = .returned (.tuple #[.agg Ent.zero.cells.toArray, .bool false]) ∧ Below w.heap.size w w' := by
  have hs : (strOf s).size ≠ 64 := by rw [strOf_size]; exact h
  have u1 : (((strOf s).size : Int) == 64) = false := by simp; omega
  have u2 : (((strOf s).size : Int) != 64) = true := by simp; omega
  have u3 : ((strOf s).size == 64) = false := by simpa using hs
  have u4 : ((strOf s).size != 64) = true := by simpa using hs
  have HZ := Lib.hid (ebt_zero w 43)
  have HS := Lib.hid (ebt_put w 43 Ent.zero)
  generalize strOf s = x at *
  go_enter Tryd.func70, Tryd.ntmps70
  go_wp2_with (first
    | (refine wpList_store_mid rfl 43 (.tmp 2) (.tmp 18) rfl w.heap.size 0 Ent.zero.cells.toArray rfl rfl HZ.out.room (ref_infoA _) (e_all _) ?_; generalize World.setCells _ _ _ _ = W9 at HS ⊢))
  refine bodyPost_ret (results_cell2 rfl _ _ rfl HS.out.1.cells Tryd.underlying43 rfl (ref_info _)) rfl ?_
  exact ⟨rfl, HS.out.2⟩

theorem two_ref (w : World) (e f : Ent) (t u : TypeId) : EB ((w.alloc (.cells e.cells.toArray t)).alloc (.cells f.cells.toArray u)) w.heap.size e ∧ EB ((w.alloc (.cells e.cells.toArray t)).alloc (.cells f.cells.toArray u)) (w.heap.size + 1) f ∧
    Below w.heap.size w ((w.alloc (.cells e.cells.toArray t)).alloc (.cells f.cells.toArray u)) := by
  have h := two_new w e f t u
  exact ⟨h.1.of_block rfl (Nat.le_refl _), h.2.1.of_block rfl (Nat.le_refl _), ((Below.refl _ _).alloc (Nat.le_refl _) _).alloc (by simp) _⟩

set_option maxHeartbeats 4000000 in
set_option maxRecDepth 100000 in
theorem rparse_long (s : Bytes) (h : s.length = 64) (w : World) :
    Calls Tryd.prog 70 #[.string (strOf s)] w fun x w' => x = .returned (.tuple #[.agg (parsed s).cells.toArray, .bool (parse s).isSome]) ∧ Below w.heap.size w w' := by
  have hs : (strOf s).size = 64 := by rw [strOf_size]; exact h
  have hs2 : ((strOf s).size : Int) = 64 := by omega
  have C1 : Hid (∀ W, Calls Tryd.prog 87 #[.string (strOf s), .int .i64 2, .int .i64 1] W fun x w' => x = .returned (.tuple #[.int .i64 (getI ((s.drop 2).take 1)), .int .i64 0]) ∧ W = w') := Lib.hid (fun W => rget_at s 2 1 (.inl rfl) (by omega) (by omega) W)
  have C2 : Hid (∀ W, Calls Tryd.prog 87 #[.string (strOf s), .int .i64 4, .int .i64 4] W fun x w' => x = .returned (.tuple #[.int .i64 (getI ((s.drop 4).take 4)), .int .i64 0]) ∧ W = w') := Lib.hid (fun W => rget_at s 4 4 (.inr rfl) (by omega) (by omega) W)
  have C3 : Hid (∀ W, Calls Tryd.prog 87 #[.string (strOf s), .int .i64 3, .int .i64 1] W fun x w' => x = .returned (.tuple #[.int .i64 (getI ((s.drop 3).take 1)), .int .i64 0]) ∧ W = w') := Lib.hid (fun W => rget_at s 3 1 (.inl rfl) (by omega) (by omega) W)
  have C4 : Hid (∀ W, Calls Tryd.prog 87 #[.string (strOf s), .int .i64 8, .int .i64 4] W fun x w' => x = .returned (.tuple #[.int .i64 (getI ((s.drop 8).take 4)), .int .i64 0]) ∧ W = w') := Lib.hid (fun W => rget_at s 8 4 (.inr rfl) (by omega) (by omega) W)
  have HCB := Lib.hid (fun W => rbuild_any (fields s) W)
  have HM := Lib.hid (str_mid s)
  have HPY : Hid ((fields s).valid = true → (fields s).blk = s → parse s = some (fields s)) := Lib.hid (fun h1 h2 => by unfold parse; rw [if_pos ⟨h, h1, h2⟩])
  have HPN : Hid ((fields s).valid = false ∨ (fields s).blk ≠ s → parse s = none) := Lib.hid (fun h1 => by
    unfold parse; rw [if_neg]; rintro ⟨-, h2, h3⟩; exact h1.elim (fun e => by rw [e] at h2; cases h2) (fun e => e h3))
  have HF : Hid ((fields s).cells = [.int .i64 (getI ((s.drop 2).take 1)), .int .i64 (getI ((s.drop 4).take 4)), .int .i64 (getI ((s.drop 3).take 1)), .int .i64 (getI ((s.drop 8).take 4)), .string (strOf ((s.drop 12).take 32))]) := Lib.hid rfl
  unfold parsed
  generalize getI ((s.drop 2).take 1) = n1 at C1 HF
  generalize getI ((s.drop 4).take 4) = n2 at C2 HF
  generalize getI ((s.drop 3).take 1) = n3 at C3 HF
  generalize getI ((s.drop 8).take 4) = n4 at C4 HF
  generalize strOf ((s.drop 12).take 32) = m at HM HF
  generalize fields s = E at *
  generalize parse s = PS at *
  clear h
  go_enter Tryd.func70, Tryd.ntmps70
  go_wp2_with fail
  refine (C1.out _).mono ?_
  rintro e w1 ⟨rfl, rfl⟩
  go_wp2_with fail
  refine (C3.out _).mono ?_
  rintro e w1 ⟨rfl, rfl⟩
  go_wp2_with fail
  refine (C2.out _).mono ?_
  rintro e w1 ⟨rfl, rfl⟩
  go_wp2_with fail
  refine (C4.out _).mono ?_
  rintro e w1 ⟨rfl, rfl⟩
  have HT := two_ref w Ent.zero E 43 43
  have HI := Lib.hid (ref_info E)
  have HIZ := Lib.hid (ref_info Ent.zero)
  have HCS : Hid (E.cells.toArray = #[.int .i64 n1, .int .i64 n2, .int .i64 n3, .int .i64 n4, .string m]) := Lib.hid (by rw [HF.out])
  rw [HF.out] at HT
  replace HT : EB ((w.alloc (.cells #[.int .i64 0, .int .i64 0, .int .i64 0, .int .i64 0, .string ⟨#[]⟩] 43)).alloc (.cells #[.int .i64 n1, .int .i64 n2, .int .i64 n3, .int .i64 n4, .string m] 43)) w.heap.size Ent.zero ∧ EB ((w.alloc (.cells #[.int .i64 0, .int .i64 0, .int .i64 0, .int .i64 0, .string ⟨#[]⟩] 43)).alloc (.cells #[.int .i64 n1, .int .i64 n2, .int .i64 n3, .int .i64 n4, .string m] 43)) (w.heap.size + 1) E ∧ Below w.heap.size w ((w.alloc (.cells #[.int .i64 0, .int .i64 0, .int .i64 0, .int .i64 0, .string ⟨#[]⟩] 43)).alloc (.cells #[.int .i64 n1, .int .i64 n2, .int .i64 n3, .int .i64 n4, .string m] 43)) := HT
  have HT5 := Lib.hid HT
  clear HT C1 C2 C3 C4
  have hm := HM.out
  go_wp2_with (first
    | (refine wpList_load_mid rfl 43 _ rfl (w.heap.size + 1) 0 rfl E.cells _ HT5.out.2.1.cells Tryd.underlying43 rfl HI.out ?_))
  refine (HCB.out _).mono ?_
  rintro x W6 ⟨rfl, hb6⟩
  have HR := Lib.hid (HT5.out.1.later hb6)
  have HE := Lib.hid (HT5.out.2.1.later hb6)
  have HB6 := Lib.hid (chain2 HT5.out.2.2 hb6)
  clear hb6 HCB HT5 hm
  cases hv : E.valid with
  | false =>
    have hps := HPN.out (.inl hv)
    go_wp2_with (first
      | (refine wpList_store_mid rfl 43 (.tmp 2) (.tmp 58) rfl w.heap.size 0 Ent.zero.cells.toArray rfl rfl HR.out.room (ref_infoA Ent.zero) (e_all Ent.zero) ?_; have HR2 : Hid (EB (W6.setCells w.heap.size 0 Ent.zero.cells.toArray.toList) w.heap.size Ent.zero ∧ Below w.heap.size w (W6.setCells w.heap.size 0 Ent.zero.cells.toArray.toList)) := Lib.hid ⟨HR.out.set Ent.zero, below_setCells HB6.out _ (Nat.le_refl _) _ _ _ HB6.out⟩; generalize World.setCells _ _ _ _ = W8 at HR2 ⊢))
    refine bodyPost_ret (results_cell2 rfl _ _ rfl HR2.out.1.cells Tryd.underlying43 rfl (ref_info _)) rfl ?_
    exact ⟨by rw [hps]; rfl, HR2.out.2⟩
  | true =>
    by_cases hbs : E.blk = s
    · have hps := HPY.out hv hbs
      rw [if_pos rfl, if_pos rfl, hbs]
      go_wp2_with (first
        | (refine wpList_load_mid rfl 43 (.tmp 12) rfl (w.heap.size + 1) 0 rfl E.cells _ HE.out.cells Tryd.underlying43 rfl HI.out ?_)
        | (refine wpList_store_mid rfl 43 (.tmp 2) (.tmp 59) rfl w.heap.size 0 E.cells.toArray rfl rfl HR.out.room (ref_infoA E) (e_all E) ?_; have HR2 : Hid (EB (W6.setCells w.heap.size 0 E.cells.toArray.toList) w.heap.size E ∧ Below w.heap.size w (W6.setCells w.heap.size 0 E.cells.toArray.toList)) := Lib.hid ⟨HR.out.set E, below_setCells HB6.out _ (Nat.le_refl _) _ _ _ HB6.out⟩; generalize World.setCells _ _ _ _ = W8 at HR2 ⊢))
      refine bodyPost_ret (results_cell2 rfl _ _ rfl HR2.out.1.cells Tryd.underlying43 rfl (ref_info _)) rfl ?_
      exact ⟨by rw [hps]; rfl, HR2.out.2⟩
    · have hps := HPN.out (.inr hbs)
      have q1 := str_neq hbs
      have q2 : (!((strOf E.blk).toList == (strOf s).toList)) = true := by rw [q1]; rfl
      rw [if_pos rfl, if_pos rfl]
      generalize strOf E.blk = xb at *
      go_wp2_with (first
        | (refine wpList_store_mid rfl 43 (.tmp 2) (.tmp 58) rfl w.heap.size 0 Ent.zero.cells.toArray rfl rfl HR.out.room (ref_infoA Ent.zero) (e_all Ent.zero) ?_; have HR2 : Hid (EB (W6.setCells w.heap.size 0 Ent.zero.cells.toArray.toList) w.heap.size Ent.zero ∧ Below w.heap.size w (W6.setCells w.heap.size 0 Ent.zero.cells.toArray.toList)) := Lib.hid ⟨HR.out.set Ent.zero, below_setCells HB6.out _ (Nat.le_refl _) _ _ _ HB6.out⟩; generalize World.setCells _ _ _ _ = W8 at HR2 ⊢))
      refine bodyPost_ret (results_cell2 rfl _ _ rfl HR2.out.1.cells Tryd.underlying43 rfl (ref_info _)) rfl ?_
      exact ⟨by rw [hps]; rfl, HR2.out.2⟩

theorem rparse_any (s : Bytes) (w : World) :
    Calls Tryd.prog 70 #[.string (strOf s)] w fun x w' => x = .returned (.tuple #[.agg (parsed s).cells.toArray, .bool (parse s).isSome]) ∧ Below w.heap.size w w' := by
  by_cases h : s.length = 64
  · exact rparse_long s h w
  · have e : parse s = none := by unfold parse; rw [if_neg (fun h' => h h'.1)]
    have := rparse_short s h w
    unfold parsed
    rw [e]; exact this


end Go.Proofs.YtkplmaaeggnbgaaDoor.Rg
