/- The walks of inst.Parse and of the document's: their contracts. No condition but those that each states. -/
import Derived.Test.YtmljjpdodcpohaaDoorInI
import Derived.BigRegion
namespace Go.Proofs.YtmljjpdodcpohaaDoor.In
open Go.RowKit Dk

/-! results that lie in a cell of their own -/
theorem results_cell2 {P : Program} {fn : Func} {t u : Tmp} {ty : TypeId} {d : TypeDesc} {cs : List Value} {b : Nat} (h : fn.results = #[.cell t ty, .tmp u]) (tmps : Array Value) (w : World) (ht : tmps.getD t undef = .pointer (some ⟨b, 0, none⟩)) (hc : w.rangeAt b 0 cs)
    (hu : P.underlying ty = some d) (hd : d.isRow = true) (hi : (P.info? ty).map (·.size) = some cs.length) : (results fn tmps).run P w = .ok (.tuple #[.agg cs.toArray, tmps.getD u undef]) w := by
  have hl := run_loadVar_mid (P := P) w b 0 ty cs d hc hu hd hi
  simp only [Array.getD_eq_getD_getElem?] at ht
  simp [results, h, ht, hl, asAddr]

def Ix.zero : Ix := ⟨0, 0, 0, 0⟩
/-- What Parse answers: an instruction and an error. -/
def parseL (l : List UInt8) (k : Int) : Ix × Int :=
  if k < 0 then (Ix.zero, 1) else if (l.length : Int) - k < 4 then (Ix.zero, 2) else if rightB (readL (l.drop k.toNat)) then (readL (l.drop k.toNat), 0) else (Ix.zero, 4)
def ansV (p : Ix × Int) : Value := .tuple #[.agg p.1.cells.toArray, .int .i64 p.2]
theorem read_at {l : List UInt8} {k j : Nat} (h : k + j < l.length) : l[k + j]? = some ((l.drop k).getD j 0) := by
  rw [List.getD_eq_getElem?_getD, List.getElem?_drop, List.getElem?_eq_getElem h]; rfl

set_option maxHeartbeats 2000000 in
set_option maxRecDepth 100000 in
theorem parse_any (l : List UInt8) (k : Int) (w : World) (HF : HasF w) (hl : l.length ≤ 2 ^ 40) (hk : k < 9223372036854775808) : Calls Tryd.prog 19 #[.string (strOf l), .int .i64 k] w fun e w' => e = .returned (ansV (parseL l k)) ∧ Below w.heap.size w w' := by
  obtain ⟨W1, hW1⟩ : ∃ W1, W1 = w.alloc (.cells Ix.zero.cells.toArray 23) := ⟨_, rfl⟩
  have hW1' : w.alloc (.cells #[.int .i64 0, .int .i64 0, .int .i64 0, .int .i64 0] 23) = W1 := hW1.symm
  have HB1 : Hid (Below w.heap.size w W1) := Lib.hid (by rw [hW1]; exact (Below.refl _ _).alloc (Nat.le_refl _) _)
  have HZ : Hid (IB W1 w.heap.size Ix.zero) := Lib.hid (by rw [hW1]; exact ib_new w Ix.zero _)
  have HS1 : W1.heap.size = w.heap.size + 1 := by rw [hW1]; simp
  have HI := Lib.hid i_info
  have HIA := Lib.hid i_infoA
  have HA := Lib.hid i_all
  have HST : Hid (∀ (W : World) (x : Ix), Below W1.heap.size W1 W → (W.setCells w.heap.size 0 x.cells.toArray.toList).rangeAt w.heap.size 0 x.cells ∧ Below w.heap.size w (W.setCells w.heap.size 0 x.cells.toArray.toList)) := Lib.hid (fun W x hb => by
    have h1 := HZ.out.later hb
    exact ⟨World.rangeAt_setCells_same W w.heap.size 0 x.cells h1.room, below_setCells (chain2 HB1.out hb) _ (Nat.le_refl _) _ _ _ (chain2 HB1.out hb)⟩)
  clear hW1
  have hsz := strOf_size l
  by_cases h0 : k < 0
  · rw [show parseL l k = (Ix.zero, 1) from if_pos h0]
    have HQ := Lib.hid (HST.out W1 Ix.zero (Below.refl _ _))
    clear HST hl hsz
    generalize strOf l = q at *
    go_enter Tryd.func19, Tryd.ntmps19
    go_wp2_with (refine wpList_store_mid rfl 23 (.tmp 4) (.tmp 9) rfl w.heap.size 0 Ix.zero.cells.toArray rfl rfl HZ.out.room (HIA.out _) (HA.out _) ?_; generalize World.setCells _ _ _ _ = W8 at HQ ⊢)
    refine bodyPost_ret (results_cell2 rfl _ _ rfl HQ.out.1 Tryd.underlying23 rfl (HI.out _)) rfl ?_
    exact ⟨rfl, HQ.out.2⟩
  · by_cases h1 : (l.length : Int) - k < 4
    · rw [show parseL l k = (Ix.zero, 2) from (if_neg h0).trans (if_pos h1)]
      have HQ := Lib.hid (HST.out W1 Ix.zero (Below.refl _ _))
      have v1 : ((strOf l).size : Int) - k < 4 := by rw [hsz]; exact h1
      have b0 : -9223372036854775808 ≤ ((strOf l).size : Int) - k := by omega
      have b1 : ((strOf l).size : Int) - k < 9223372036854775808 := by omega
      clear HST hl hsz h1
      generalize strOf l = q at *
      go_enter Tryd.func19, Tryd.ntmps19
      go_wp2_with (refine wpList_store_mid rfl 23 (.tmp 4) (.tmp 15) rfl w.heap.size 0 Ix.zero.cells.toArray rfl rfl HZ.out.room (HIA.out _) (HA.out _) ?_; generalize World.setCells _ _ _ _ = W8 at HQ ⊢)
      refine bodyPost_ret (results_cell2 rfl _ _ rfl HQ.out.1 Tryd.underlying23 rfl (HI.out _)) rfl ?_
      exact ⟨rfl, HQ.out.2⟩
    · have v1 : ¬((strOf l).size : Int) - k < 4 := by rw [hsz]; exact h1
      have b0 : -9223372036854775808 ≤ ((strOf l).size : Int) - k := by omega
      have b1 : ((strOf l).size : Int) - k < 9223372036854775808 := by omega
      have v2 : ¬k > ((strOf l).size : Int) := by omega
      obtain ⟨m, rfl⟩ : ∃ m : Nat, k = (m : Int) := ⟨k.toNat, by omega⟩
      have hml : m + 3 < l.length := by omega
      have hp : parseL l (m : Int) = if rightB (readL (l.drop m)) then (readL (l.drop m), 0) else (Ix.zero, 4) := (if_neg h0).trans ((if_neg h1).trans (by rw [Int.toNat_natCast]))
      rw [hp]
      have i0 : ∀ W : World, (Instr.index 9 (.string (strOf l)) (.int .i64 (m : Int))).run Tryd.prog W = .ok (.int .u8 (((l.drop m).getD 0 0).toNat : Int)) W := fun W => idx_run l m _ (read_at (j := 0) (by omega)) W
      have i1 : ∀ W : World, (Instr.index 9 (.string (strOf l)) (.int .i64 ((m : Int) + 1))).run Tryd.prog W = .ok (.int .u8 (((l.drop m).getD 1 0).toNat : Int)) W := fun W => idx_run l (m + 1) _ (read_at (j := 1) (by omega)) W
      have i2 : ∀ W : World, (Instr.index 9 (.string (strOf l)) (.int .i64 ((m : Int) + 2))).run Tryd.prog W = .ok (.int .u8 (((l.drop m).getD 2 0).toNat : Int)) W := fun W => idx_run l (m + 2) _ (read_at (j := 2) (by omega)) W
      have i3 : ∀ W : World, (Instr.index 9 (.string (strOf l)) (.int .i64 ((m : Int) + 3))).run Tryd.prog W = .ok (.int .u8 (((l.drop m).getD 3 0).toNat : Int)) W := fun W => idx_run l (m + 3) _ (read_at (j := 3) (by omega)) W
      have z0 : (0 : Int) ≤ (m : Int) := by omega
      have z1 : (m : Int) ≤ 1099511627776 := by omega
      have y1 : IntKind.i64.wrap ((m : Int) + 1) = (m : Int) + 1 := IntWalk.i64_in _ (by omega)
      have y2 : IntKind.i64.wrap ((m : Int) + 2) = (m : Int) + 2 := IntWalk.i64_in _ (by omega)
      have y3 : IntKind.i64.wrap ((m : Int) + 3) = (m : Int) + 3 := IntWalk.i64_in _ (by omega)
      have hrd : readL (l.drop m) = ⟨(((l.drop m).getD 0 0).toNat : Int), (((l.drop m).getD 1 0).toNat : Int), (((l.drop m).getD 2 0).toNat : Int), (((l.drop m).getD 3 0).toNat : Int)⟩ := rfl
      have e0 : (((l.drop m).getD 0 0).toNat : Int) < 256 := by have := ((l.drop m).getD 0 0).toNat_lt; omega
      have e1 : (((l.drop m).getD 1 0).toNat : Int) < 256 := by have := ((l.drop m).getD 1 0).toNat_lt; omega
      have e2 : (((l.drop m).getD 2 0).toNat : Int) < 256 := by have := ((l.drop m).getD 2 0).toNat_lt; omega
      have e3 : (((l.drop m).getD 3 0).toNat : Int) < 256 := by have := ((l.drop m).getD 3 0).toNat_lt; omega
      rw [hrd]
      generalize ((l.drop m).getD 0 0).toNat = n0 at *
      generalize ((l.drop m).getD 1 0).toNat = n1 at *
      generalize ((l.drop m).getD 2 0).toNat = n2 at *
      generalize ((l.drop m).getD 3 0).toNat = n3 at *
      obtain ⟨x, hx⟩ : ∃ x : Ix, x = ⟨n0, n1, n2, n3⟩ := ⟨_, rfl⟩
      rw [← hx]
      have HXE := Lib.hid hx
      obtain ⟨W3, hW3⟩ : ∃ W3, W3 = (W1.alloc (.cells x.cells.toArray 23)).drew := ⟨_, rfl⟩
      have HB3 : Hid (Below w.heap.size w W3) := Lib.hid (by rw [hW3]; exact (HB1.out.alloc HB1.out.size _).drew)
      have HB13 : Hid (Below W1.heap.size W1 W3) := Lib.hid (by rw [hW3]; exact ((Below.refl _ _).alloc (Nat.le_refl _) _).drew)
      have HX3 : Hid (IB W3 W1.heap.size x) := Lib.hid (by rw [hW3]; exact (ib_new W1 x _).later ((Below.refl _ _).drew))
      have RT := Lib.hid (right_any x W3 (HF.later HB3.out))
      have hW3' : (W1.alloc (.cells #[.int .i64 (n0 : Int), .int .i64 (n1 : Int), .int .i64 (n2 : Int), .int .i64 (n3 : Int)] 23)).drew = W3 := by rw [hW3, hx]; rfl
      have HW3 := Lib.hid hW3'
      clear hx hW3 hW3' hp hrd h0 h1 hl hk hml HS1
      generalize strOf l = q at *
      clear hsz
      cases hr : rightB x with
      | true =>
        rw [hr] at RT
        rw [if_pos rfl]
        clear hr
        go_enter Tryd.func19, Tryd.ntmps19
        go_wp2_with fail
        go_region
        rw [HW3.out]
        clear i0 i1 i2 i3 e0 e1 e2 e3 b0 b1
        go_wp2_with (first
          | (refine wpList_load_mid rfl 23 (.tmp 6) rfl W1.heap.size 0 rfl x.cells _ HX3.out.cells Tryd.underlying23 rfl (HI.out x) ?_)
          | (go_at_call 10; refine RT.out.mono ?_; rintro e w4 ⟨rfl, hb4⟩; have HB4 := Lib.hid (chain2 HB13.out hb4); have HX4 := Lib.hid (HX3.out.later hb4); have HQ := Lib.hid (HST.out w4 x HB4.out); clear hb4 RT HX3 HST)
          | (refine wpList_load_mid rfl 23 (.tmp 6) rfl W1.heap.size 0 rfl x.cells _ HX4.out.cells Tryd.underlying23 rfl (HI.out x) ?_)
          | (refine wpList_store_mid rfl 23 (.tmp 4) (.tmp 40) rfl w.heap.size 0 x.cells.toArray rfl rfl (HZ.out.later HB4.out).room (HIA.out _) (HA.out _) ?_; generalize World.setCells _ _ _ _ = W8 at HQ ⊢))
        refine bodyPost_ret (results_cell2 rfl _ _ rfl HQ.out.1 Tryd.underlying23 rfl (HI.out _)) rfl ?_
        exact ⟨rfl, HQ.out.2⟩
      | false =>
        rw [hr] at RT
        rw [if_neg Bool.false_ne_true]
        clear hr
        go_enter Tryd.func19, Tryd.ntmps19
        go_wp2_with fail
        go_region
        rw [HW3.out]
        clear i0 i1 i2 i3 e0 e1 e2 e3 b0 b1
        go_wp2_with (first
          | (refine wpList_load_mid rfl 23 (.tmp 6) rfl W1.heap.size 0 rfl x.cells _ HX3.out.cells Tryd.underlying23 rfl (HI.out x) ?_)
          | (go_at_call 10; refine RT.out.mono ?_; rintro e w4 ⟨rfl, hb4⟩; have HB4 := Lib.hid (chain2 HB13.out hb4); have HX4 := Lib.hid (HX3.out.later hb4); have HQ := Lib.hid (HST.out w4 Ix.zero HB4.out); clear hb4 RT HX3 HST)
          | (refine wpList_store_mid rfl 23 (.tmp 4) (.tmp 39) rfl w.heap.size 0 Ix.zero.cells.toArray rfl rfl (HZ.out.later HB4.out).room (HIA.out _) (HA.out _) ?_; generalize World.setCells _ _ _ _ = W8 at HQ ⊢))
        refine bodyPost_ret (results_cell2 rfl _ _ rfl HQ.out.1 Tryd.underlying23 rfl (HI.out _)) rfl ?_
        exact ⟨rfl, HQ.out.2⟩

set_option maxHeartbeats 2000000 in
set_option maxRecDepth 100000 in
theorem rparse_any (l : List UInt8) (k : Int) (w : World) (hl : l.length ≤ 2 ^ 40) (hk : k < 9223372036854775808) : Calls Tryd.prog 20 #[.string (strOf l), .int .i64 k] w fun e w' => e = .returned (ansV (parseL l k)) ∧ Below w.heap.size w w' := by
  obtain ⟨W1, hW1⟩ : ∃ W1, W1 = w.alloc (.cells Ix.zero.cells.toArray 23) := ⟨_, rfl⟩
  have hW1' : w.alloc (.cells #[.int .i64 0, .int .i64 0, .int .i64 0, .int .i64 0] 23) = W1 := hW1.symm
  have HB1 : Hid (Below w.heap.size w W1) := Lib.hid (by rw [hW1]; exact (Below.refl _ _).alloc (Nat.le_refl _) _)
  have HZ : Hid (IB W1 w.heap.size Ix.zero) := Lib.hid (by rw [hW1]; exact ib_new w Ix.zero _)
  have HS1 : W1.heap.size = w.heap.size + 1 := by rw [hW1]; simp
  have HI := Lib.hid i_info
  have HIA := Lib.hid i_infoA
  have HA := Lib.hid i_all
  have HST : Hid (∀ (W : World) (x : Ix), Below W1.heap.size W1 W → (W.setCells w.heap.size 0 x.cells.toArray.toList).rangeAt w.heap.size 0 x.cells ∧ Below w.heap.size w (W.setCells w.heap.size 0 x.cells.toArray.toList)) := Lib.hid (fun W x hb => by
    have h1 := HZ.out.later hb
    exact ⟨World.rangeAt_setCells_same W w.heap.size 0 x.cells h1.room, below_setCells (chain2 HB1.out hb) _ (Nat.le_refl _) _ _ _ (chain2 HB1.out hb)⟩)
  clear hW1
  have hsz := strOf_size l
  by_cases h0 : k < 0
  · rw [show parseL l k = (Ix.zero, 1) from if_pos h0]
    have HQ := Lib.hid (HST.out W1 Ix.zero (Below.refl _ _))
    clear HST hl hsz
    generalize strOf l = q at *
    go_enter Tryd.func20, Tryd.ntmps20
    go_wp2_with (refine wpList_store_mid rfl 23 (.tmp 4) (.tmp 9) rfl w.heap.size 0 Ix.zero.cells.toArray rfl rfl HZ.out.room (HIA.out _) (HA.out _) ?_; generalize World.setCells _ _ _ _ = W8 at HQ ⊢)
    refine bodyPost_ret (results_cell2 rfl _ _ rfl HQ.out.1 Tryd.underlying23 rfl (HI.out _)) rfl ?_
    exact ⟨rfl, HQ.out.2⟩
  · by_cases h1 : (l.length : Int) - k < 4
    · rw [show parseL l k = (Ix.zero, 2) from (if_neg h0).trans (if_pos h1)]
      have HQ := Lib.hid (HST.out W1 Ix.zero (Below.refl _ _))
      have v1 : ((strOf l).size : Int) - k < 4 := by rw [hsz]; exact h1
      have b0 : -9223372036854775808 ≤ ((strOf l).size : Int) - k := by omega
      have b1 : ((strOf l).size : Int) - k < 9223372036854775808 := by omega
      by_cases h2 : k > ((strOf l).size : Int)
      · clear HST hl hsz h1
        generalize strOf l = q at *
        go_enter Tryd.func20, Tryd.ntmps20
        go_wp2_with (refine wpList_store_mid rfl 23 (.tmp 4) (.tmp 21) rfl w.heap.size 0 Ix.zero.cells.toArray rfl rfl HZ.out.room (HIA.out _) (HA.out _) ?_; generalize World.setCells _ _ _ _ = W8 at HQ ⊢)
        refine bodyPost_ret (results_cell2 rfl _ _ rfl HQ.out.1 Tryd.underlying23 rfl (HI.out _)) rfl ?_
        exact ⟨rfl, HQ.out.2⟩
      · clear HST hl hsz h1
        generalize strOf l = q at *
        go_enter Tryd.func20, Tryd.ntmps20
        go_wp2_with (refine wpList_store_mid rfl 23 (.tmp 4) (.tmp 21) rfl w.heap.size 0 Ix.zero.cells.toArray rfl rfl HZ.out.room (HIA.out _) (HA.out _) ?_; generalize World.setCells _ _ _ _ = W8 at HQ ⊢)
        refine bodyPost_ret (results_cell2 rfl _ _ rfl HQ.out.1 Tryd.underlying23 rfl (HI.out _)) rfl ?_
        exact ⟨rfl, HQ.out.2⟩
    · have v1 : ¬((strOf l).size : Int) - k < 4 := by rw [hsz]; exact h1
      have b0 : -9223372036854775808 ≤ ((strOf l).size : Int) - k := by omega
      have b1 : ((strOf l).size : Int) - k < 9223372036854775808 := by omega
      have v2 : ¬k > ((strOf l).size : Int) := by omega
      obtain ⟨m, rfl⟩ : ∃ m : Nat, k = (m : Int) := ⟨k.toNat, by omega⟩
      have hml : m + 3 < l.length := by omega
      have hp : parseL l (m : Int) = if rightB (readL (l.drop m)) then (readL (l.drop m), 0) else (Ix.zero, 4) := (if_neg h0).trans ((if_neg h1).trans (by rw [Int.toNat_natCast]))
      rw [hp]
      have i0 : ∀ W : World, (Instr.index 9 (.string (strOf l)) (.int .i64 (m : Int))).run Tryd.prog W = .ok (.int .u8 (((l.drop m).getD 0 0).toNat : Int)) W := fun W => idx_run l m _ (read_at (j := 0) (by omega)) W
      have i1 : ∀ W : World, (Instr.index 9 (.string (strOf l)) (.int .i64 ((m : Int) + 1))).run Tryd.prog W = .ok (.int .u8 (((l.drop m).getD 1 0).toNat : Int)) W := fun W => idx_run l (m + 1) _ (read_at (j := 1) (by omega)) W
      have i2 : ∀ W : World, (Instr.index 9 (.string (strOf l)) (.int .i64 ((m : Int) + 2))).run Tryd.prog W = .ok (.int .u8 (((l.drop m).getD 2 0).toNat : Int)) W := fun W => idx_run l (m + 2) _ (read_at (j := 2) (by omega)) W
      have i3 : ∀ W : World, (Instr.index 9 (.string (strOf l)) (.int .i64 ((m : Int) + 3))).run Tryd.prog W = .ok (.int .u8 (((l.drop m).getD 3 0).toNat : Int)) W := fun W => idx_run l (m + 3) _ (read_at (j := 3) (by omega)) W
      have z0 : (0 : Int) ≤ (m : Int) := by omega
      have z1 : (m : Int) ≤ 1099511627776 := by omega
      have y1 : IntKind.i64.wrap ((m : Int) + 1) = (m : Int) + 1 := IntWalk.i64_in _ (by omega)
      have y2 : IntKind.i64.wrap ((m : Int) + 2) = (m : Int) + 2 := IntWalk.i64_in _ (by omega)
      have y3 : IntKind.i64.wrap ((m : Int) + 3) = (m : Int) + 3 := IntWalk.i64_in _ (by omega)
      have hrd : readL (l.drop m) = ⟨(((l.drop m).getD 0 0).toNat : Int), (((l.drop m).getD 1 0).toNat : Int), (((l.drop m).getD 2 0).toNat : Int), (((l.drop m).getD 3 0).toNat : Int)⟩ := rfl
      have e0 : (((l.drop m).getD 0 0).toNat : Int) < 256 := by have := ((l.drop m).getD 0 0).toNat_lt; omega
      have e1 : (((l.drop m).getD 1 0).toNat : Int) < 256 := by have := ((l.drop m).getD 1 0).toNat_lt; omega
      have e2 : (((l.drop m).getD 2 0).toNat : Int) < 256 := by have := ((l.drop m).getD 2 0).toNat_lt; omega
      have e3 : (((l.drop m).getD 3 0).toNat : Int) < 256 := by have := ((l.drop m).getD 3 0).toNat_lt; omega
      rw [hrd]
      generalize ((l.drop m).getD 0 0).toNat = n0 at *
      generalize ((l.drop m).getD 1 0).toNat = n1 at *
      generalize ((l.drop m).getD 2 0).toNat = n2 at *
      generalize ((l.drop m).getD 3 0).toNat = n3 at *
      obtain ⟨x, hx⟩ : ∃ x : Ix, x = ⟨n0, n1, n2, n3⟩ := ⟨_, rfl⟩
      rw [← hx]
      have HXE := Lib.hid hx
      obtain ⟨W3, hW3⟩ : ∃ W3, W3 = (W1.alloc (.cells x.cells.toArray 23)).drew := ⟨_, rfl⟩
      have HB3 : Hid (Below w.heap.size w W3) := Lib.hid (by rw [hW3]; exact (HB1.out.alloc HB1.out.size _).drew)
      have HB13 : Hid (Below W1.heap.size W1 W3) := Lib.hid (by rw [hW3]; exact ((Below.refl _ _).alloc (Nat.le_refl _) _).drew)
      have HX3 : Hid (IB W3 W1.heap.size x) := Lib.hid (by rw [hW3]; exact (ib_new W1 x _).later ((Below.refl _ _).drew))
      have RT := Lib.hid (rright_any x W3 )
      have hW3' : (W1.alloc (.cells #[.int .i64 (n0 : Int), .int .i64 (n1 : Int), .int .i64 (n2 : Int), .int .i64 (n3 : Int)] 23)).drew = W3 := by rw [hW3, hx]; rfl
      have HW3 := Lib.hid hW3'
      clear hx hW3 hW3' hp hrd h0 h1 hl hk hml HS1
      generalize strOf l = q at *
      clear hsz
      cases hr : rightB x with
      | true =>
        rw [hr] at RT
        rw [if_pos rfl]
        clear hr
        go_enter Tryd.func20, Tryd.ntmps20
        go_wp2_with fail
        go_region
        rw [HW3.out]
        clear i0 i1 i2 i3 e0 e1 e2 e3 b0 b1
        go_wp2_with (first
          | (refine wpList_load_mid rfl 23 (.tmp 6) rfl W1.heap.size 0 rfl x.cells _ HX3.out.cells Tryd.underlying23 rfl (HI.out x) ?_)
          | (go_at_call 11; refine RT.out.mono ?_; rintro e w4 ⟨rfl, hb4⟩; have HB4 := Lib.hid (chain2 HB13.out hb4); have HX4 := Lib.hid (HX3.out.later hb4); have HQ := Lib.hid (HST.out w4 x HB4.out); clear hb4 RT HX3 HST)
          | (refine wpList_load_mid rfl 23 (.tmp 6) rfl W1.heap.size 0 rfl x.cells _ HX4.out.cells Tryd.underlying23 rfl (HI.out x) ?_)
          | (refine wpList_store_mid rfl 23 (.tmp 4) (.tmp 46) rfl w.heap.size 0 x.cells.toArray rfl rfl (HZ.out.later HB4.out).room (HIA.out _) (HA.out _) ?_; generalize World.setCells _ _ _ _ = W8 at HQ ⊢))
        refine bodyPost_ret (results_cell2 rfl _ _ rfl HQ.out.1 Tryd.underlying23 rfl (HI.out _)) rfl ?_
        exact ⟨rfl, HQ.out.2⟩
      | false =>
        rw [hr] at RT
        rw [if_neg Bool.false_ne_true]
        clear hr
        go_enter Tryd.func20, Tryd.ntmps20
        go_wp2_with fail
        go_region
        rw [HW3.out]
        clear i0 i1 i2 i3 e0 e1 e2 e3 b0 b1
        go_wp2_with (first
          | (refine wpList_load_mid rfl 23 (.tmp 6) rfl W1.heap.size 0 rfl x.cells _ HX3.out.cells Tryd.underlying23 rfl (HI.out x) ?_)
          | (go_at_call 11; refine RT.out.mono ?_; rintro e w4 ⟨rfl, hb4⟩; have HB4 := Lib.hid (chain2 HB13.out hb4); have HX4 := Lib.hid (HX3.out.later hb4); have HQ := Lib.hid (HST.out w4 Ix.zero HB4.out); clear hb4 RT HX3 HST)
          | (refine wpList_store_mid rfl 23 (.tmp 4) (.tmp 45) rfl w.heap.size 0 Ix.zero.cells.toArray rfl rfl (HZ.out.later HB4.out).room (HIA.out _) (HA.out _) ?_; generalize World.setCells _ _ _ _ = W8 at HQ ⊢))
        refine bodyPost_ret (results_cell2 rfl _ _ rfl HQ.out.1 Tryd.underlying23 rfl (HI.out _)) rfl ?_
        exact ⟨rfl, HQ.out.2⟩

end Go.Proofs.YtmljjpdodcpohaaDoor.In
