/- The walks of inst.Parse and of the document's: their contracts. The walk of chrysalisref01.wide and chrysalisref01.Put: their contracts. The walk of chrysalisref01.Get, chrysalisref01.Next and chrysalisref01.Text: their contracts. No condition but those that each states. -/
import Derived.Test.YtmloljfnnkfkjaaDoorMgAN
import Derived.BigRegion
import Derived.Test.YtmloljfnnkfkjaaDoorMgAI
import Derived.Test.YtmloljfnnkfkjaaDoorMgAC
import Derived.Deep.AppendLies
namespace Go.Proofs.YtmloljfnnkfkjaaDoor.In
open Go.RowKit Dk

/-! results that lie in a cell of their own -/
theorem results_cell2 {P : Program} {fn : Func} {t u : Tmp} {ty : TypeId} {d : TypeDesc} {cs : List Value} {b : Nat} (h : fn.results = #[.cell t ty, .tmp u]) (tmps : Array Value) (w : World) (ht : tmps.getD t undef = .pointer (some ⟨b, 0, none⟩)) (hc : w.rangeAt b 0 cs)
    (hu : P.underlying ty = some d) (hd : d.isRow = true) (hi : (P.info? ty).map (·.size) = some cs.length) : (results fn tmps).run P w = .ok (.tuple #[.agg cs.toArray, tmps.getD u undef]) w := by
  have hl := run_loadVar_mid (P := P) w b 0 ty cs d hc hu hd hi
  simp only [Array.getD_eq_getD_getElem?] at ht
  simp [results, h, ht, hl, asAddr]

def Ix.zero : Ix := ⟨0, 0, 0, 0⟩
/-- What Parse answers: an instruction and an error. -/
def parseL (l : List UInt8) (k : Int) : Ix × Int :=
  if k < 0 then (Ix.zero, 1) else if (l.length : Int) - k < 4 then (Ix.zero, 2) else if rightB (readL (l.drop k.toNat)) then (readL (l.drop k.toNat), 0) else (Ix.zero, 4)
def ansV (p : Ix × Int) : Value := .tuple #[.agg p.1.cells.toArray, .int .i64 p.2]
theorem read_at {l : List UInt8} {k j : Nat} (h : k + j < l.length) : l[k + j]? = some ((l.drop k).getD j 0) := by
  rw [List.getD_eq_getElem?_getD, List.getElem?_drop, List.getElem?_eq_getElem h]; rfl

set_option maxHeartbeats 2000000 in
set_option maxRecDepth 100000 in
theorem parse_any (l : List UInt8) (k : Int) (w : World) (HF : HasF w) (hl : l.length ≤ 2 ^ 40) (hk : k < 9223372036854775808) : Calls Tryd.prog 75 #[.string (strOf l), .int .i64 k] w fun e w' => e = .returned (ansV (parseL l k)) ∧ Below w.heap.size w w' := by
  obtain ⟨W1, hW1⟩ : ∃ W1, W1 = w.alloc (.cells Ix.zero.cells.toArray 89) := ⟨_, rfl⟩
  have hW1' : w.alloc (.cells #[.int .i64 0, .int .i64 0, .int .i64 0, .int .i64 0] 89) = W1 := hW1.symm
  have HB1 : Hid (Below w.heap.size w W1) := Lib.hid (by rw [hW1]; exact (Below.refl _ _).alloc (Nat.le_refl _) _)
  have HZ : Hid (IB W1 w.heap.size Ix.zero) := Lib.hid (by rw [hW1]; exact ib_new w Ix.zero _)
  have HS1 : W1.heap.size = w.heap.size + 1 := by rw [hW1]; simp
  have HI := Lib.hid i_info
  have HIA := Lib.hid i_infoA
  have HA := Lib.hid i_all
  have HST : Hid (∀ (W : World) (x : Ix), Below W1.heap.size W1 W → (W.setCells w.heap.size 0 x.cells.toArray.toList).rangeAt w.heap.size 0 x.cells ∧ Below w.heap.size w (W.setCells w.heap.size 0 x.cells.toArray.toList)) := Lib.hid (fun W x hb => by
    have h1 := HZ.out.later hb
    exact ⟨World.rangeAt_setCells_same W w.heap.size 0 x.cells h1.room, below_setCells (chain2 HB1.out hb) _ (Nat.le_refl _) _ _ _ (chain2 HB1.out hb)⟩)
  clear hW1
  have hsz := strOf_size l
  by_cases h0 : k < 0
  · rw [show parseL l k = (Ix.zero, 1) from if_pos h0]
    have HQ := Lib.hid (HST.out W1 Ix.zero (Below.refl _ _))
    clear HST hl hsz
    generalize strOf l = q at *
    go_enter Tryd.func75, Tryd.ntmps75
    go_wp2_with (refine wpList_store_mid rfl 89 (.tmp 4) (.tmp 9) rfl w.heap.size 0 Ix.zero.cells.toArray rfl rfl HZ.out.room (HIA.out _) (HA.out _) ?_; generalize World.setCells _ _ _ _ = W8 at HQ ⊢)
    refine bodyPost_ret (results_cell2 rfl _ _ rfl HQ.out.1 Tryd.underlying89 rfl (HI.out _)) rfl ?_
    exact ⟨rfl, HQ.out.2⟩
  · by_cases h1 : (l.length : Int) - k < 4
    · rw [show parseL l k = (Ix.zero, 2) from (if_neg h0).trans (if_pos h1)]
      have HQ := Lib.hid (HST.out W1 Ix.zero (Below.refl _ _))
      have v1 : ((strOf l).size : Int) - k < 4 := by rw [hsz]; exact h1
      have b0 : -9223372036854775808 ≤ ((strOf l).size : Int) - k := by omega
      have b1 : ((strOf l).size : Int) - k < 9223372036854775808 := by omega
      clear HST hl hsz h1
      generalize strOf l = q at *
      go_enter Tryd.func75, Tryd.ntmps75
      go_wp2_with (refine wpList_store_mid rfl 89 (.tmp 4) (.tmp 15) rfl w.heap.size 0 Ix.zero.cells.toArray rfl rfl HZ.out.room (HIA.out _) (HA.out _) ?_; generalize World.setCells _ _ _ _ = W8 at HQ ⊢)
      refine bodyPost_ret (results_cell2 rfl _ _ rfl HQ.out.1 Tryd.underlying89 rfl (HI.out _)) rfl ?_
      exact ⟨rfl, HQ.out.2⟩
    · have v1 : ¬((strOf l).size : Int) - k < 4 := by rw [hsz]; exact h1
      have b0 : -9223372036854775808 ≤ ((strOf l).size : Int) - k := by omega
      have b1 : ((strOf l).size : Int) - k < 9223372036854775808 := by omega
      have v2 : ¬k > ((strOf l).size : Int) := by omega
      obtain ⟨m, rfl⟩ : ∃ m : Nat, k = (m : Int) := ⟨k.toNat, by omega⟩
      have hml : m + 3 < l.length := by omega
      have hp : parseL l (m : Int) = if rightB (readL (l.drop m)) then (readL (l.drop m), 0) else (Ix.zero, 4) := (if_neg h0).trans ((if_neg h1).trans (by rw [Int.toNat_natCast]))
      rw [hp]
      have i0 : ∀ W : World, (Instr.index 9 (.string (strOf l)) (.int .i64 (m : Int))).run Tryd.prog W = .ok (.int .u8 (((l.drop m).getD 0 0).toNat : Int)) W := fun W => idx_run l m _ (read_at (j := 0) (by omega)) W
      have i1 : ∀ W : World, (Instr.index 9 (.string (strOf l)) (.int .i64 ((m : Int) + 1))).run Tryd.prog W = .ok (.int .u8 (((l.drop m).getD 1 0).toNat : Int)) W := fun W => idx_run l (m + 1) _ (read_at (j := 1) (by omega)) W
      have i2 : ∀ W : World, (Instr.index 9 (.string (strOf l)) (.int .i64 ((m : Int) + 2))).run Tryd.prog W = .ok (.int .u8 (((l.drop m).getD 2 0).toNat : Int)) W := fun W => idx_run l (m + 2) _ (read_at (j := 2) (by omega)) W
      have i3 : ∀ W : World, (Instr.index 9 (.string (strOf l)) (.int .i64 ((m : Int) + 3))).run Tryd.prog W = .ok (.int .u8 (((l.drop m).getD 3 0).toNat : Int)) W := fun W => idx_run l (m + 3) _ (read_at (j := 3) (by omega)) W
      have z0 : (0 : Int) ≤ (m : Int) := by omega
      have z1 : (m : Int) ≤ 1099511627776 := by omega
      have y1 : IntKind.i64.wrap ((m : Int) + 1) = (m : Int) + 1 := IntWalk.i64_in _ (by omega)
      have y2 : IntKind.i64.wrap ((m : Int) + 2) = (m : Int) + 2 := IntWalk.i64_in _ (by omega)
      have y3 : IntKind.i64.wrap ((m : Int) + 3) = (m : Int) + 3 := IntWalk.i64_in _ (by omega)
      have hrd : readL (l.drop m) = ⟨(((l.drop m).getD 0 0).toNat : Int), (((l.drop m).getD 1 0).toNat : Int), (((l.drop m).getD 2 0).toNat : Int), (((l.drop m).getD 3 0).toNat : Int)⟩ := rfl
      have e0 : (((l.drop m).getD 0 0).toNat : Int) < 256 := by have := ((l.drop m).getD 0 0).toNat_lt; omega
      have e1 : (((l.drop m).getD 1 0).toNat : Int) < 256 := by have := ((l.drop m).getD 1 0).toNat_lt; omega
      have e2 : (((l.drop m).getD 2 0).toNat : Int) < 256 := by have := ((l.drop m).getD 2 0).toNat_lt; omega
      have e3 : (((l.drop m).getD 3 0).toNat : Int) < 256 := by have := ((l.drop m).getD 3 0).toNat_lt; omega
      rw [hrd]
      generalize ((l.drop m).getD 0 0).toNat = n0 at *
      generalize ((l.drop m).getD 1 0).toNat = n1 at *
      generalize ((l.drop m).getD 2 0).toNat = n2 at *
      generalize ((l.drop m).getD 3 0).toNat = n3 at *
      obtain ⟨x, hx⟩ : ∃ x : Ix, x = ⟨n0, n1, n2, n3⟩ := ⟨_, rfl⟩
      rw [← hx]
      have HXE := Lib.hid hx
      obtain ⟨W3, hW3⟩ : ∃ W3, W3 = (W1.alloc (.cells x.cells.toArray 89)).drew := ⟨_, rfl⟩
      have HB3 : Hid (Below w.heap.size w W3) := Lib.hid (by rw [hW3]; exact (HB1.out.alloc HB1.out.size _).drew)
      have HB13 : Hid (Below W1.heap.size W1 W3) := Lib.hid (by rw [hW3]; exact ((Below.refl _ _).alloc (Nat.le_refl _) _).drew)
      have HX3 : Hid (IB W3 W1.heap.size x) := Lib.hid (by rw [hW3]; exact (ib_new W1 x _).later ((Below.refl _ _).drew))
      have RT := Lib.hid (right_any x W3 (HF.later HB3.out))
      have hW3' : (W1.alloc (.cells #[.int .i64 (n0 : Int), .int .i64 (n1 : Int), .int .i64 (n2 : Int), .int .i64 (n3 : Int)] 89)).drew = W3 := by rw [hW3, hx]; rfl
      have HW3 := Lib.hid hW3'
      clear hx hW3 hW3' hp hrd h0 h1 hl hk hml HS1
      generalize strOf l = q at *
      clear hsz
      cases hr : rightB x with
      | true =>
        rw [hr] at RT
        rw [if_pos rfl]
        clear hr
        go_enter Tryd.func75, Tryd.ntmps75
        go_wp2_with fail
        go_region
        rw [HW3.out]
        clear i0 i1 i2 i3 e0 e1 e2 e3 b0 b1
        go_wp2_with (first
          | (refine wpList_load_mid rfl 89 (.tmp 6) rfl W1.heap.size 0 rfl x.cells _ HX3.out.cells Tryd.underlying89 rfl (HI.out x) ?_)
          | (go_at_call 62; refine RT.out.mono ?_; rintro e w4 ⟨rfl, hb4⟩; have HB4 := Lib.hid (chain2 HB13.out hb4); have HX4 := Lib.hid (HX3.out.later hb4); have HQ := Lib.hid (HST.out w4 x HB4.out); clear hb4 RT HX3 HST)
          | (refine wpList_load_mid rfl 89 (.tmp 6) rfl W1.heap.size 0 rfl x.cells _ HX4.out.cells Tryd.underlying89 rfl (HI.out x) ?_)
          | (refine wpList_store_mid rfl 89 (.tmp 4) (.tmp 40) rfl w.heap.size 0 x.cells.toArray rfl rfl (HZ.out.later HB4.out).room (HIA.out _) (HA.out _) ?_; generalize World.setCells _ _ _ _ = W8 at HQ ⊢))
        refine bodyPost_ret (results_cell2 rfl _ _ rfl HQ.out.1 Tryd.underlying89 rfl (HI.out _)) rfl ?_
        exact ⟨rfl, HQ.out.2⟩
      | false =>
        rw [hr] at RT
        rw [if_neg Bool.false_ne_true]
        clear hr
        go_enter Tryd.func75, Tryd.ntmps75
        go_wp2_with fail
        go_region
        rw [HW3.out]
        clear i0 i1 i2 i3 e0 e1 e2 e3 b0 b1
        go_wp2_with (first
          | (refine wpList_load_mid rfl 89 (.tmp 6) rfl W1.heap.size 0 rfl x.cells _ HX3.out.cells Tryd.underlying89 rfl (HI.out x) ?_)
          | (go_at_call 62; refine RT.out.mono ?_; rintro e w4 ⟨rfl, hb4⟩; have HB4 := Lib.hid (chain2 HB13.out hb4); have HX4 := Lib.hid (HX3.out.later hb4); have HQ := Lib.hid (HST.out w4 Ix.zero HB4.out); clear hb4 RT HX3 HST)
          | (refine wpList_store_mid rfl 89 (.tmp 4) (.tmp 39) rfl w.heap.size 0 Ix.zero.cells.toArray rfl rfl (HZ.out.later HB4.out).room (HIA.out _) (HA.out _) ?_; generalize World.setCells _ _ _ _ = W8 at HQ ⊢))
        refine bodyPost_ret (results_cell2 rfl _ _ rfl HQ.out.1 Tryd.underlying89 rfl (HI.out _)) rfl ?_
        exact ⟨rfl, HQ.out.2⟩

end Go.Proofs.YtmloljfnnkfkjaaDoor.In

namespace Go.Proofs.YtmloljfnnkfkjaaDoor
open Go.RowKit

set_option maxHeartbeats 400000 in
theorem wide_any (n : Int) (w : World) : Calls Tryd.prog 87 #[.int .i64 n] w fun e w' => e = .returned (.bool (wideB n)) ∧ w = w' := by
  by_cases h1 : n = 1
  · subst h1
    go_enter Tryd.func87, Tryd.ntmps87
    go_wp2
    go_ret
    exact ⟨rfl, rfl⟩
  by_cases h2 : n = 2
  · subst h2
    go_enter Tryd.func87, Tryd.ntmps87
    go_wp2
    go_ret
    exact ⟨rfl, rfl⟩
  by_cases h4 : n = 4
  · subst h4
    go_enter Tryd.func87, Tryd.ntmps87
    go_wp2
    go_ret
    exact ⟨rfl, rfl⟩
  by_cases h8 : n = 8
  · subst h8
    go_enter Tryd.func87, Tryd.ntmps87
    go_wp2
    go_ret
    exact ⟨rfl, rfl⟩
  have e1 : (n == 1) = false := beq_eq_false_iff_ne.2 h1
  have e2 : (n == 2) = false := beq_eq_false_iff_ne.2 h2
  have e4 : (n == 4) = false := beq_eq_false_iff_ne.2 h4
  have e8 : (n == 8) = false := beq_eq_false_iff_ne.2 h8
  have hw : wideB n = false := by simp [wideB, e1, e2, e4, e8]
  rw [hw]
  clear h1 h2 h4 h8 hw
  go_enter Tryd.func87, Tryd.ntmps87
  go_wp2
  go_ret
  exact ⟨rfl, rfl⟩

set_option maxHeartbeats 400000 in
theorem rput_wide (n k : Int) (w : World) (hk : wideB k = false) :
    Calls Tryd.prog 54 #[.int .i64 n, .int .i64 k] w fun e w' => e = .returned (.tuple #[.string ⟨#[]⟩, .int .i64 1]) ∧ w = w' := by
  go_enter Tryd.func54, Tryd.ntmps54
  go_wp2_with (first | (go_at_call 87; refine (wide_any _ _).mono ?_; rintro e w' ⟨rfl, rfl⟩))
  go_ret2
  exact ⟨rfl, rfl⟩

set_option maxHeartbeats 800000 in
theorem rput_fits (n k : Int) (w : World) (hk : wideB k = true) (hf : fitsB n k = false) :
    Calls Tryd.prog 54 #[.int .i64 n, .int .i64 k] w fun e w' => e = .returned (.tuple #[.string ⟨#[]⟩, .int .i64 1]) ∧ Below w.heap.size w w' := by
  rcases wide_cases hk with rfl | rfl | rfl | rfl
  all_goals simp [fitsB] at hf
  all_goals
    by_cases h0 : n < 0
    all_goals
      go_enter Tryd.func54, Tryd.ntmps54
      go_wp2_with (first | (go_at_call 87; refine (wide_any _ _).mono ?_; rintro e w' ⟨rfl, rfl⟩))
      go_ret2
      exact ⟨rfl, (Below.refl _ _).alloc (Nat.le_refl _) _⟩

theorem rput_row (u j y : Nat) (hy : u / 256 ^ j = y) : bv (Lib.leBytes (j + 1) u) = bv (Lib.leBytes j u) ++ [.int .u8 ((y : Int) % 256)] := by
  rw [leBytes_snoc, bv_append, hy]
  simp only [bv, List.map_cons, List.map_nil]
  rw [Lib.toUInt8_mod, Int.natCast_emod]
  rfl

set_option maxHeartbeats 2000000 in
set_option maxRecDepth 100000 in
theorem rput_ok (n k : Int) (w : World) (hk : wideB k = true) (hf : fitsB n k = true) :
    Calls Tryd.prog 54 #[.int .i64 n, .int .i64 k] w fun e w' => e = .returned (.tuple #[.string ⟨(Lib.leBytes k.toNat (u64 n)).toArray⟩, .int .i64 0]) ∧ Below w.heap.size w w' := by
  obtain ⟨i0, hi, hz0, hz1, hz2⟩ := info_parts Tryd.info5
  have hu := u64_lt n
  have hun := u64_cast n
  obtain ⟨u, hu'⟩ : ∃ u, u = u64 n := ⟨_, rfl⟩
  rw [← hu'] at hu hun ⊢
  have HU := Lib.hid hun
  clear hun hu'
  obtain ⟨K, hK⟩ : ∃ K : Nat, (K : Int) = k := ⟨k.toNat, by have := wide_cases hk; omega⟩
  rw [show k.toNat = K by omega]
  rcases wide_cases hk with rfl | rfl | rfl | rfl
  all_goals simp [fitsB] at hf
  all_goals
    have HK := Lib.hid hK
    clear hK
    have HN : Hid ((u : Int) = n ∨ (u : Int) = IntKind.u64.wrap n) := .inr HU.out
    try (have h0 : decide (n < 0) = false := by simp; omega)
    try (have h1 : decide (255 < n) = false := by simp; omega)
    try (have h2 : decide (65535 < n) = false := by simp; omega)
    try (have h3 : decide (4294967295 < n) = false := by simp; omega)
    try (have HN : Hid ((u : Int) = n) := by (have h := HU.out; rw [wraps_u64 n (by omega) (by omega)] at h; exact h))
    go_enter Tryd.func54, Tryd.ntmps54
    go_wp2_with (first | (go_at_call 87; refine (wide_any _ _).mono ?_; rintro e w' ⟨rfl, rfl⟩))
    go_loopw [7, 8, 9] (fun v vu vi wr => ∃ j : Nat, j ≤ K ∧ vi = .int .i64 j ∧ vu = .int .u64 ((u / 256 ^ j : Nat) : Int) ∧ Hid (wr.ownsRow w.heap.size 5 1 v j (bv (Lib.leBytes j u))) ∧ Hid (Below w.heap.size w wr)) (fun _ _ vi _ => K - (intOf vi).toNat)
    case atStart =>
      refine ⟨0, Nat.zero_le _, rfl, ?_, Lib.hid (World.ownsRow_nil _ _ _ _), Lib.hid ((Below.refl _ _).alloc (Nat.le_refl _) _)⟩
      first | (rw [← HU.out]; simp; done) | (rw [← HN.out]; simp; done)
    case round =>
      obtain ⟨j, hj, rfl, rfl, hown, hbel⟩ := hrel
      have HK' := HK.out
      have hbs := hbel.out.size
      have hy1 : u / 256 ^ j < 18446744073709551616 := Nat.lt_of_le_of_lt (Nat.div_le_self _ _) hu
      have HY := Lib.hid (show u / 256 ^ (j + 1) = u / 256 ^ j / 256 by rw [Nat.pow_succ, ← Nat.div_div_eq_div_mul])
      have HR := Lib.hid (rput_row u j _ rfl)
      generalize u / 256 ^ j = y at hy1 HY HR ⊢
      by_cases hlt : j < K
      · have hj8 : (j : Int) < 8 := by omega
        have HN2 := Lib.hid (news_at wr #[.int .u8 ((y : Int) % 256)] 5)
        go_wp2_with (at_builtin; refine wpList_append_own _ rfl _ _ 74 rfl w.heap.size 5 i0 (.int .u8 0) 1 1 Tryd.underlying74 hi hz0 hz1 hz2 rfl (by decide) _ _ _ rfl (hown.out.alloc _) ⟨wr.heap.size, 0, none⟩ 1 1 [.int .u8 ((y : Int) % 256)] rfl rfl HN2.out (by simp [Value.oneCell']) (by unfold maxLen; omega) (by omega) (by simp; omega) ?_; intro v' w2 hown2 hgr2 _)
        have HW := Lib.hid hown2
        have HG := Lib.hid hgr2
        clear hown2 hgr2
        go_wp2
        go_roundw
        case rel => exact ⟨j + 1, by omega, by go_num, by rw [HY.out]; first | rfl | go_num, Lib.hid (by rw [HR.out]; exact HW.out), Lib.hid (below_append hbel.out hbs hown.out HG.out)⟩
        case measure => simp [intOf]; omega
      · obtain rfl : j = K := by omega
        have g := run_convert_owned (P := Tryd.prog) (src := 74) (dst := 9) Tryd.underlying74 Tryd.underlying5 Tryd.underlying9 (l := Lib.leBytes j u) (by rw [Lib.leBytes_length]; exact hown.out)
        go_wp2
        go_ret2
        exact ⟨rfl, hbel.out⟩

end Go.Proofs.YtmloljfnnkfkjaaDoor

namespace Go.Proofs.YtmloljfnnkfkjaaDoor
open Go.RowKit

set_option maxHeartbeats 400000 in
theorem rget_wide (s : ByteArray) (p k : Int) (w : World) (hk : wideB k = false) :
    Calls Tryd.prog 81 #[.string s, .int .i64 p, .int .i64 k] w fun e w' => e = .returned (.tuple #[.int .i64 0, .int .i64 1]) ∧ w = w' := by
  go_enter Tryd.func81, Tryd.ntmps81
  go_wp2_with (first | (go_at_call 87; refine (wide_any _ _).mono ?_; rintro e w' ⟨rfl, rfl⟩))
  go_ret2
  exact ⟨rfl, rfl⟩

set_option maxHeartbeats 400000 in
theorem rget_neg (s : ByteArray) (p k : Int) (w : World) (hk : wideB k = true) (hp : p < 0) :
    Calls Tryd.prog 81 #[.string s, .int .i64 p, .int .i64 k] w fun e w' => e = .returned (.tuple #[.int .i64 0, .int .i64 1]) ∧ w = w' := by
  go_enter Tryd.func81, Tryd.ntmps81
  go_wp2_with (first | (go_at_call 87; refine (wide_any _ _).mono ?_; rintro e w' ⟨rfl, rfl⟩))
  go_ret2
  exact ⟨rfl, rfl⟩

set_option maxHeartbeats 400000 in
theorem rget_short (s : ByteArray) (p k : Int) (w : World) (hk : wideB k = true) (hp : 0 ≤ p) (hp2 : p ≤ 9223372036854775807) (hs : s.size ≤ 9223372036854775807) (h : (s.size : Int) - p < k) :
    Calls Tryd.prog 81 #[.string s, .int .i64 p, .int .i64 k] w fun e w' => e = .returned (.tuple #[.int .i64 0, .int .i64 2]) ∧ w = w' := by
  have hp' : decide (p < 0) = false := by simp; omega
  by_cases hq : (s.size : Int) < p
  all_goals
    go_enter Tryd.func81, Tryd.ntmps81
    go_wp2_with (first | (go_at_call 87; refine (wide_any _ _).mono ?_; rintro e w' ⟨rfl, rfl⟩))
    go_ret2
    exact ⟨rfl, rfl⟩

/-- The bytes at a place. -/
def bytesAt (s : ByteArray) (p q : Nat) : List UInt8 := (s.data.toList.drop p).take q

theorem bytesAt_length (s : ByteArray) (p q : Nat) (h : p + q ≤ s.size) : (bytesAt s p q).length = q := by
  simp [bytesAt]; omega

theorem bytesAt_at (s : ByteArray) (p q c : Nat) (_h : p + q ≤ s.size) (_hc : c < q) (h1 : c < (bytesAt s p q).length) (h2 : p + c < s.size) : (bytesAt s p q)[c] = s[p + c] := by
  simp only [bytesAt, List.getElem_take, List.getElem_drop]
  rfl

theorem bytesAt_step (s : ByteArray) (p q c : Nat) (h : p + q ≤ s.size) (hc : c < q) (h2 : p + c < s.size) : Lib.leNat ((bytesAt s p q).drop c) = 256 * Lib.leNat ((bytesAt s p q).drop (c + 1)) + s[p + c].toNat := by
  rw [leNat_drop _ c (by rw [bytesAt_length s p q h]; exact hc), bytesAt_at s p q c h hc _ h2]

theorem bytesAt_small (s : ByteArray) (p q c : Nat) (h : p + q ≤ s.size) (hq : q ≤ 8) (hc : c < q) : Lib.leNat ((bytesAt s p q).drop (c + 1)) < 72057594037927936 := by
  have h1 := leNat_lt ((bytesAt s p q).drop (c + 1))
  have h2 : ((bytesAt s p q).drop (c + 1)).length ≤ 7 := by rw [List.length_drop, bytesAt_length s p q h]; omega
  have h3 : 256 ^ ((bytesAt s p q).drop (c + 1)).length ≤ 256 ^ 7 := Nat.pow_le_pow_right (by omega) h2
  exact Nat.lt_of_lt_of_le h1 h3

set_option maxHeartbeats 1000000 in
theorem rget_nat (s : ByteArray) (p q : Nat) (w : World) (hk : wideB q = true) (hs : s.size ≤ 9223372036854775807) (h : p + q ≤ s.size) :
    Calls Tryd.prog 81 #[.string s, .int .i64 p, .int .i64 q] w fun e w' => e = .returned (.tuple #[.int .i64 (getI (bytesAt s p q)), .int .i64 0]) ∧ w = w' := by
  have hq := wide_cases hk
  have hp0 : decide ((p : Int) < 0) = false := by simp
  have hp1 : decide (s.size < p) = false := by simp; omega
  have hd : decide ((s.size : Int) - (p : Int) < (q : Int)) = false := by simp; omega
  go_enter Tryd.func81, Tryd.ntmps81
  go_wp2_with (first | (go_at_call 87; refine (wide_any _ _).mono ?_; rintro e w' ⟨rfl, rfl⟩))
  go_loop [8, 9] (fun vu vi => ∃ c : Nat, c ≤ q ∧ vi = .int .i64 ((c : Int) - 1) ∧ vu = .int .u64 (Lib.leNat ((bytesAt s p q).drop c) : Int)) (fun _ vi => (intOf vi + 1).toNat)
  case atStart => exact ⟨q, Nat.le_refl _, by go_num, by rw [List.drop_of_length_le (by rw [bytesAt_length s p q h]; exact Nat.le_refl _)]; rfl⟩
  case round =>
    obtain ⟨c, hc, rfl, rfl⟩ := hrel
    cases c with
    | zero =>
      rw [show ((0 : Nat) : Int) - 1 = -1 from rfl]
      rw [List.drop_zero]
      go_wp2
      go_ret2
      exact ⟨rfl, rfl⟩
    | succ c =>
      rw [show ((c + 1 : Nat) : Int) - 1 = (c : Int) by omega]
      have h2 : p + c < s.size := by omega
      have HS := Lib.hid (bytesAt_step s p q c h (by omega) h2)
      have hy := bytesAt_small s p q c h (by omega) (by omega)
      generalize Lib.leNat ((bytesAt s p q).drop (c + 1)) = y at HS hy ⊢
      have hb : s[p + c].toNat < 256 := UInt8.toNat_lt _
      go_wp2
      go_round
      case rel => exact ⟨c, by omega, by go_num, by rw [HS.out]; first | rfl | go_num⟩
      case measure => simp [intOf]

theorem bytesAt_lenAt (s : ByteArray) (p : Nat) : getI (bytesAt s p 4) = (lenAt s p : Int) := getI_lenAt s p

end Go.Proofs.YtmloljfnnkfkjaaDoor

