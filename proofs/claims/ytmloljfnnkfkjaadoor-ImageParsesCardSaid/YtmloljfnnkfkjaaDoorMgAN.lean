/- The walks of useBytes, capBytes, constBytes, instBytes: their contracts. The walks of the document's Wide and Build: their contracts. No condition but those that each states. -/
import Derived.Test.YtmloljfnnkfkjaaDoorMgAM
import Derived.Test.YtmloljfnnkfkjaaDoorMgAF
import Derived.Test.YtmloljfnnkfkjaaDoorMgAL
namespace Go.Proofs.YtmloljfnnkfkjaaDoor.Im
open Go.RowKit Dk In
variable {X : Nat → Prop}

/-- What a walk wants of a world: a block with these cells; what lay below is as it was. -/
structure SE (w W : World) (b : Nat) (cs : List Value) : Prop where
  el : El W b cs
  below : Below w.heap.size w W
theorem SE.later {w W W' : World} {b : Nat} {cs : List Value} (h : SE w W b cs) (k : Below W.heap.size W W') : SE w W' b cs := ⟨h.el.later k, chain2 h.below k⟩
theorem SE.drew {w W : World} {b : Nat} {cs : List Value} (h : SE w W b cs) : SE w W.drew b cs := h.later ((Below.refl _ _).drew)
theorem se_new (w : World) (cs : List Value) (t : TypeId) : SE w (w.alloc (.cells cs.toArray t)) w.heap.size cs := ⟨el_new w cs t, (Below.refl _ _).alloc (Nat.le_refl _) _⟩
theorem txt_len (l : List UInt8) : (txt l).length = 4 + l.length := by unfold txt; rw [List.length_append, Lib.leBytes_length]
theorem num1 (n : Int) (h0 : 0 ≤ n) (h1 : n < 256) (w : World) : Calls Tryd.prog 19 #[.int .i64 n, .int .i64 1] w fun e w' => e = .returned (.string (strOf (le 1 n))) ∧ Below w.heap.size w w' := number_any n 1 w rfl (fits_small (k := 1) (.inl rfl) h0 h1)
theorem num4 (n : Int) (h0 : 0 ≤ n) (h1 : n < 4294967296) (w : World) : Calls Tryd.prog 19 #[.int .i64 n, .int .i64 4] w fun e w' => e = .returned (.string (strOf (le 4 n))) ∧ Below w.heap.size w w' := number_any n 4 w rfl (fits_small (k := 4) (.inr (.inr rfl)) h0 h1)
theorem num8 (n : Int) (w : World) : Calls Tryd.prog 19 #[.int .i64 n, .int .i64 8] w fun e w' => e = .returned (.string (strOf (le 8 n))) ∧ Below w.heap.size w w' := number_any n 8 w rfl (fits_eight n)

theorem use_parts {x : Us} (h : useB x = true) : x.md.length ≤ 16 ∧ x.nm.length ≤ 16 ∧ 0 ≤ x.ps ∧ x.ps ≤ 8 := by
  unfold useB at h
  simp only [Bool.and_eq_true, inB_iff] at h
  exact ⟨name_len h.1.1, name_len h.1.2, h.2.1, h.2.2⟩
theorem us_cells {sm sn : ByteArray} {ps : Int} {w W : World} {b : Nat} (h : SE w W b [.string sm, .string sn, .int .i64 ps]) : W.cell? ⟨b, 0, none⟩ = some (.string sm) ∧ W.cell? ⟨b, 1, none⟩ = some (.string sn) ∧ W.cell? ⟨b, 2, none⟩ = some (.int .i64 ps) := ⟨h.el.at 0 _ rfl, h.el.at 1 _ rfl, h.el.at 2 _ rfl⟩
set_option maxHeartbeats 4000000 in
set_option maxRecDepth 100000 in
theorem useBytes_any (x : Us) (w : World) (h : useB x = true) : Calls Tryd.prog 21 #[.agg x.cells.toArray] w fun e w' => e = .returned (.string (strOf (encUse x))) ∧ Below w.heap.size w w' := by
  obtain ⟨l1, l2, n0, n1⟩ := use_parts h
  clear h
  obtain ⟨md, nm, ps⟩ := x
  replace l1 : md.length ≤ 16 := l1
  replace l2 : nm.length ≤ 16 := l2
  replace n0 : 0 ≤ ps := n0
  replace n1 : ps ≤ 8 := n1
  have T1 := Lib.hid (fun W => text_row md W (by omega))
  have T2 := Lib.hid (fun W => text_row nm W (by omega))
  have N1 := Lib.hid (fun W => num1 ps n0 (by omega) W)
  have p1 := fun W => sum_run (txt md) (txt nm) (by rw [txt_len, txt_len]; omega) W
  have p2 := fun W => sum_run (txt md ++ txt nm) (le 1 ps) (by rw [List.length_append, txt_len, txt_len, le_length]; omega) W
  show Calls _ _ #[.agg #[.string (strOf md), .string (strOf nm), .int .i64 ps]] w fun e w' => e = .returned (.string (strOf (txt md ++ txt nm ++ le 1 ps))) ∧ Below w.heap.size w w'
  obtain ⟨W1, hW1⟩ : ∃ W1, W1 = w.alloc (.cells #[.string (strOf md), .string (strOf nm), .int .i64 ps] 43) := ⟨_, rfl⟩
  have HX1 : Hid (SE w W1 w.heap.size [.string (strOf md), .string (strOf nm), .int .i64 ps]) := Lib.hid (by rw [hW1]; exact se_new w [.string (strOf md), .string (strOf nm), .int .i64 ps] _)
  have hW2 := hW1.symm
  generalize strOf (txt md ++ txt nm ++ le 1 ps) = s3 at *
  generalize strOf (txt md ++ txt nm) = s2 at *
  generalize strOf (txt md) = s0 at *
  generalize strOf (txt nm) = s1 at *
  generalize strOf (le 1 ps) = t1 at *
  generalize strOf md = sm at *
  generalize strOf nm = sn at *
  clear hW1 l1 l2 n0 n1
  go_enter Tryd.func21, Tryd.ntmps21
  go_wp2_with fail
  have h0 := SE.drew HX1.out
  have h1 := HX1.out
  go_region_held3 (fun W => W.cell? ⟨w.heap.size, 0, none⟩ = some (.string sm) ∧ W.cell? ⟨w.heap.size, 1, none⟩ = some (.string sn) ∧ W.cell? ⟨w.heap.size, 2, none⟩ = some (.int .i64 ps)) (first | exact us_cells (by assumption) | go_keep) (first
    | (go_at_call 18; (with_reducible refine (T1.out _).mono ?_); rintro e W4 ⟨rfl, hb⟩; have hq := SE.later (b := w.heap.size) (cs := [.string sm, .string sn, .int .i64 ps]) (by assumption) hb; clear hb)
    | (go_at_call 18; (with_reducible refine (T2.out _).mono ?_); rintro e W4 ⟨rfl, hb⟩; have hq := SE.later (b := w.heap.size) (cs := [.string sm, .string sn, .int .i64 ps]) (by assumption) hb; clear hb)
    | (go_at_call 19; (with_reducible refine (N1.out _).mono ?_); rintro e W4 ⟨rfl, hb⟩; have hq := SE.later (b := w.heap.size) (cs := [.string sm, .string sn, .int .i64 ps]) (by assumption) hb; clear hb))
  go_wp2
  go_ret
  exact ⟨rfl, SE.below (b := w.heap.size) (cs := [.string sm, .string sn, .int .i64 ps]) (by assumption)⟩

theorem cp_cells {up : Bool} {ix : Int} {w W : World} {b : Nat} (h : SE w W b [.bool up, .int .i64 ix]) : W.cell? ⟨b, 1, none⟩ = some (.int .i64 ix) := h.el.at 1 _ rfl
set_option maxHeartbeats 4000000 in
set_option maxRecDepth 100000 in
theorem capBytes_any (x : Cp) (w : World) (h : capB x = true) : Calls Tryd.prog 49 #[.agg x.cells.toArray] w fun e w' => e = .returned (.string (strOf (encCap x))) ∧ Below w.heap.size w w' := by
  obtain ⟨n0, n1⟩ := inB_iff.1 h
  clear h
  obtain ⟨up, ix⟩ := x
  replace n0 : 0 ≤ ix := n0
  replace n1 : ix ≤ 255 := n1
  have N1 := Lib.hid (fun W => num1 ix n0 (by omega) W)
  have N0 := Lib.hid (fun W => num1 (if up then 1 else 0) (by split <;> decide) (by split <;> decide) W)
  have p1 := fun W => sum_run (le 1 (if up then 1 else 0)) (le 1 ix) (by rw [le_length, le_length]; decide) W
  show Calls _ _ #[.agg #[.bool up, .int .i64 ix]] w fun e w' => e = .returned (.string (strOf (le 1 (if up then 1 else 0) ++ le 1 ix))) ∧ Below w.heap.size w w'
  obtain ⟨W1, hW1⟩ : ∃ W1, W1 = w.alloc (.cells #[.bool up, .int .i64 ix] 83) := ⟨_, rfl⟩
  have HX1 : Hid (SE w W1 w.heap.size [.bool up, .int .i64 ix]) := Lib.hid (by rw [hW1]; exact se_new w [.bool up, .int .i64 ix] _)
  have hW2 := hW1.symm
  have c0 : W1.cell? ⟨w.heap.size, 0, none⟩ = some (.bool up) := HX1.out.el.at 0 _ rfl
  generalize strOf (le 1 (if up then 1 else 0) ++ le 1 ix) = s2 at *
  generalize strOf (le 1 ix) = s1 at *
  generalize strOf (le 1 (if up then 1 else 0)) = s0 at *
  clear hW1 n0 n1
  cases up with
  | false =>
    replace N0 : Hid (∀ W, Calls Tryd.prog 19 #[.int .i64 0, .int .i64 1] W fun e w' => e = .returned (.string s0) ∧ Below W.heap.size W w') := N0
    go_enter Tryd.func49, Tryd.ntmps49
    go_wp2_with fail
    have h0 := SE.drew HX1.out
    have h1 := HX1.out
    go_region_held3 (fun W => W.cell? ⟨w.heap.size, 1, none⟩ = some (.int .i64 ix)) (first | exact cp_cells (by assumption) | go_keep) (first
      | (go_at_call 19; (with_reducible refine (N1.out _).mono ?_); rintro e W4 ⟨rfl, hb⟩; have hq := SE.later (b := w.heap.size) (cs := [.bool false, .int .i64 ix]) (by assumption) hb; clear hb)
      | (go_at_call 19; (with_reducible refine (N0.out _).mono ?_); rintro e W4 ⟨rfl, hb⟩; have hq := SE.later (b := w.heap.size) (cs := [.bool false, .int .i64 ix]) (by assumption) hb; clear hb))
    go_wp2
    go_ret
    exact ⟨rfl, SE.below (b := w.heap.size) (cs := [.bool false, .int .i64 ix]) (by assumption)⟩
  | true =>
    replace N0 : Hid (∀ W, Calls Tryd.prog 19 #[.int .i64 1, .int .i64 1] W fun e w' => e = .returned (.string s0) ∧ Below W.heap.size W w') := N0
    go_enter Tryd.func49, Tryd.ntmps49
    go_wp2_with fail
    have h0 := SE.drew HX1.out
    have h1 := HX1.out
    go_region_held3 (fun W => W.cell? ⟨w.heap.size, 1, none⟩ = some (.int .i64 ix)) (first | exact cp_cells (by assumption) | go_keep) (first
      | (go_at_call 19; (with_reducible refine (N1.out _).mono ?_); rintro e W4 ⟨rfl, hb⟩; have hq := SE.later (b := w.heap.size) (cs := [.bool true, .int .i64 ix]) (by assumption) hb; clear hb)
      | (go_at_call 19; (with_reducible refine (N0.out _).mono ?_); rintro e W4 ⟨rfl, hb⟩; have hq := SE.later (b := w.heap.size) (cs := [.bool true, .int .i64 ix]) (by assumption) hb; clear hb))
    go_wp2
    go_ret
    exact ⟨rfl, SE.below (b := w.heap.size) (cs := [.bool true, .int .i64 ix]) (by assumption)⟩

set_option maxHeartbeats 4000000 in
set_option maxRecDepth 100000 in
theorem constBytes_any (x : Vl) (w : World) (h : valB x = true) : Calls Tryd.prog 51 #[.agg x.cells.toArray] w fun e w' => e = .returned (.string (strOf (encVal x))) ∧ Below w.heap.size w w' := by
  obtain ⟨k, n, s⟩ := x
  have hk : 0 ≤ k ∧ k ≤ 2 ∧ (k = 2 → s.length ≤ 1024) := by
    unfold valB at h
    by_cases h0 : k = 0
    · omega
    · by_cases h1 : k = 1
      · omega
      · by_cases h2 : k = 2
        · simp [h2] at h
          exact ⟨by omega, by omega, fun _ => h.2⟩
        · simp [h0, h1, h2] at h
  obtain ⟨k0, k2, hs⟩ := hk
  have NK := Lib.hid (fun W => num1 k k0 (by omega) W)
  have N8 := Lib.hid (fun W => num8 n W)
  have HE : Hid (encVal ⟨k, n, s⟩ = if k = 1 then le 1 k ++ le 8 n else if k = 2 then le 1 k ++ txt s else le 1 k) := Lib.hid rfl
  show Calls _ _ #[.agg #[.int .i64 k, .int .i64 n, .string (strOf s)]] w fun e w' => e = .returned (.string (strOf (encVal ⟨k, n, s⟩))) ∧ Below w.heap.size w w'
  obtain ⟨W1, hW1⟩ : ∃ W1, W1 = w.alloc (.cells #[.int .i64 k, .int .i64 n, .string (strOf s)] 45) := ⟨_, rfl⟩
  have HX1 : Hid (SE w W1 w.heap.size [.int .i64 k, .int .i64 n, .string (strOf s)]) := Lib.hid (by rw [hW1]; exact se_new w [.int .i64 k, .int .i64 n, .string (strOf s)] _)
  have hW2 := hW1.symm
  have c0 : W1.cell? ⟨w.heap.size, 0, none⟩ = some (.int .i64 k) := HX1.out.el.at 0 _ rfl
  clear hW1 h k0 k2
  by_cases h1 : k = 1
  · have p1 := fun W => sum_run (le 1 k) (le 8 n) (by rw [le_length, le_length]; decide) W
    have he := HE.out
    rw [if_pos h1] at he
    rw [he]
    have z1 : (k == 1) = true := by simp [h1]
    generalize strOf (le 1 k ++ le 8 n) = s2 at *
    generalize strOf (le 1 k) = s0 at *
    generalize strOf (le 8 n) = s1 at *
    generalize strOf s = ss at *
    clear h1 HE he hs
    go_enter Tryd.func51, Tryd.ntmps51
    go_wp2_with fail
    refine (NK.out _).mono ?_
    rintro e W2 ⟨rfl, hb⟩
    have HX2 := Lib.hid (HX1.out.later hb)
    clear hb NK HX1
    have c0 : W2.cell? ⟨w.heap.size, 0, none⟩ = some (.int .i64 k) := HX2.out.el.at 0 _ rfl
    have c1 : W2.cell? ⟨w.heap.size, 1, none⟩ = some (.int .i64 n) := HX2.out.el.at 1 _ rfl
    go_wp2_with fail
    refine (N8.out _).mono ?_
    rintro e W3 ⟨rfl, hb⟩
    have HX3 := Lib.hid (HX2.out.later hb)
    clear hb
    go_wp2
    go_ret
    exact ⟨rfl, HX3.out.below⟩
  · have z1 : (k == 1) = false := by simp [h1]
    have he := HE.out
    rw [if_neg h1] at he
    clear HE h1
    by_cases h2 : k = 2
    · have T1 := Lib.hid (fun W => text_row s W (by have := hs h2; omega))
      have p1 := fun W => sum_run (le 1 k) (txt s) (by rw [le_length, txt_len]; have := hs h2; omega) W
      rw [if_pos h2] at he
      rw [he]
      have z2 : (k == 2) = true := by simp [h2]
      generalize strOf (le 1 k ++ txt s) = s2 at *
      generalize strOf (le 1 k) = s0 at *
      generalize strOf (txt s) = s1 at *
      generalize strOf s = ss at *
      clear h2 he hs N8
      go_enter Tryd.func51, Tryd.ntmps51
      go_wp2_with fail
      refine (NK.out _).mono ?_
      rintro e W2 ⟨rfl, hb⟩
      have HX2 := Lib.hid (HX1.out.later hb)
      clear hb NK HX1
      have c0 : W2.cell? ⟨w.heap.size, 0, none⟩ = some (.int .i64 k) := HX2.out.el.at 0 _ rfl
      have c2 : W2.cell? ⟨w.heap.size, 2, none⟩ = some (.string ss) := HX2.out.el.at 2 _ rfl
      go_wp2_with fail
      refine (T1.out _).mono ?_
      rintro e W3 ⟨rfl, hb⟩
      have HX3 := Lib.hid (HX2.out.later hb)
      clear hb
      go_wp2
      go_ret
      exact ⟨rfl, HX3.out.below⟩
    · have z2 : (k == 2) = false := by simp [h2]
      rw [if_neg h2] at he
      rw [he]
      generalize strOf (le 1 k) = s0 at *
      generalize strOf s = ss at *
      clear h2 he hs N8
      go_enter Tryd.func51, Tryd.ntmps51
      go_wp2_with fail
      refine (NK.out _).mono ?_
      rintro e W2 ⟨rfl, hb⟩
      have HX2 := Lib.hid (HX1.out.later hb)
      clear hb NK HX1
      have c0 : W2.cell? ⟨w.heap.size, 0, none⟩ = some (.int .i64 k) := HX2.out.el.at 0 _ rfl
      go_wp2
      go_ret
      exact ⟨rfl, HX2.out.below⟩

theorem instBytes_any (x : Ix) (w : World) (HF : HasF w) (h : rightB x = true) : Calls Tryd.prog 53 #[.agg x.cells.toArray] w fun e w' => e = .returned (.string (strOf (buildL x))) ∧ Below w.heap.size w w' := by
  obtain ⟨W1, hW1⟩ : ∃ W1, W1 = w.alloc (.cells x.cells.toArray 89) := ⟨_, rfl⟩
  have HB1 : Hid (Below w.heap.size w W1) := Lib.hid (by rw [hW1]; exact (Below.refl _ _).alloc (Nat.le_refl _) _)
  have HX : Hid (El W1 w.heap.size x.cells) := Lib.hid (by rw [hW1]; exact el_new w _ _)
  have BA0 := build_any x W1 (HF.later HB1.out)
  rw [if_pos h] at BA0
  have BA := Lib.hid BA0
  have HI := Lib.hid (i_info x)
  have hW2 := hW1.symm
  generalize strOf (buildL x) = s at *
  generalize x.cells = cs at *
  clear hW1 HF h BA0
  go_enter Tryd.func53, Tryd.ntmps53
  go_wp2_with (refine wpList_load_mid rfl 89 (.tmp 1) rfl w.heap.size 0 rfl cs _ HX.out.cells Tryd.underlying89 rfl HI.out ?_)
  refine BA.out.mono ?_
  rintro e W2 ⟨rfl, hb⟩
  have HB2 := Lib.hid (chain2 HB1.out hb)
  clear hb BA
  go_wp2
  go_ret
  exact ⟨rfl, HB2.out⟩

end Go.Proofs.YtmloljfnnkfkjaaDoor.Im

namespace Go.Proofs.YtmloljfnnkfkjaaDoor.In
open Go.RowKit Dk

set_option maxHeartbeats 1000000 in
set_option maxRecDepth 100000 in
theorem rbuild_any (x : Ix) (w : World) : Calls Tryd.prog 55 #[.agg x.cells.toArray] w fun e w' => e = .returned (if rightB x then .tuple #[.string (strOf (buildL x)), .int .i64 0] else .tuple #[.string ⟨#[]⟩, .int .i64 4]) ∧ Below w.heap.size w w' := by
  obtain ⟨W1, hW1⟩ : ∃ W1, W1 = w.alloc (.cells x.cells.toArray 89) := ⟨_, rfl⟩
  have HB1 : Hid (Below w.heap.size w W1) := Lib.hid (by rw [hW1]; exact (Below.refl _ _).alloc (Nat.le_refl _) _)
  have HX : Hid (IB W1 w.heap.size x) := Lib.hid (by rw [hW1]; exact ib_new w x _)
  have RT := Lib.hid (rright_any x W1)
  have HI := Lib.hid (i_info x)
  have HRI := Lib.hid (fun h => right_in (x := x) h)
  have HBL : Hid (buildL x = [byteOf x.op, byteOf x.a, byteOf x.b, byteOf x.c]) := Lib.hid rfl
  obtain ⟨op, a, b, c⟩ := x
  have hW2 : w.alloc (.cells #[.int .i64 op, .int .i64 a, .int .i64 b, .int .i64 c] 89) = W1 := hW1.symm
  show Calls _ _ #[.agg #[.int .i64 op, .int .i64 a, .int .i64 b, .int .i64 c]] w _
  generalize rightB ⟨op, a, b, c⟩ = R at *
  generalize buildL ⟨op, a, b, c⟩ = V at *
  clear hW1
  cases R with
  | false =>
    clear HBL HRI
    go_enter Tryd.func55, Tryd.ntmps55
    go_wp2_with (first
      | (refine wpList_load_mid rfl 89 (.tmp 1) rfl w.heap.size 0 rfl (Ix.cells ⟨op, a, b, c⟩) _ HX.out.cells Tryd.underlying89 rfl HI.out ?_)
      | (go_at_call 68; refine RT.out.mono ?_; rintro e w2 ⟨rfl, hb2⟩))
    go_ret2
    exact ⟨rfl, chain2 HB1.out hb2⟩
  | true =>
    have G := Lib.hid (fun W => conv4 op a b c (HRI.out rfl).1 (HRI.out rfl).2.1 (HRI.out rfl).2.2.1 (HRI.out rfl).2.2.2 W)
    obtain ⟨⟨o0, o1⟩, ⟨a0, a1⟩, ⟨b0, b1⟩, ⟨c0, c1⟩⟩ := HRI.out rfl
    replace o0 : 0 ≤ op := o0
    replace o1 : op < 38 := o1
    replace a0 : 0 ≤ a := a0
    replace a1 : a ≤ 255 := a1
    replace b0 : 0 ≤ b := b0
    replace b1 : b ≤ 255 := b1
    replace c0 : 0 ≤ c := c0
    replace c1 : c ≤ 255 := c1
    have hv : V = [byteOf op, byteOf a, byteOf b, byteOf c] := HBL.out
    rw [← hv] at G
    clear HBL HRI hv
    go_enter Tryd.func55, Tryd.ntmps55
    go_wp2_with (first
      | (refine wpList_load_mid rfl 89 (.tmp 1) rfl w.heap.size 0 rfl (Ix.cells ⟨op, a, b, c⟩) _ HX.out.cells Tryd.underlying89 rfl HI.out ?_)
      | (go_at_call 68; refine RT.out.mono ?_; rintro e w2 ⟨rfl, hb2⟩; have HX2 := HX.out.later hb2; obtain ⟨k0, k1, k2, k3⟩ := HX2.at; simp only at k0 k1 k2 k3; have g := G.out w2))
    go_ret2
    exact ⟨rfl, (chain2 HB1.out hb2).alloc (Nat.le_trans HB1.out.size hb2.size) _⟩

end Go.Proofs.YtmloljfnnkfkjaaDoor.In

