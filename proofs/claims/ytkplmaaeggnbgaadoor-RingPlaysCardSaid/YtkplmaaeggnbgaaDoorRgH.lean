/- The walks of Sum, given and taken; Append as one function over states. No condition but those that each states. -/
import Derived.Test.YtkplmaaeggnbgaaDoorRgG
namespace Go.Proofs.YtkplmaaeggnbgaaDoor.Rg
open Go.RowKit Dk

/-- A sum of one byte. -/
def sumB (c : UInt8) : Bytes := List.replicate 32 c

theorem sumB_length (c : UInt8) : (sumB c).length = 32 := by simp [sumB]

theorem make32 (W : World) : (Instr.makeSlice 85 (.int .i64 32) (.int .i64 32)).run Tryd.prog W = .ok (.slice (some ⟨W.heap.size, 0, none⟩) 32 32) (W.alloc (.cells (List.replicate 32 (.int .u8 0)).toArray 5)) := by
  have := run_make_row' (P := Tryd.prog) 85 5 (.int .u8 0) 1 Tryd.underlying85 Dk.Tryd.info5 rfl .i64 .i64 32 (by omega) (by omega) W
  have e : madeCells #[Value.int .u8 0] 32 = (List.replicate 32 (Value.int .u8 0)).toArray := by
    apply Array.ext'
    rw [toList_madeCells_one]
  rw [e] at this
  exact this

structure SumW (w wr : World) (c : UInt8) (j : Nat) : Prop where
  row : ∀ i, i < 32 → wr.cell? ⟨w.heap.size, i, none⟩ = some (.int .u8 (if i < j then (c.toNat : Int) else 0))
  free : ∀ i, i < 32 → wr.frozen? ⟨w.heap.size, i, none⟩ = false
  below : Below w.heap.size w wr

theorem SumW.put {w wr : World} {c : UInt8} {j : Nat} (h : SumW w wr c j) (hj : j < 32) : SumW w (wr.setCell ⟨w.heap.size, j, none⟩ (.int .u8 (c.toNat : Int))) c (j + 1) := by
  refine ⟨fun i hi => ?_, fun i hi => by simpa using h.free i hi, h.below.setCell (by simp) _⟩
  by_cases e : i = j
  · subst e; rw [World.cell?_setCell_same _ _ _ (h.row i hi), if_pos (Nat.lt_succ_self i)]
  · rw [World.cell?_setCell_other _ _ _ _ (by intro e'; simp at e'; first | done | exact e e'.symm), h.row i hi]
    by_cases h2 : i < j
    · rw [if_pos h2, if_pos (by omega)]
    · rw [if_neg h2, if_neg (by omega)]

set_option maxHeartbeats 1000000 in
set_option maxRecDepth 100000 in
theorem sum_any (c : UInt8) (w : World) :
    Calls Tryd.prog 71 #[.int .u8 (c.toNat : Int)] w fun e w' => e = .returned (.string (strOf (sumB c))) ∧ Below w.heap.size w w' := by
  have hmk := make32
  have HW0 : Hid (SumW w (w.alloc (.cells (List.replicate 32 (.int .u8 0)).toArray 5)) c 0) := Lib.hid ⟨fun i hi => by
      have := range_new w (List.replicate 32 (Value.int .u8 0)) 5 i (.int .u8 0) (by rw [List.getElem?_replicate, if_pos hi])
      rw [Nat.zero_add] at this
      rw [this, if_neg (Nat.not_lt_zero i)], fun i hi => by
      have := (there_new w (List.replicate 32 (Value.int .u8 0)).toArray 5 i (by simpa using hi)).2
      rwa [Nat.zero_add] at this, (Below.refl _ _).alloc (Nat.le_refl _) _⟩
  generalize (List.replicate 32 (Value.int .u8 0)).toArray = Z at hmk HW0
  go_enter Tryd.func71, Tryd.ntmps71
  go_wp2
  go_loopw [4] (fun vi wr => ∃ j : Nat, j ≤ 32 ∧ vi = .int .i64 j ∧ Hid (SumW w wr c j)) (fun vi _ => 32 - (intOf vi).toNat)
  case atStart => exact ⟨0, Nat.zero_le _, rfl, HW0⟩
  case round =>
    clear HW0 hmk
    obtain ⟨j, hj, rfl, hW⟩ := hrel
    by_cases hlt : j < 32
    · have ca := hW.out.row j hlt
      have fa := hW.out.free j hlt
      have HP := Lib.hid (hW.out.put hlt)
      rw [if_neg (Nat.lt_irrefl j)] at ca
      go_wp2
      clear ca fa
      go_roundw
      case rel => exact ⟨j + 1, by omega, by go_num, HP⟩
      case measure => simp [intOf]; omega
    · obtain rfl : j = 32 := by omega
      have hcv := Dk.convert_range (P := Tryd.prog) (w := wr) (src := 85) (dst := 9) w.heap.size 0 32 32 (sumB c) Tryd.underlying85 Tryd.underlying5 Tryd.underlying9 (sumB_length c) (fun i v hv => by
        have hi : i < 32 := by have := (List.getElem?_eq_some_iff.1 hv).1; simpa [bv, sumB] using this
        rw [Nat.zero_add, hW.out.row i hi, if_pos hi, ← hv, sumB, bv_rep, List.getElem?_replicate, if_pos hi])
      go_wp2
      go_ret
      exact ⟨rfl, hW.out.below⟩

theorem results_cell1 {P : Program} {fn : Func} {t : Tmp} {ty : TypeId} {d : TypeDesc} {cs : List Value} {b : Nat} (h : fn.results = #[.cell t ty]) (tmps : Array Value) (w : World) (ht : tmps.getD t undef = .pointer (some ⟨b, 0, none⟩)) (hc : w.rangeAt b 0 cs)
    (hu : P.underlying ty = some d) (hd : d.isRow = true) (hi : (P.info? ty).map (·.size) = some cs.length) : (results fn tmps).run P w = .ok (.agg cs.toArray) w := by
  have hl := run_loadVar_mid (P := P) w b 0 ty cs d hc hu hd hi
  simp only [Array.getD_eq_getD_getElem?] at ht
  simp [results, h, ht, hl, asAddr]

theorem second_range (w : World) (o : Obj) (cs : List Value) (t : TypeId) : ((w.alloc o).alloc (.cells cs.toArray t)).rangeAt (w.heap.size + 1) 0 cs := by
  have := range_new (w.alloc o) cs t
  rwa [show (w.alloc o).heap.size = w.heap.size + 1 by simp] at this

set_option maxHeartbeats 1000000 in
set_option maxRecDepth 100000 in
theorem given_any (e : Ent) (w : World) :
    Calls Tryd.prog 17 #[.agg e.cells.toArray] w fun x w' => x = .returned (.agg e.cells.toArray) ∧ Below w.heap.size w w' := by
  obtain ⟨kind, number, slot, size, sum⟩ := e
  have HI : Hid ((Tryd.prog.info? 47).map (·.size) = some [Value.int .i64 kind, .int .i64 number, .int .i64 slot, .int .i64 size, .string (strOf sum)].length) := Lib.hid (e_info ⟨kind, number, slot, size, sum⟩)
  show Calls _ _ #[.agg #[.int .i64 kind, .int .i64 number, .int .i64 slot, .int .i64 size, .string (strOf sum)]] w fun x w' => x = .returned (.agg #[.int .i64 kind, .int .i64 number, .int .i64 slot, .int .i64 size, .string (strOf sum)]) ∧ _
  generalize strOf sum = q at *
  go_enter Tryd.func17, Tryd.ntmps17
  go_wp2
  refine bodyPost_ret (results_cell1 rfl _ _ rfl (second_range _ _ _ _) Tryd.underlying47 rfl HI.out) rfl ?_
  exact ⟨rfl, ((Below.refl _ _).alloc (Nat.le_refl _) _).alloc (by simp) _⟩

set_option maxHeartbeats 1000000 in
set_option maxRecDepth 100000 in
theorem taken_any (e : Ent) (w : World) :
    Calls Tryd.prog 19 #[.agg e.cells.toArray] w fun x w' => x = .returned (.agg e.cells.toArray) ∧ Below w.heap.size w w' := by
  obtain ⟨kind, number, slot, size, sum⟩ := e
  have HI : Hid ((Tryd.prog.info? 43).map (·.size) = some [Value.int .i64 kind, .int .i64 number, .int .i64 slot, .int .i64 size, .string (strOf sum)].length) := Lib.hid (ref_info ⟨kind, number, slot, size, sum⟩)
  show Calls _ _ #[.agg #[.int .i64 kind, .int .i64 number, .int .i64 slot, .int .i64 size, .string (strOf sum)]] w fun x w' => x = .returned (.agg #[.int .i64 kind, .int .i64 number, .int .i64 slot, .int .i64 size, .string (strOf sum)]) ∧ _
  generalize strOf sum = q at *
  go_enter Tryd.func19, Tryd.ntmps19
  go_wp2
  refine bodyPost_ret (results_cell1 rfl _ _ rfl (second_range _ _ _ _) Tryd.underlying43 rfl HI.out) rfl ?_
  exact ⟨rfl, ((Below.refl _ _).alloc (Nat.le_refl _) _).alloc (by simp) _⟩

/-! Append as one function over states -/
def DS.app (S : DS) (e : Ent) : DS × Ent × Int :=
  if S.on = false then (S, Ent.zero, 7) else
  if lastN S = 4294967295 then (S, Ent.zero, 6) else
  if (e.num (lastN S + 1)).valid = false then (S, Ent.zero, 1) else
  if (S.write ((e.num (lastN S + 1)).number % 8).toNat (e.num (lastN S + 1)).blk).2 = false then ((S.write ((e.num (lastN S + 1)).number % 8).toNat (e.num (lastN S + 1)).blk).1, Ent.zero, 7) else
  if (S.write ((e.num (lastN S + 1)).number % 8).toNat (e.num (lastN S + 1)).blk).1.sync.2 = false then ((S.write ((e.num (lastN S + 1)).number % 8).toNat (e.num (lastN S + 1)).blk).1.sync.1, Ent.zero, 7) else
  ((S.write ((e.num (lastN S + 1)).number % 8).toNat (e.num (lastN S + 1)).blk).1.sync.1, e.num (lastN S + 1), 0)

theorem bool_yes {b : Bool} (h : ¬b = false) : b = true := by cases b; exact absurd rfl h; rfl

theorem app_any (F : Nat → Prop) (g : Nat) (S : DS) (e : Ent) (w : World) (hD : DiskAt w F g S) (hF : ¬F 0) (HK : HasK w) (hc : S.c < 2 ^ 40) (ho : S.ops < 2 ^ 40) :
    Calls Tryd.prog 16 #[.pointer (some ⟨g, 0, none⟩), .agg e.cells.toArray] w fun y w' => y = .returned (.tuple #[.agg (DS.app S e).2.1.cells.toArray, .int .i64 (DS.app S e).2.2]) ∧ DiskAt w' (More F w) g (DS.app S e).1 ∧ Only F w w' := by
  by_cases h1 : S.on = false
  · have e1 : DS.app S e = (S, Ent.zero, 7) := by unfold DS.app; rw [if_pos h1]
    rw [e1]
    refine app_err F g S e w hD Ent.zero false 7 (.inl rfl) (fun W hb => ?_)
    have := last_any F g S W (hD.below hb) (Nat.le_of_lt hc) (HK.later hb)
    unfold DS.last at this
    rwa [if_pos h1] at this
  · have CL : ∀ W, Below w.heap.size w W → Calls Tryd.prog 31 #[.pointer (some ⟨g, 0, none⟩)] W fun y w' => y = .returned (.tuple #[.agg ((lastE S).getD Ent.zero).cells.toArray, .bool (lastE S).isSome, .int .i64 0]) ∧ Below W.heap.size W w' :=
      fun W hb => last_on F g S W (hD.below hb) (bool_yes h1) (Nat.le_of_lt hc) (HK.later hb)
    obtain ⟨b0, b1⟩ := lastN_ok S
    by_cases h2 : lastN S = 4294967295
    · have e1 : DS.app S e = (S, Ent.zero, 6) := by unfold DS.app; rw [if_neg h1, if_pos h2]
      rw [e1]
      exact app_full F g S e w hD _ _ h2 CL
    · by_cases h3 : (e.num (lastN S + 1)).valid = false
      · have e1 : DS.app S e = (S, Ent.zero, 1) := by unfold DS.app; rw [if_neg h1, if_neg h2, if_pos h3]
        rw [e1]
        exact app_bad F g S e w hD _ _ b0 (Int.lt_iff_le_and_ne.2 ⟨b1, h2⟩) HK h3 CL
      · by_cases h4 : (S.write ((e.num (lastN S + 1)).number % 8).toNat (e.num (lastN S + 1)).blk).2 = false
        · have e1 : DS.app S e = ((S.write ((e.num (lastN S + 1)).number % 8).toNat (e.num (lastN S + 1)).blk).1, Ent.zero, 7) := by unfold DS.app; rw [if_neg h1, if_neg h2, if_neg h3, if_pos h4]
          rw [e1]
          exact app_nowrite F g S e w hD _ _ b0 (Int.lt_iff_le_and_ne.2 ⟨b1, h2⟩) HK hF (bool_yes h3) (bool_yes h1) hc ho _ (Prod.ext rfl h4) CL
        · by_cases h5 : (S.write ((e.num (lastN S + 1)).number % 8).toNat (e.num (lastN S + 1)).blk).1.sync.2 = false
          · have e1 : DS.app S e = ((S.write ((e.num (lastN S + 1)).number % 8).toNat (e.num (lastN S + 1)).blk).1.sync.1, Ent.zero, 7) := by unfold DS.app; rw [if_neg h1, if_neg h2, if_neg h3, if_neg h4, if_pos h5]
            rw [e1]
            exact app_nosync F g S e w hD _ _ b0 (Int.lt_iff_le_and_ne.2 ⟨b1, h2⟩) HK hF (bool_yes h3) (bool_yes h1) hc ho _ (Prod.ext rfl (bool_yes h4)) _ (Prod.ext rfl h5) CL
          · have e1 : DS.app S e = ((S.write ((e.num (lastN S + 1)).number % 8).toNat (e.num (lastN S + 1)).blk).1.sync.1, e.num (lastN S + 1), 0) := by unfold DS.app; rw [if_neg h1, if_neg h2, if_neg h3, if_neg h4, if_neg h5]
            rw [e1]
            exact app_done F g S e w hD _ _ b0 (Int.lt_iff_le_and_ne.2 ⟨b1, h2⟩) HK hF (bool_yes h3) (bool_yes h1) hc ho _ (Prod.ext rfl (bool_yes h4)) _ (Prod.ext rfl (bool_yes h5)) CL

/-! Append without a disk -/
structure NilW (w W : World) (r : Ent) : Prop where
  res : EB W (w.heap.size + 1) r
  below : Below w.heap.size w W

theorem NilW.later {w W W' : World} {r : Ent} (h : NilW w W r) (k : Below W.heap.size W W') : NilW w W' r := ⟨h.res.later k, chain2 h.below k⟩
theorem NilW.put {w W : World} {r : Ent} (h : NilW w W r) (x : Ent) : NilW w (W.setCells (w.heap.size + 1) 0 x.cells.toArray.toList) x := ⟨h.res.set x, below_setCells h.below _ (Nat.le_succ _) _ _ _ h.below⟩
theorem nilW_new (w : World) (e : Ent) (t u : TypeId) : NilW w ((w.alloc (.cells e.cells.toArray t)).alloc (.cells Ent.zero.cells.toArray u)) Ent.zero := by
  have h := eb_new (w.alloc (.cells e.cells.toArray t)) Ent.zero u
  rw [show (w.alloc (.cells e.cells.toArray t)).heap.size = w.heap.size + 1 by simp] at h
  exact ⟨h, ((Below.refl _ _).alloc (Nat.le_refl _) _).alloc (by simp) _⟩

set_option maxHeartbeats 2000000 in
set_option maxRecDepth 100000 in
theorem app_no (p : Option Addr) (e : Ent) (w : World) (h : NoDisk w p) (hp : ∀ a, p = some a → a.block < w.heap.size) :
    Calls Tryd.prog 16 #[.pointer p, .agg e.cells.toArray] w fun y w' => y = .returned (.tuple #[.agg Ent.zero.cells.toArray, .int .i64 16]) ∧ Below w.heap.size w w' := by
  have HW0 := Lib.hid (nilW_new w e 47 47)
  have CL := Lib.hid (fun W (hb : Below w.heap.size w W) => last_no p W (h.below hb hp) (fun a ha => Nat.lt_of_lt_of_le (hp a ha) hb.size))
  clear h hp
  go_enter Tryd.func16, Tryd.ntmps16
  go_wp2_with fail
  refine (CL.out _ HW0.out.below).mono ?_
  rintro y w1 ⟨rfl, hb⟩
  have HW1 := Lib.hid (HW0.out.later hb)
  clear hb CL HW0
  have HZ := Lib.hid (eb_zero w1)
  have HX := Lib.hid (eb_put (Below.refl w1.heap.size w1) Ent.zero)
  go_wp2_with (first
    | (refine wpList_store_mid rfl 47 (.tmp 6) (.tmp 15) rfl w1.heap.size 0 Ent.zero.cells.toArray rfl rfl HZ.out.room (e_infoA _) (e_all _) ?_; generalize World.setCells _ _ _ _ = W2 at HX ⊢; have HW2 := Lib.hid (HW1.out.later HX.out.2.1); clear HX HW1 HZ)
    | (refine wpList_store_mid rfl 47 (.tmp 4) (.tmp 20) rfl (w.heap.size + 1) 0 Ent.zero.cells.toArray rfl rfl HW2.out.res.room (e_infoA _) (e_all _) ?_; have HF := Lib.hid (HW2.out.put Ent.zero); generalize World.setCells _ _ _ _ = W9 at HF ⊢))
  refine bodyPost_ret (results_cell2 rfl _ _ rfl HF.out.res.cells Tryd.underlying47 rfl (e_info _)) rfl ?_
  exact ⟨rfl, HF.out.below⟩

end Go.Proofs.YtkplmaaeggnbgaaDoor.Rg
