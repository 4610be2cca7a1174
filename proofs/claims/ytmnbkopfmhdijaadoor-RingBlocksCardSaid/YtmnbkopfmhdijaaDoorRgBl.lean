/- The walk of RingBlocks: it returns true. No condition but those that each states. -/
import Derived.Test.YtmnbkopfmhdijaaDoorRgX
import Derived.Test.YtmnbkopfmhdijaaDoorRgBW
namespace Go.Proofs.YtmnbkopfmhdijaaDoor.Rg
open Go.RowKit Dk

set_option maxHeartbeats 2000000 in
set_option maxRecDepth 100000 in
theorem ringBlocks_long (e : Ent) (s : ByteArray) (hl : 1000 < e.sum.length) (w : World) (HK : HasK w) :
    Calls Tryd.prog 4 #[.agg e.cells.toArray, .string s] w fun x w' => x = .returned (.bool true) ∧ Below w.heap.size w w' := by
  have HHK := Lib.hid HK
  have hb0 : Below w.heap.size w (w.alloc (.cells e.cells.toArray 35)) := (Below.refl _ _).alloc (Nat.le_refl _) _
  have HB0 := Lib.hid hb0
  have c4 := (eb_new w e 35).cell4
  have hsz : (strOf e.sum).size = e.sum.length := strOf_size _
  have t0 : decide (1000 < (strOf e.sum).size) = true := decide_eq_true (by omega)
  have t1 : decide ((1000 : Int) < ((strOf e.sum).size : Int)) = true := decide_eq_true (by omega)
  clear HK hb0 hsz
  generalize strOf e.sum = q at *
  go_enter Tryd.func4, Tryd.ntmps4
  go_wp2_with fail
  refine (known5 _ (HHK.out.later HB0.out)).mono ?_
  rintro y w1 ⟨rfl, hb⟩
  have HB1 := Lib.hid (chain2 HB0.out hb)
  clear hb
  go_wp2
  go_ret
  exact ⟨rfl, HB1.out⟩

set_option maxHeartbeats 2000000 in
set_option maxRecDepth 100000 in
theorem ringBlocks_wide (e : Ent) (s : ByteArray) (hl : ¬1000 < e.sum.length) (h2 : 1000 < s.size) (w : World) (HK : HasK w) :
    Calls Tryd.prog 4 #[.agg e.cells.toArray, .string s] w fun x w' => x = .returned (.bool true) ∧ Below w.heap.size w w' := by
  have HHK := Lib.hid HK
  have hb0 : Below w.heap.size w (w.alloc (.cells e.cells.toArray 35)) := (Below.refl _ _).alloc (Nat.le_refl _) _
  have HB0 := Lib.hid hb0
  have c4 := (eb_new w e 35).cell4
  have hsz : (strOf e.sum).size = e.sum.length := strOf_size _
  have t0 : decide (1000 < (strOf e.sum).size) = false := decide_eq_false (by omega)
  have t1 : decide ((1000 : Int) < ((strOf e.sum).size : Int)) = false := decide_eq_false (by omega)
  have t2 : decide (1000 < s.size) = true := decide_eq_true (by omega)
  have t3 : decide ((1000 : Int) < (s.size : Int)) = true := decide_eq_true (by omega)
  clear HK hb0 hsz
  generalize strOf e.sum = q at *
  go_enter Tryd.func4, Tryd.ntmps4
  go_wp2_with fail
  refine (known5 _ (HHK.out.later HB0.out)).mono ?_
  rintro y w1 ⟨rfl, hb⟩
  have HB1 := Lib.hid (chain2 HB0.out hb)
  clear hb
  go_wp2
  go_ret
  exact ⟨rfl, HB1.out⟩

set_option maxHeartbeats 4000000 in
set_option maxRecDepth 100000 in
theorem ringBlocks_fit (e : Ent) (s : ByteArray) (hl : ¬1000 < e.sum.length) (h2 : ¬1000 < s.size) (w : World) (HK : HasK w) :
    Calls Tryd.prog 4 #[.agg e.cells.toArray, .string s] w fun x w' => x = .returned (.bool true) ∧ Below w.heap.size w w' := by
  have HHK := Lib.hid HK
  have hb0 : Below w.heap.size w (w.alloc (.cells e.cells.toArray 35)) := (Below.refl _ _).alloc (Nat.le_refl _) _
  have HB0 := Lib.hid hb0
  have hx := eb_new w e 35
  have HX := Lib.hid hx
  have c4 := hx.cell4
  have hsz : (strOf e.sum).size = e.sum.length := strOf_size _
  have t0 : decide (1000 < (strOf e.sum).size) = false := decide_eq_false (by omega)
  have t1 : decide ((1000 : Int) < ((strOf e.sum).size : Int)) = false := decide_eq_false (by omega)
  have t2 : decide (1000 < s.size) = false := decide_eq_false (by omega)
  have t3 : decide ((1000 : Int) < (s.size : Int)) = false := decide_eq_false (by omega)
  have HI := Lib.hid (ref_info e)
  obtain ⟨l, hs, -⟩ := toS s
  have CB := Lib.hid (fun W HK => build_any e W HK)
  have CRB := Lib.hid (fun W => rbuild_any e W)
  have CP := Lib.hid (fun W HK => parse_any l W HK)
  have CRP := Lib.hid (fun W => rparse_any l W)
  rw [← hs] at CP CRP
  clear HK hb0 hsz hx hl h2 hs
  generalize strOf e.sum = q0 at *
  generalize strOf (if e.valid then e.blk else []) = bs at *
  generalize (if e.valid = true then (0 : Int) else 1) = er at *
  generalize (parse l).isSome = is at *
  generalize parsed l = E at *
  go_enter Tryd.func4, Tryd.ntmps4
  go_wp2_with (first
    | (refine wpList_load_mid rfl 35 (.tmp 2) rfl w.heap.size 0 rfl e.cells _ HX.out.cells Tryd.underlying35 rfl HI.out ?_)
    | (refine wpList_load_mid rfl 35 (.tmp 2) rfl w.heap.size 0 rfl e.cells _ X5.out.cells Tryd.underlying35 rfl HI.out ?_)
    | (go_at_call 17; refine (given_any e _).mono ?_; rintro y w4 ⟨rfl, hb⟩; have HB4 := Lib.hid (chain2 HB0.out hb); have X4 := Lib.hid (HX.out.later hb); clear hb HB0 HX c4)
    | (go_at_call 16; refine (CB.out _ (HHK.out.later HB4.out)).mono ?_; rintro y w5 ⟨rfl, hb⟩; have HB5 := Lib.hid (chain2 HB4.out hb); have X5 := Lib.hid (X4.out.later hb); clear hb HB4 X4)
    | (go_at_call 18; refine (CRB.out _).mono ?_; rintro y w6 ⟨rfl, hb⟩; have HB6 := Lib.hid (chain2 HB5.out hb); clear hb HB5 X5)
    | (go_at_call 19; refine (CP.out _ (HHK.out.later HB6.out)).mono ?_; rintro y w7 ⟨rfl, hb⟩; have HB7 := Lib.hid (chain2 HB6.out hb); clear hb HB6; have HZ7 := Lib.hid (ebt_zero w7 39); have HP7 := Lib.hid (ebt_put w7 39 E))
    | (refine wpList_store_mid rfl 39 (.tmp 9) (.tmp 37) rfl w7.heap.size 0 E.cells.toArray rfl rfl HZ7.out.room (e_infoA _) (e_all _) ?_; generalize World.setCells _ _ _ _ = W8 at HP7 ⊢; have HB8 := Lib.hid (chain2 HB7.out HP7.out.2); have Y8 := Lib.hid HP7.out.1; clear HP7 HZ7 HB7)
    | (go_at_call 20; refine (CRP.out _).mono ?_; rintro y w9 ⟨rfl, hb⟩; have HB9 := Lib.hid (chain2 HB8.out hb); have Y9 := Lib.hid (Y8.out.later hb); clear hb HB8 Y8; have HZ9 := Lib.hid (ebt_zero w9 35); have HP9 := Lib.hid (ebt_put w9 35 E))
    | (refine wpList_store_mid rfl 35 (.tmp 11) (.tmp 42) rfl w9.heap.size 0 E.cells.toArray rfl rfl HZ9.out.room (ref_infoA _) (e_all _) ?_; generalize World.setCells _ _ _ _ = W10 at HP9 ⊢; have HB10 := Lib.hid (chain2 HB9.out HP9.out.2); have Y10 := Lib.hid (Y9.out.later HP9.out.2); have Z10 := Lib.hid HP9.out.1; clear HP9 HZ9 HB9 Y9))
  have hT : TwoE w W10 w7.heap.size w9.heap.size E := ⟨Y10.out, Z10.out, HB10.out⟩
  clear Y10 Z10 HB10
  generalize w7.heap.size = A at hT ⊢
  generalize w9.heap.size = B at hT ⊢
  obtain ⟨q, hq⟩ : ∃ q, strOf E.sum = q := ⟨_, rfl⟩
  have HQ := Lib.hid hq
  clear hq
  have hS0 : TwoS w W10.drew A B E := twoS_drew hT
  unfold TwoS at hS0
  rw [HQ.out] at hS0
  clear hT
  have CT : Hid (∀ W, Calls Tryd.prog 21 #[.agg #[.int .i64 E.kind, .int .i64 E.number, .int .i64 E.slot, .int .i64 E.size, .string q]] W fun x w' => x = .returned (.agg #[.int .i64 E.kind, .int .i64 E.number, .int .i64 E.slot, .int .i64 E.size, .string q]) ∧ Below W.heap.size W w') := Lib.hid (fun W => by rw [show #[.int .i64 E.kind, .int .i64 E.number, .int .i64 E.slot, .int .i64 E.size, .string q] = E.cells.toArray by rw [← HQ.out]; rfl]; exact taken_any E W)
  have CKN : Hid (∀ W, (W.cell? ⟨A, 0, none⟩ = some (.int .i64 E.kind) ∧ W.cell? ⟨A, 1, none⟩ = some (.int .i64 E.number) ∧ W.cell? ⟨A, 2, none⟩ = some (.int .i64 E.slot) ∧ W.cell? ⟨A, 3, none⟩ = some (.int .i64 E.size) ∧ W.cell? ⟨A, 4, none⟩ = some (.string q) ∧ W.cell? ⟨B, 0, none⟩ = some (.int .i64 E.kind) ∧ W.cell? ⟨B, 1, none⟩ = some (.int .i64 E.number) ∧ W.cell? ⟨B, 2, none⟩ = some (.int .i64 E.slot) ∧ W.cell? ⟨B, 3, none⟩ = some (.int .i64 E.size) ∧ W.cell? ⟨B, 4, none⟩ = some (.string q) ∧ TwoE w W A B E) → Calls Tryd.prog 15 #[] W fun e w' => e = .returned (.bool true) ∧ Below W.heap.size W w') := Lib.hid (fun W h => known5 W (HHK.out.later h.2.2.2.2.2.2.2.2.2.2.below))
  have hKEEP : Hid (∀ W1 W2, Below W1.heap.size W1 W2 → (W1.cell? ⟨A, 0, none⟩ = some (.int .i64 E.kind) ∧ W1.cell? ⟨A, 1, none⟩ = some (.int .i64 E.number) ∧ W1.cell? ⟨A, 2, none⟩ = some (.int .i64 E.slot) ∧ W1.cell? ⟨A, 3, none⟩ = some (.int .i64 E.size) ∧ W1.cell? ⟨A, 4, none⟩ = some (.string q) ∧ W1.cell? ⟨B, 0, none⟩ = some (.int .i64 E.kind) ∧ W1.cell? ⟨B, 1, none⟩ = some (.int .i64 E.number) ∧ W1.cell? ⟨B, 2, none⟩ = some (.int .i64 E.slot) ∧ W1.cell? ⟨B, 3, none⟩ = some (.int .i64 E.size) ∧ W1.cell? ⟨B, 4, none⟩ = some (.string q) ∧ TwoE w W1 A B E) → (W2.cell? ⟨A, 0, none⟩ = some (.int .i64 E.kind) ∧ W2.cell? ⟨A, 1, none⟩ = some (.int .i64 E.number) ∧ W2.cell? ⟨A, 2, none⟩ = some (.int .i64 E.slot) ∧ W2.cell? ⟨A, 3, none⟩ = some (.int .i64 E.size) ∧ W2.cell? ⟨A, 4, none⟩ = some (.string q) ∧ W2.cell? ⟨B, 0, none⟩ = some (.int .i64 E.kind) ∧ W2.cell? ⟨B, 1, none⟩ = some (.int .i64 E.number) ∧ W2.cell? ⟨B, 2, none⟩ = some (.int .i64 E.slot) ∧ W2.cell? ⟨B, 3, none⟩ = some (.int .i64 E.size) ∧ W2.cell? ⟨B, 4, none⟩ = some (.string q) ∧ TwoE w W2 A B E)) := Lib.hid (fun W1 W2 hb h => by
    have hk := twoS_later hb (twoS_of HQ.out h)
    unfold TwoS at hk; rw [HQ.out] at hk; exact hk)
  go_region_held3 (fun W => W.cell? ⟨A, 0, none⟩ = some (.int .i64 E.kind) ∧ W.cell? ⟨A, 1, none⟩ = some (.int .i64 E.number) ∧ W.cell? ⟨A, 2, none⟩ = some (.int .i64 E.slot) ∧ W.cell? ⟨A, 3, none⟩ = some (.int .i64 E.size) ∧ W.cell? ⟨A, 4, none⟩ = some (.string q) ∧ W.cell? ⟨B, 0, none⟩ = some (.int .i64 E.kind) ∧ W.cell? ⟨B, 1, none⟩ = some (.int .i64 E.number) ∧ W.cell? ⟨B, 2, none⟩ = some (.int .i64 E.slot) ∧ W.cell? ⟨B, 3, none⟩ = some (.int .i64 E.size) ∧ W.cell? ⟨B, 4, none⟩ = some (.string q) ∧ TwoE w W A B E)
    (first | assumption | exact hKEEP.out _ _ (by assumption) (by assumption)) (first
    | (go_at_call 21; (with_reducible refine (CT.out _).mono ?_); rintro y W11 ⟨rfl, hb11⟩)
    | (go_at_call 15; (with_reducible refine (CKN.out _ (by assumption)).mono ?_); rintro y W12 ⟨rfl, hb12⟩))
  have hh := ‹_ ∧ _ ∧ _ ∧ _ ∧ _ ∧ _ ∧ _ ∧ _ ∧ _ ∧ _ ∧ TwoE w W12 A B E›
  have HB12 := Lib.hid hh.2.2.2.2.2.2.2.2.2.2.below
  clear hh hS0 hKEEP CKN CT
  go_wp2
  go_ret
  exact ⟨rfl, HB12.out⟩

theorem ringBlocks_law (e : Ent) (s : ByteArray) (w : World) (HK : HasK w) :
    Calls Tryd.prog 4 #[.agg e.cells.toArray, .string s] w fun x w' => x = .returned (.bool true) ∧ Below w.heap.size w w' := by
  by_cases hl : 1000 < e.sum.length
  · exact ringBlocks_long e s hl w HK
  · by_cases h2 : 1000 < s.size
    · exact ringBlocks_wide e s hl h2 w HK
    · exact ringBlocks_fit e s hl h2 w HK

section
variable {H : Type} {enc : TypeId × Value → H} {w : World} {base : Nat} {spare : Nat → Bool} {held : Bool}
open Go.ChangeShapes Go.WideShapes Go.Deep
set_option maxRecDepth 100000 in
theorem ringBlocks_raw {b0 : Nat} {v : Value} {d : DataW H} {p : List MemPlace}
    (hv : Value.okWide Tryd.prog w .any b0 35 v) (h : DataW.Trod enc Tryd.prog w base spare held 35 v d p)
    (s : ByteArray) (_hs : s.size ≤ maxLen) (HK : HasK w) :
    Calls Tryd.prog 4 #[v, .string s] w fun x w' => x = .returned (.bool true) ∧ Below w.heap.size w w' := by
  obtain ⟨e, rfl, -⟩ := open_entry hv h
  exact ringBlocks_law e s w HK
end

end Go.Proofs.YtmnbkopfmhdijaaDoor.Rg
