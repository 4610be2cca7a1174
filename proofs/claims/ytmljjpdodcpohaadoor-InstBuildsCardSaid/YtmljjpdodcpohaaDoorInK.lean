/- The walk of chrysalislaw13.known: its contract. No condition but that the table of formats lies where its variable is. -/
import Derived.Test.YtmljjpdodcpohaaDoorInQ
namespace Go.Proofs.YtmljjpdodcpohaaDoor.In
open Go.RowKit Dk

def kx : Ix := ⟨2, 1, 44, 1⟩
theorem k_build (w : World) (HF : HasF w) : Calls Tryd.prog 8 #[.agg kx.cells.toArray] w fun e w' => e = .returned (.tuple #[.string ⟨#[2, 1, 44, 1]⟩, .int .i64 0]) ∧ Below w.heap.size w w' :=
  (build_any kx w HF).mono fun e w' ⟨he, hb⟩ => ⟨by rw [he, if_pos (show rightB kx = true by decide +kernel)]; rfl, hb⟩
theorem k_not (w : World) (HF : HasF w) : Calls Tryd.prog 8 #[.agg #[.int .i64 1, .int .i64 1, .int .i64 2, .int .i64 0]] w fun e w' => e = .returned (.tuple #[.string ⟨#[]⟩, .int .i64 4]) ∧ Below w.heap.size w w' :=
  (build_any ⟨1, 1, 2, 0⟩ w HF).mono fun e w' ⟨he, hb⟩ => ⟨by rw [he, if_neg (show ¬rightB ⟨1, 1, 2, 0⟩ = true by decide +kernel)], hb⟩
theorem k_parse (w : World) (HF : HasF w) : Calls Tryd.prog 19 #[.string ⟨#[63, 2, 1, 44, 1]⟩, .int .i64 1] w fun e w' => e = .returned (.tuple #[.agg kx.cells.toArray, .int .i64 0]) ∧ Below w.heap.size w w' :=
  (parse_any [63, 2, 1, 44, 1] 1 w HF (by decide) (by decide)).mono fun e w' ⟨he, hb⟩ => ⟨by rw [he, show parseL [63, 2, 1, 44, 1] 1 = (kx, 0) by decide +kernel]; rfl, hb⟩
theorem k_wide (w : World) (HF : HasF w) : Calls Tryd.prog 12 #[.agg kx.cells.toArray] w fun e w' => e = .returned (.int .i64 300) ∧ Below w.heap.size w w' :=
  (wide_any kx w HF).mono fun e w' ⟨he, hb⟩ => ⟨by rw [he, show wideL kx = 300 by decide +kernel], hb⟩
theorem k_name (w : World) (HF : HasF w) : Calls Tryd.prog 16 #[.int .i64 37] w fun e w' => e = .returned (.string ⟨#[114, 101, 116, 117, 114, 110]⟩) ∧ w = w' :=
  (name_any 37 w HF).mono fun e w' ⟨he, hb⟩ => ⟨by rw [he]; rfl, hb⟩
theorem k_shape (w : World) (HF : HasF w) : Calls Tryd.prog 14 #[.int .i64 29] w fun e w' => e = .returned (.string ⟨#[114, 114, 110]⟩) ∧ w = w' :=
  (shape_any 29 w HF).mono fun e w' ⟨he, hb⟩ => ⟨by rw [he]; rfl, hb⟩

/-- The same in blocks of a call's own, whatever comes. -/
theorem ib_zero (W : World) : IB (W.alloc (.cells #[.int .i64 0, .int .i64 0, .int .i64 0, .int .i64 0] 23)) W.heap.size Ix.zero := ib_new W Ix.zero _
theorem ib_put (W : World) (x : Ix) : IB ((W.alloc (.cells #[.int .i64 0, .int .i64 0, .int .i64 0, .int .i64 0] 23)).setCells W.heap.size 0 x.cells.toArray.toList) W.heap.size x ∧ Below W.heap.size W ((W.alloc (.cells #[.int .i64 0, .int .i64 0, .int .i64 0, .int .i64 0] 23)).setCells W.heap.size 0 x.cells.toArray.toList) := by
  have h := ib_zero W
  have hb := (Below.refl W.heap.size W).alloc (Nat.le_refl _) (.cells #[.int .i64 0, .int .i64 0, .int .i64 0, .int .i64 0] 23)
  exact ⟨⟨World.rangeAt_setCells_same _ W.heap.size 0 x.cells h.room, World.there_setCells h.room _ _ _, by rw [Dk.size_setCells]; exact h.lt⟩, below_setCells hb _ (Nat.le_refl _) _ _ _ hb⟩

set_option maxHeartbeats 2000000 in
set_option maxRecDepth 100000 in
theorem known13 (w : World) (HF : HasF w) : Calls Tryd.prog 18 #[] w fun e w' => e = .returned (.bool true) ∧ Below w.heap.size w w' := by
  have HHF := Lib.hid HF
  have p1 : ∀ W : World, (Op.stringOp .add ⟨#[63]⟩ ⟨#[2, 1, 44, 1]⟩).run Tryd.prog W = .ok (.string ⟨#[63, 2, 1, 44, 1]⟩) W := fun W => sum_run [63] [2, 1, 44, 1] (by decide) W
  have HZ := Lib.hid (ib_zero w)
  have HP := Lib.hid (ib_put w kx)
  have HIA := Lib.hid i_infoA
  have HA := Lib.hid i_all
  clear HF
  go_enter Tryd.func18, Tryd.ntmps18
  go_wp2_with (first
    | (refine wpList_store_mid rfl 23 (.tmp 1) (.tmp 8) rfl w.heap.size 0 kx.cells.toArray rfl rfl HZ.out.room (HIA.out _) (HA.out _) ?_; generalize World.setCells _ _ _ _ = W1 at HP ⊢; have HX1 := Lib.hid HP.out.1; have HB1 := Lib.hid HP.out.2; clear HP HZ)
    | (refine wpList_ld (e := kx) (by rfl) (.tmp 1) rfl w.heap.size rfl HX1.out.cells ?_)
    | (go_at_call 8; refine (k_build W1 (HHF.out.later HB1.out)).mono ?_; rintro e W2 ⟨rfl, hb⟩; have HX2 := Lib.hid (HX1.out.later hb); have HB2 := Lib.hid (chain2 HB1.out hb); clear hb HX1 HB1)
    | (go_at_call 19; refine (k_parse W2 (HHF.out.later HB2.out)).mono ?_; rintro e W3 ⟨rfl, hb⟩; have HX3 := Lib.hid (HX2.out.later hb); have HB3 := Lib.hid (chain2 HB2.out hb); have HZ3 := Lib.hid (ib_zero W3); have HP3 := Lib.hid (ib_put W3 kx); clear hb HX2 HB2)
    | (refine wpList_store_mid rfl 23 (.tmp 4) (.tmp 18) rfl W3.heap.size 0 kx.cells.toArray rfl rfl HZ3.out.room (HIA.out _) (HA.out _) ?_; generalize World.setCells _ _ _ _ = W4 at HP3 ⊢; have HX4 := Lib.hid (HX3.out.later HP3.out.2); have HY4 := Lib.hid HP3.out.1; have HB4 := Lib.hid (chain2 HB3.out HP3.out.2); clear HP3 HZ3 HX3 HB3)
    | (go_at_call 8; refine (k_not W4 (HHF.out.later HB4.out)).mono ?_; rintro e W5 ⟨rfl, hb⟩; have HX5 := Lib.hid (HX4.out.later hb); have HY5 := Lib.hid (HY4.out.later hb); have HB5 := Lib.hid (chain2 HB4.out hb); have HF5 := Lib.hid (HHF.out.later HB5.out); clear hb HX4 HY4 HB4)
    | (refine wpList_ld (e := kx) (by rfl) (.tmp 4) rfl _ rfl HY5.out.cells ?_)
    | (refine wpList_ld (e := kx) (by rfl) (.tmp 1) rfl w.heap.size rfl HX5.out.cells ?_)
    | (refine wpList_eql (e := kx) (f := kx) (by rfl) (.tmp 32) (.tmp 33) rfl rfl rfl true (decide_eq_true rfl) ?_)
    | (go_at_call 12; refine (k_wide W5 HF5.out).mono ?_; rintro e W6 ⟨rfl, hb⟩; have HB6 := Lib.hid (chain2 HB5.out hb); have HF6 := Lib.hid (HF5.out.later hb); clear hb HB5)
    | (go_at_call 16; refine (k_name _ HF6.out).mono ?_; rintro e W7 ⟨rfl, rfl⟩)
    | (go_at_call 14; refine (k_shape _ HF6.out).mono ?_; rintro e W7 ⟨rfl, rfl⟩))
  go_ret
  exact ⟨rfl, HB6.out⟩

end Go.Proofs.YtmljjpdodcpohaaDoor.In
