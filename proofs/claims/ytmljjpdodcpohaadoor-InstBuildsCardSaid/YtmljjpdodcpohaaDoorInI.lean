/- The walks of the document's Wide and Build: their contracts. No condition but those that each states. -/
import Derived.Test.YtmljjpdodcpohaaDoorInC
import Derived.Test.YtmljjpdodcpohaaDoorInH
namespace Go.Proofs.YtmljjpdodcpohaaDoor.In
open Go.RowKit Dk

set_option maxHeartbeats 1000000 in
set_option maxRecDepth 100000 in
theorem rwide_any (x : Ix) (w : World) : Calls Tryd.prog 13 #[.agg x.cells.toArray] w fun e w' => e = .returned (.int .i64 (wideL x)) ∧ Below w.heap.size w w' := by
  obtain ⟨W1, hW1⟩ : ∃ W1, W1 = w.alloc (.cells x.cells.toArray 23) := ⟨_, rfl⟩
  have HB1 : Hid (Below w.heap.size w W1) := Lib.hid (by rw [hW1]; exact (Below.refl _ _).alloc (Nat.le_refl _) _)
  have HX : Hid (IB W1 w.heap.size x) := Lib.hid (by rw [hW1]; exact ib_new w x _)
  have RT := Lib.hid (rright_any x W1)
  have HI := Lib.hid (i_info x)
  have HV : Hid (wideL x = if rightB x then x.b + 256 * x.c else 0) := Lib.hid rfl
  have HRI := Lib.hid (fun h => right_in (x := x) h)
  obtain ⟨op, a, b, c⟩ := x
  have hW2 : w.alloc (.cells #[.int .i64 op, .int .i64 a, .int .i64 b, .int .i64 c] 23) = W1 := hW1.symm
  show Calls _ _ #[.agg #[.int .i64 op, .int .i64 a, .int .i64 b, .int .i64 c]] w _
  generalize rightB ⟨op, a, b, c⟩ = R at *
  generalize wideL ⟨op, a, b, c⟩ = V at *
  clear hW1
  cases R with
  | false =>
    have hv : V = 0 := HV.out
    subst hv
    clear HV HRI
    go_enter Tryd.func13, Tryd.ntmps13
    go_wp2_with (first
      | (refine wpList_load_mid rfl 23 (.tmp 1) rfl w.heap.size 0 rfl (Ix.cells ⟨op, a, b, c⟩) _ HX.out.cells Tryd.underlying23 rfl HI.out ?_)
      | (go_at_call 11; refine RT.out.mono ?_; rintro e w2 ⟨rfl, hb2⟩))
    go_ret
    exact ⟨rfl, chain2 HB1.out hb2⟩
  | true =>
    have hv : V = b + 256 * c := HV.out
    obtain ⟨-, -, ⟨b0, b1⟩, ⟨c0, c1⟩⟩ := HRI.out rfl
    replace b0 : 0 ≤ b := b0
    replace b1 : b ≤ 255 := b1
    replace c0 : 0 ≤ c := c0
    replace c1 : c ≤ 255 := c1
    have HV2 := Lib.hid hv
    clear HV HRI hv
    go_enter Tryd.func13, Tryd.ntmps13
    go_wp2_with (first
      | (refine wpList_load_mid rfl 23 (.tmp 1) rfl w.heap.size 0 rfl (Ix.cells ⟨op, a, b, c⟩) _ HX.out.cells Tryd.underlying23 rfl HI.out ?_)
      | (go_at_call 11; refine RT.out.mono ?_; rintro e w2 ⟨rfl, hb2⟩; have HX2 := HX.out.later hb2; obtain ⟨k0, k1, k2, k3⟩ := HX2.at; simp only at k0 k1 k2 k3))
    go_ret
    exact ⟨by rw [HV2.out]; rfl, chain2 HB1.out hb2⟩

set_option maxHeartbeats 1000000 in
set_option maxRecDepth 100000 in
theorem rbuild_any (x : Ix) (w : World) : Calls Tryd.prog 9 #[.agg x.cells.toArray] w fun e w' => e = .returned (if rightB x then .tuple #[.string (strOf (buildL x)), .int .i64 0] else .tuple #[.string ⟨#[]⟩, .int .i64 4]) ∧ Below w.heap.size w w' := by
  obtain ⟨W1, hW1⟩ : ∃ W1, W1 = w.alloc (.cells x.cells.toArray 23) := ⟨_, rfl⟩
  have HB1 : Hid (Below w.heap.size w W1) := Lib.hid (by rw [hW1]; exact (Below.refl _ _).alloc (Nat.le_refl _) _)
  have HX : Hid (IB W1 w.heap.size x) := Lib.hid (by rw [hW1]; exact ib_new w x _)
  have RT := Lib.hid (rright_any x W1)
  have HI := Lib.hid (i_info x)
  have HRI := Lib.hid (fun h => right_in (x := x) h)
  have HBL : Hid (buildL x = [byteOf x.op, byteOf x.a, byteOf x.b, byteOf x.c]) := Lib.hid rfl
  obtain ⟨op, a, b, c⟩ := x
  have hW2 : w.alloc (.cells #[.int .i64 op, .int .i64 a, .int .i64 b, .int .i64 c] 23) = W1 := hW1.symm
  show Calls _ _ #[.agg #[.int .i64 op, .int .i64 a, .int .i64 b, .int .i64 c]] w _
  generalize rightB ⟨op, a, b, c⟩ = R at *
  generalize buildL ⟨op, a, b, c⟩ = V at *
  clear hW1
  cases R with
  | false =>
    clear HBL HRI
    go_enter Tryd.func9, Tryd.ntmps9
    go_wp2_with (first
      | (refine wpList_load_mid rfl 23 (.tmp 1) rfl w.heap.size 0 rfl (Ix.cells ⟨op, a, b, c⟩) _ HX.out.cells Tryd.underlying23 rfl HI.out ?_)
      | (go_at_call 11; refine RT.out.mono ?_; rintro e w2 ⟨rfl, hb2⟩))
    go_ret2
    exact ⟨rfl, chain2 HB1.out hb2⟩
  | true =>
    have G := Lib.hid (fun W => conv4 op a b c (HRI.out rfl).1 (HRI.out rfl).2.1 (HRI.out rfl).2.2.1 (HRI.out rfl).2.2.2 W)
    obtain ⟨⟨o0, o1⟩, ⟨a0, a1⟩, ⟨b0, b1⟩, ⟨c0, c1⟩⟩ := HRI.out rfl
    replace o0 : 0 ≤ op := o0
    replace o1 : op < 38 := o1
    replace a0 : 0 ≤ a := a0
    replace a1 : a ≤ 255 := a1
    replace b0 : 0 ≤ b := b0
    replace b1 : b ≤ 255 := b1
    replace c0 : 0 ≤ c := c0
    replace c1 : c ≤ 255 := c1
    have hv : V = [byteOf op, byteOf a, byteOf b, byteOf c] := HBL.out
    rw [← hv] at G
    clear HBL HRI hv
    go_enter Tryd.func9, Tryd.ntmps9
    go_wp2_with (first
      | (refine wpList_load_mid rfl 23 (.tmp 1) rfl w.heap.size 0 rfl (Ix.cells ⟨op, a, b, c⟩) _ HX.out.cells Tryd.underlying23 rfl HI.out ?_)
      | (go_at_call 11; refine RT.out.mono ?_; rintro e w2 ⟨rfl, hb2⟩; have HX2 := HX.out.later hb2; obtain ⟨k0, k1, k2, k3⟩ := HX2.at; simp only at k0 k1 k2 k3; have g := G.out w2))
    go_ret2
    exact ⟨rfl, (chain2 HB1.out hb2).alloc (Nat.le_trans HB1.out.size hb2.size) _⟩

end Go.Proofs.YtmljjpdodcpohaaDoor.In
