/- The walk of the law InstBuilds. No condition but that the table of formats lies where its variable is. -/
import Derived.Test.YtmljjpdodcpohaaDoorInR
namespace Go.Proofs.YtmljjpdodcpohaaDoor.In
open Go.RowKit Dk

/-- What the law's walk wants of a world: the instruction's block, the table. -/
structure SB (w W : World) (x : Ix) : Prop where
  ib : IB W w.heap.size x
  f : HasF W
  below : Below w.heap.size w W
theorem SB.later {w W W' : World} {x : Ix} (h : SB w W x) (k : Below W.heap.size W W') : SB w W' x := ⟨h.ib.later k, h.f.later k, chain2 h.below k⟩
theorem SB.at4 {w W : World} {op a b c : Int} (h : SB w W ⟨op, a, b, c⟩) : W.cell? ⟨w.heap.size, 0, none⟩ = some (.int .i64 op) ∧ W.cell? ⟨w.heap.size, 1, none⟩ = some (.int .i64 a) ∧ W.cell? ⟨w.heap.size, 2, none⟩ = some (.int .i64 b) ∧ W.cell? ⟨w.heap.size, 3, none⟩ = some (.int .i64 c) := h.ib.at

set_option maxHeartbeats 4000000 in
set_option maxRecDepth 100000 in
theorem instBuilds_law (x : Ix) (w : World) (HF : HasF w) : Calls Tryd.prog 3 #[.agg x.cells.toArray] w fun e w' => e = .returned (.bool true) ∧ Below w.heap.size w w' := by
  obtain ⟨W1, hW1⟩ : ∃ W1, W1 = w.alloc (.cells x.cells.toArray 23) := ⟨_, rfl⟩
  have HB1 : Below w.heap.size w W1 := by rw [hW1]; exact (Below.refl _ _).alloc (Nat.le_refl _) _
  have HS1 : Hid (SB w W1 x) := Lib.hid ⟨by rw [hW1]; exact ib_new w x _, HF.later HB1, HB1⟩
  have BA := Lib.hid (fun W h => build_any x W h)
  have BB := Lib.hid (fun W => rbuild_any x W)
  have RA := Lib.hid (fun W h => right_any x W h)
  have RB := Lib.hid (fun W => rright_any x W)
  have WA := Lib.hid (fun W h => wide_any x W h)
  have WB := Lib.hid (fun W => rwide_any x W)
  have SA := Lib.hid (fun W h => shape_any x.op W h)
  have SBB := Lib.hid (fun W => rshape_any x.op W)
  have NA := Lib.hid (fun W h => name_any x.op W h)
  have NB := Lib.hid (fun W => rname_any x.op W)
  have HR : Hid (∃ s er, (if rightB x then Value.tuple #[.string (strOf (buildL x)), .int .i64 0] else Value.tuple #[.string ⟨#[]⟩, .int .i64 4]) = .tuple #[.string s, .int .i64 er]) := Lib.hid (by
    cases rightB x with
    | true => exact ⟨_, _, rfl⟩
    | false => exact ⟨_, _, rfl⟩)
  obtain ⟨s, er, hse⟩ := HR.out
  rw [hse] at BA BB
  generalize rightB x = R at *
  generalize wideL x = V at *
  obtain ⟨op, a, b, c⟩ := x
  have hW2 : w.alloc (.cells #[.int .i64 op, .int .i64 a, .int .i64 b, .int .i64 c] 23) = W1 := hW1.symm
  show Calls _ _ #[.agg #[.int .i64 op, .int .i64 a, .int .i64 b, .int .i64 c]] w _
  replace RA : Hid (∀ W, HasF W → Calls Tryd.prog 10 #[.agg #[.int .i64 op, .int .i64 a, .int .i64 b, .int .i64 c]] W fun e w' => e = .returned (.bool R) ∧ Below W.heap.size W w') := RA
  replace RB : Hid (∀ W, Calls Tryd.prog 11 #[.agg #[.int .i64 op, .int .i64 a, .int .i64 b, .int .i64 c]] W fun e w' => e = .returned (.bool R) ∧ Below W.heap.size W w') := RB
  replace WA : Hid (∀ W, HasF W → Calls Tryd.prog 12 #[.agg #[.int .i64 op, .int .i64 a, .int .i64 b, .int .i64 c]] W fun e w' => e = .returned (.int .i64 V) ∧ Below W.heap.size W w') := WA
  replace WB : Hid (∀ W, Calls Tryd.prog 13 #[.agg #[.int .i64 op, .int .i64 a, .int .i64 b, .int .i64 c]] W fun e w' => e = .returned (.int .i64 V) ∧ Below W.heap.size W w') := WB
  replace SA : Hid (∀ W, HasF W → Calls Tryd.prog 14 #[.int .i64 op] W fun e w' => e = .returned (.string (strOf (shapeL op))) ∧ W = w') := SA
  replace SBB : Hid (∀ W, Calls Tryd.prog 15 #[.int .i64 op] W fun e w' => e = .returned (.string (strOf (shapeL op))) ∧ Below W.heap.size W w') := SBB
  replace NA : Hid (∀ W, HasF W → Calls Tryd.prog 16 #[.int .i64 op] W fun e w' => e = .returned (.string (strOf (nameL op))) ∧ W = w') := NA
  replace NB : Hid (∀ W, Calls Tryd.prog 17 #[.int .i64 op] W fun e w' => e = .returned (.string (strOf (nameL op))) ∧ Below W.heap.size W w') := NB
  generalize strOf (shapeL op) = sq at *
  generalize strOf (nameL op) = nq at *
  have e0 : (s.toList == s.toList) = true := by simp
  have e1 : (er == er) = true := by simp
  have e2 : (R == R) = true := by simp
  have e3 : (V == V) = true := by simp
  have e4 : (sq.toList == sq.toList) = true := by simp
  have e5 : (nq.toList == nq.toList) = true := by simp
  clear HF hW1 hse HR HB1
  go_enter Tryd.func3, Tryd.ntmps3
  go_wp2_with (first
    | (refine wpList_ld (e := ⟨op, a, b, c⟩) (by rfl) (.tmp 1) rfl w.heap.size rfl (SB.ib (Hid.out (by assumption))).cells ?_)
    | (go_at_call 8; refine (BA.out _ HS1.out.f).mono ?_; rintro e W2 ⟨rfl, hb⟩; have HS2 := Lib.hid (HS1.out.later hb); clear hb BA HS1)
    | (go_at_call 9; refine (BB.out _).mono ?_; rintro e W3 ⟨rfl, hb⟩; have HS3 := Lib.hid (HS2.out.later hb); clear hb BB HS2))
  have h0 : SB w W3.drew ⟨op, a, b, c⟩ := HS3.out.later ((Below.refl _ _).drew)
  have h1 : SB w W3 ⟨op, a, b, c⟩ := HS3.out
  go_region_held3 (fun W => W.cell? ⟨w.heap.size, 0, none⟩ = some (.int .i64 op) ∧ W.cell? ⟨w.heap.size, 1, none⟩ = some (.int .i64 a) ∧ W.cell? ⟨w.heap.size, 2, none⟩ = some (.int .i64 b) ∧ W.cell? ⟨w.heap.size, 3, none⟩ = some (.int .i64 c)) (first | exact SB.at4 (by assumption) | go_keep) (first
    | (go_at_call 10; (with_reducible refine (RA.out _ (SB.f (w := w) (x := ⟨op, a, b, c⟩) (by assumption))).mono ?_); rintro e W4 ⟨rfl, hb⟩; have hq := SB.later (w := w) (x := ⟨op, a, b, c⟩) (by assumption) hb; clear hb)
    | (go_at_call 11; (with_reducible refine (RB.out _).mono ?_); rintro e W4 ⟨rfl, hb⟩; have hq := SB.later (w := w) (x := ⟨op, a, b, c⟩) (by assumption) hb; clear hb)
    | (go_at_call 12; (with_reducible refine (WA.out _ (SB.f (w := w) (x := ⟨op, a, b, c⟩) (by assumption))).mono ?_); rintro e W4 ⟨rfl, hb⟩; have hq := SB.later (w := w) (x := ⟨op, a, b, c⟩) (by assumption) hb; clear hb)
    | (go_at_call 13; (with_reducible refine (WB.out _).mono ?_); rintro e W4 ⟨rfl, hb⟩; have hq := SB.later (w := w) (x := ⟨op, a, b, c⟩) (by assumption) hb; clear hb)
    | (go_at_call 15; (with_reducible refine (SBB.out _).mono ?_); rintro e W4 ⟨rfl, hb⟩; have hq := SB.later (w := w) (x := ⟨op, a, b, c⟩) (by assumption) hb; clear hb)
    | (go_at_call 17; (with_reducible refine (NB.out _).mono ?_); rintro e W4 ⟨rfl, hb⟩; have hq := SB.later (w := w) (x := ⟨op, a, b, c⟩) (by assumption) hb; clear hb)
    | (go_at_call 18; (with_reducible refine (known13 _ (SB.f (w := w) (x := ⟨op, a, b, c⟩) (by assumption))).mono ?_); rintro e W4 ⟨rfl, hb⟩; have hq := SB.later (w := w) (x := ⟨op, a, b, c⟩) (by assumption) hb; clear hb)
    | (go_at_call 14; (with_reducible refine (SA.out _ (SB.f (w := w) (x := ⟨op, a, b, c⟩) (by assumption))).mono ?_); rintro e W4 ⟨rfl, rfl⟩)
    | (go_at_call 16; (with_reducible refine (NA.out _ (SB.f (w := w) (x := ⟨op, a, b, c⟩) (by assumption))).mono ?_); rintro e W4 ⟨rfl, rfl⟩))
  go_wp2
  go_ret
  exact ⟨rfl, SB.below (x := ⟨op, a, b, c⟩) (by assumption)⟩

section
variable {H : Type} {enc : TypeId × Value → H} {w : World} {base : Nat} {spare : Nat → Bool} {held : Bool}
theorem instBuilds_raw {b0 : Nat} {v : Value} {d : DataW H} {p : List MemPlace}
    (hv : Value.okWide Tryd.prog w .any b0 23 v) (h : DataW.Trod enc Tryd.prog w base spare held 23 v d p) (HF : HasF w) :
    Calls Tryd.prog 3 #[v] w fun x w' => x = .returned (.bool true) ∧ Below w.heap.size w w' := by
  obtain ⟨x, rfl⟩ := open_inst hv h
  exact instBuilds_law x w HF
end

end Go.Proofs.YtmljjpdodcpohaaDoor.In
