/- A disk in memory; the walks of isValid, access, On and has: their contracts. No condition but those that each states. -/
import Derived.Test.YthddiijnomhpfaaDoorDkS
namespace Go.Proofs.YthddiijnomhpfaaDoor.Dk
open Go.RowKit

/-- The cells of the plan. -/
def planCells : Option (Nat × Nat) → List Value
  | none => [.bool false, .int .i64 0, .int .u64 0]
  | some (k, m) => [.bool true, .int .i64 (k : Int), .int .u64 (m : Int)]

/-- Block g is a disk in the state S: its blocks' bytes lie in gd, the map of the last writes is gm, vp is the slice of those that wait. -/
structure DiskIn (w : World) (g gd cd gm : Nat) (vp : Value) (S : DS) (D : DataW Unit) : Prop where
  room : w.there g 0 9
  self : w.cell? ⟨g, 0, none⟩ = some (.pointer (some ⟨g, 0, none⟩))
  on : w.cell? ⟨g, 1, none⟩ = some (.bool S.on)
  dur : w.cell? ⟨g, 2, none⟩ = some (.slice (some ⟨gd, 0, none⟩) S.L.length cd)
  pend : w.cell? ⟨g, 3, none⟩ = some vp
  last : w.cell? ⟨g, 4, none⟩ = some (.map (some gm))
  ops : w.cell? ⟨g, 5, none⟩ = some (.int .i64 (S.ops : Int))
  plan : w.rangeAt g 6 (planCells S.next)
  durs : w.rangeAt gd 0 (dcells S.L)
  room2 : w.there gd 0 (S.L.length * 64)
  cap : S.L.length ≤ cd ∧ cd ≤ maxLen
  row : w.ownsRow 0 114 65 vp S.W.length (wcells S.W)
  map : w.ownsMap Tryd.prog 3 (plainElem Tryd.prog 3) gm S.c D
  mapOk : MapOk D S.W
  ok : S.Ok
  lt : g < w.heap.size ∧ gd < w.heap.size ∧ gm < w.heap.size
  ne : g ≠ gd ∧ g ≠ gm ∧ gd ≠ gm
  nep : ∀ b, vp.ownBlock = some b → b < w.heap.size ∧ b ≠ g ∧ b ≠ gd ∧ b ≠ gm

/-- Block g is a disk in the state S; all its blocks are of F. -/
def DiskAt (w : World) (F : Nat → Prop) (g : Nat) (S : DS) : Prop :=
  ∃ gd cd gm vp D, DiskIn w g gd cd gm vp S D ∧ F g ∧ F gd ∧ F gm ∧ ∀ b, vp.ownBlock = some b → F b

theorem DiskIn.of_blocks {w w' : World} {g gd cd gm : Nat} {vp : Value} {S : DS} {D : DataW Unit} (h : DiskIn w g gd cd gm vp S D) (hg : w'.heap[g]? = w.heap[g]?) (hgd : w'.heap[gd]? = w.heap[gd]?) (hgm : w'.heap[gm]? = w.heap[gm]?)
    (hvp : ∀ b, vp.ownBlock = some b → w'.heap[b]? = w.heap[b]?) (hs : w.heap.size ≤ w'.heap.size) : DiskIn w' g gd cd gm vp S D := by
  have hc : ∀ o, w'.cell? ⟨g, o, none⟩ = w.cell? ⟨g, o, none⟩ := fun o => World.cell?_of_block (a := ⟨g, o, none⟩) hg
  obtain ⟨l1, l2, l3⟩ := h.lt
  exact ⟨there_block h.room hg, (hc _).trans h.self, (hc _).trans h.on, (hc _).trans h.dur, (hc _).trans h.pend, (hc _).trans h.last, (hc _).trans h.ops, rangeAt_block h.plan hg, rangeAt_block h.durs hgd, there_block h.room2 hgd, h.cap,
    ownsRow_block h.row hvp, ownsMap_block h.map hgm, h.mapOk, h.ok, ⟨by omega, by omega, by omega⟩, h.ne, fun b hb => ⟨by have := (h.nep b hb).1; omega, (h.nep b hb).2⟩⟩

theorem DiskAt.lt {w : World} {F : Nat → Prop} {g : Nat} {S : DS} (h : DiskAt w F g S) : g < w.heap.size := by
  obtain ⟨gd, cd, gm, vp, D, h, _⟩ := h; exact h.lt.1
theorem DiskAt.self {w : World} {F : Nat → Prop} {g : Nat} {S : DS} (h : DiskAt w F g S) : w.cell? ⟨g, 0, none⟩ = some (.pointer (some ⟨g, 0, none⟩)) := by
  obtain ⟨gd, cd, gm, vp, D, h, _⟩ := h; exact h.self
theorem DiskAt.on {w : World} {F : Nat → Prop} {g : Nat} {S : DS} (h : DiskAt w F g S) : w.cell? ⟨g, 1, none⟩ = some (.bool S.on) := by
  obtain ⟨gd, cd, gm, vp, D, h, _⟩ := h; exact h.on
theorem DiskAt.ok {w : World} {F : Nat → Prop} {g : Nat} {S : DS} (h : DiskAt w F g S) : S.Ok := by
  obtain ⟨gd, cd, gm, vp, D, h, _⟩ := h; exact h.ok
theorem DiskAt.in_F {w : World} {F : Nat → Prop} {g : Nat} {S : DS} (h : DiskAt w F g S) : F g := by
  obtain ⟨gd, cd, gm, vp, D, h, hF, _⟩ := h; exact hF

theorem DiskAt.mono {w : World} {F G : Nat → Prop} {g : Nat} {S : DS} (h : DiskAt w F g S) (hFG : ∀ k, F k → G k) : DiskAt w G g S := by
  obtain ⟨gd, cd, gm, vp, D, h, h1, h2, h3, h4⟩ := h
  exact ⟨gd, cd, gm, vp, D, h, hFG _ h1, hFG _ h2, hFG _ h3, fun b hb => hFG _ (h4 b hb)⟩

/-- Its blocks are such as lie there. -/
theorem DiskAt.tight {w : World} {F : Nat → Prop} {g : Nat} {S : DS} (h : DiskAt w F g S) : DiskAt w (fun k => F k ∧ k < w.heap.size) g S := by
  obtain ⟨gd, cd, gm, vp, D, h, h1, h2, h3, h4⟩ := h
  exact ⟨gd, cd, gm, vp, D, h, ⟨h1, h.lt.1⟩, ⟨h2, h.lt.2.1⟩, ⟨h3, h.lt.2.2⟩, fun b hb => ⟨h4 b hb, (h.nep b hb).1⟩⟩

/-- A disk stays what it is while other blocks are written. -/
theorem DiskAt.kept {w w' : World} {F G : Nat → Prop} {g : Nat} {S : DS} (h : DiskAt w F g S) (k : Only G w w') (hFG : ∀ i, F i → G i → False) : DiskAt w' F g S := by
  obtain ⟨gd, cd, gm, vp, D, h, h1, h2, h3, h4⟩ := h
  exact ⟨gd, cd, gm, vp, D, h.of_blocks (k.block _ h.lt.1 (hFG _ h1)) (k.block _ h.lt.2.1 (hFG _ h2)) (k.block _ h.lt.2.2 (hFG _ h3)) (fun b hb => k.block _ (h.nep b hb).1 (hFG _ (h4 b hb))) k.size, h1, h2, h3, h4⟩

theorem DiskAt.below {w w' : World} {F : Nat → Prop} {g : Nat} {S : DS} (h : DiskAt w F g S) (k : Below w.heap.size w w') : DiskAt w' F g S :=
  h.kept (G := fun _ => False) (Only.of_below k) (fun _ _ h => h)

theorem eql_self (a : Addr) (w : World) : (binOp .eql 35 (.pointer (some a)) (.pointer (some a))).run Tryd.prog w = .ok (.bool true) w := by
  obtain ⟨j, hj⟩ : ∃ j, Tryd.prog.info? 88 = some j := Option.isSome_iff_exists.1 (by kernel_rfl)
  exact run_eql_ptr_same w a Tryd.underlying35 hj

theorem eql_nil_left (a : Addr) (w : World) : (binOp .eql 35 (.pointer none) (.pointer (some a))).run Tryd.prog w = .ok (.bool false) w := by kernel_rfl

set_option maxHeartbeats 400000 in
theorem isValid_yes (g : Nat) (w : World) (h : w.cell? ⟨g, 0, none⟩ = some (.pointer (some ⟨g, 0, none⟩))) :
    Calls Tryd.prog 53 #[.pointer (some ⟨g, 0, none⟩)] w fun e w' => e = .returned (.bool true) ∧ w = w' := by
  have hq := eql_self
  have hr := eql_nil_left
  go_enter Tryd.func53, Tryd.ntmps53
  go_wp2
  go_ret
  exact ⟨rfl, rfl⟩

set_option maxHeartbeats 400000 in
theorem isValid_nil (w : World) :
    Calls Tryd.prog 53 #[.pointer none] w fun e w' => e = .returned (.bool false) ∧ w = w' := by
  have hq := eql_self
  have hr := eql_nil_left
  go_enter Tryd.func53, Tryd.ntmps53
  go_wp2
  go_ret
  exact ⟨rfl, rfl⟩

set_option maxHeartbeats 400000 in
theorem isValid_zero (g : Nat) (w : World) (h : w.cell? ⟨g, 0, none⟩ = some (.pointer none)) :
    Calls Tryd.prog 53 #[.pointer (some ⟨g, 0, none⟩)] w fun e w' => e = .returned (.bool false) ∧ w = w' := by
  have hq := eql_self
  have hr := eql_nil_left
  go_enter Tryd.func53, Tryd.ntmps53
  go_wp2
  go_ret
  exact ⟨rfl, rfl⟩

/-- A pointer that is no disk: nil, or to one whose first cell is nil. -/
def NoDisk (w : World) (p : Option Addr) : Prop := p = none ∨ ∃ g, p = some ⟨g, 0, none⟩ ∧ w.cell? ⟨g, 0, none⟩ = some (.pointer none)

theorem NoDisk.below {w w' : World} {B : Nat} {p : Option Addr} (h : NoDisk w p) (k : Below B w w') (hp : ∀ a, p = some a → a.block < B) : NoDisk w' p := by
  rcases h with h | ⟨g, h1, h2⟩
  · exact .inl h
  · exact .inr ⟨g, h1, (k.cell (p := ⟨g, 0, none⟩) (hp _ h1)).trans h2⟩

theorem isValid_no (p : Option Addr) (w : World) (h : NoDisk w p) :
    Calls Tryd.prog 53 #[.pointer p] w fun e w' => e = .returned (.bool false) ∧ w = w' := by
  rcases h with rfl | ⟨g, rfl, h⟩
  · exact isValid_nil w
  · exact isValid_zero g w h

set_option maxHeartbeats 400000 in
theorem on_yes (g : Nat) (b : Bool) (w : World) (h : w.cell? ⟨g, 0, none⟩ = some (.pointer (some ⟨g, 0, none⟩))) (hb : w.cell? ⟨g, 1, none⟩ = some (.bool b)) :
    Calls Tryd.prog 54 #[.pointer (some ⟨g, 0, none⟩)] w fun e w' => e = .returned (.bool b) ∧ w = w' := by
  go_enter Tryd.func54, Tryd.ntmps54
  go_wp2_with (go_at_call 53; refine (isValid_yes _ _ h).mono ?_; rintro e w' ⟨rfl, rfl⟩)
  go_ret
  exact ⟨rfl, rfl⟩

set_option maxHeartbeats 400000 in
theorem on_no (p : Option Addr) (w : World) (h : NoDisk w p) :
    Calls Tryd.prog 54 #[.pointer p] w fun e w' => e = .returned (.bool false) ∧ w = w' := by
  go_enter Tryd.func54, Tryd.ntmps54
  go_wp2_with (go_at_call 53; refine (isValid_no _ _ h).mono ?_; rintro e w' ⟨rfl, rfl⟩)
  go_ret
  exact ⟨rfl, rfl⟩

def accErr (b : Bool) : Int := if b then 0 else 7

set_option maxHeartbeats 400000 in
theorem access_yes (g : Nat) (b : Bool) (w : World) (h : w.cell? ⟨g, 0, none⟩ = some (.pointer (some ⟨g, 0, none⟩))) (hb : w.cell? ⟨g, 1, none⟩ = some (.bool b)) :
    Calls Tryd.prog 46 #[.pointer (some ⟨g, 0, none⟩)] w fun e w' => e = .returned (.int .i64 (accErr b)) ∧ w = w' := by
  cases b
  all_goals
    go_enter Tryd.func46, Tryd.ntmps46
    go_wp2_with (go_at_call 53; refine (isValid_yes _ _ h).mono ?_; rintro e w' ⟨rfl, rfl⟩)
    go_ret
    exact ⟨rfl, rfl⟩

set_option maxHeartbeats 400000 in
theorem access_no (p : Option Addr) (w : World) (h : NoDisk w p) :
    Calls Tryd.prog 46 #[.pointer p] w fun e w' => e = .returned (.int .i64 16) ∧ w = w' := by
  go_enter Tryd.func46, Tryd.ntmps46
  go_wp2_with (go_at_call 53; refine (isValid_no _ _ h).mono ?_; rintro e w' ⟨rfl, rfl⟩)
  go_ret
  exact ⟨rfl, rfl⟩

/-- Is there such a block? -/
def hasB (i : Int) (n : Nat) : Bool := decide (0 ≤ i ∧ i < n)

set_option maxHeartbeats 400000 in
theorem has_any (g n c : Nat) (i : Int) (a : Option Addr) (w : World) (hb : w.cell? ⟨g, 2, none⟩ = some (.slice a n c)) :
    Calls Tryd.prog 47 #[.pointer (some ⟨g, 0, none⟩), .int .i64 i] w fun e w' => e = .returned (.bool (hasB i n)) ∧ w = w' := by
  by_cases h0 : 0 ≤ i
  · by_cases h1 : i < n
    · have e : Hid (hasB i n = true) := Lib.hid (decide_eq_true ⟨h0, h1⟩)
      have t0 : decide ((0 : Int) ≤ i) = true := decide_eq_true h0
      have t1 : decide (i < (n : Int)) = true := decide_eq_true h1
      go_enter Tryd.func47, Tryd.ntmps47
      go_wp2
      go_ret
      exact ⟨by rw [e.out]; rfl, rfl⟩
    · have e : Hid (hasB i n = false) := Lib.hid (decide_eq_false (fun h => h1 h.2))
      have t0 : decide ((0 : Int) ≤ i) = true := decide_eq_true h0
      have t1 : decide (i < (n : Int)) = false := decide_eq_false h1
      go_enter Tryd.func47, Tryd.ntmps47
      go_wp2
      go_ret
      exact ⟨by rw [e.out]; rfl, rfl⟩
  · have e : Hid (hasB i n = false) := Lib.hid (decide_eq_false (fun h => h0 h.1))
    have t0 : decide ((0 : Int) ≤ i) = false := decide_eq_false h0
    go_enter Tryd.func47, Tryd.ntmps47
    go_wp2
    go_ret
    exact ⟨by rw [e.out]; rfl, rfl⟩

end Go.Proofs.YthddiijnomhpfaaDoor.Dk
