/- A store in memory; the walks of isValid, Odd, Waits, Text, otherSlot and nothing: their contracts. A store beside a disk; the walks of takePending and log: their contracts. The walk of takePending: its contracts. The walk of a store's log: its contract. No condition but those that each states. -/
import Derived.Test.YtkplmaaeggnbgaaDoorStR
import Derived.Test.YtkplmaaeggnbgaaDoorRgCH
namespace Go.Proofs.YtkplmaaeggnbgaaDoor.St
open Go.RowKit Dk Rg Sl

/-- A store's seven cells. -/
def scells (s g p : Nat) (X : StS) : List Value :=
  X.sv.cells ++ [.pointer (if X.pend.isSome = true then some ⟨p, 0, none⟩ else none), .bool X.odd, .pointer (some ⟨g, 0, none⟩), .pointer (some ⟨s, 0, none⟩)]

theorem scells_length (s g p : Nat) (X : StS) : (scells s g p X).length = 7 := rfl

/-- Block s is a store over the disk at block g; what is pending lies in block p. -/
structure StoAt (w : World) (s g p : Nat) (X : StS) : Prop where
  row : w.rangeAt s 0 (scells s g p X)
  room : w.there s 0 7
  lt : s < w.heap.size
  pend : ∀ q, X.pend = some q → w.rangeAt p 0 q.cells ∧ p < w.heap.size ∧ p ≠ s

section
variable {w w' : World} {s g p : Nat} {X : StS}
theorem StoAt.cell (h : StoAt w s g p X) {i : Nat} {v : Value} (hv : (scells s g p X)[i]? = some v) : w.cell? ⟨s, i, none⟩ = some v := by
  have := h.row i v hv; rwa [Nat.zero_add] at this
theorem StoAt.free (h : StoAt w s g p X) (i : Nat) (hi : i < 7) : w.frozen? ⟨s, i, none⟩ = false := by
  have := (h.room i hi).2; rwa [Nat.zero_add] at this
theorem StoAt.of_blocks (h : StoAt w s g p X) (hb : w'.heap[s]? = w.heap[s]?) (hp : ∀ q, X.pend = some q → w'.heap[p]? = w.heap[p]?) (hs : w.heap.size ≤ w'.heap.size) : StoAt w' s g p X :=
  ⟨rangeAt_block h.row hb, there_block h.room hb, Nat.lt_of_lt_of_le h.lt hs, fun q hq => ⟨rangeAt_block (h.pend q hq).1 (hp q hq), Nat.lt_of_lt_of_le (h.pend q hq).2.1 hs, (h.pend q hq).2.2⟩⟩
theorem StoAt.later (h : StoAt w s g p X) (k : Below w.heap.size w w') : StoAt w' s g p X := h.of_blocks (k.block s h.lt) (fun q hq => k.block p (h.pend q hq).2.1) k.size
theorem StoAt.only {G : Nat → Prop} (h : StoAt w s g p X) (k : Only G w w') (hs : ¬G s) (hp : X.pend.isSome = true → ¬G p) : StoAt w' s g p X :=
  h.of_blocks (k.block s h.lt hs) (fun q hq => k.block p (h.pend q hq).2.1 (hp (by rw [hq]; rfl))) k.size

theorem StoAt.self (h : StoAt w s g p X) : w.cell? ⟨s, 6, none⟩ = some (.pointer (some ⟨s, 0, none⟩)) := h.cell rfl

/-- A cell is written. -/
theorem StoAt.put (h : StoAt w s g p X) (i : Nat) (hi : i < 7) (v : Value) {Y : StS} {p' : Nat} (hY : scells s g p' Y = (scells s g p X).set i v) (hp : ∀ q, Y.pend = some q → w.rangeAt p' 0 q.cells ∧ p' < w.heap.size ∧ p' ≠ s) : StoAt (w.setCell ⟨s, i, none⟩ v) s g p' Y := by
  refine ⟨fun j u hu => ?_, there_setCell h.room _ _, by simpa using h.lt, fun q hq => ?_⟩
  · rw [hY] at hu
    rw [Nat.zero_add]
    by_cases e : j = i
    · subst e
      have hl : j < (scells s g p X).length := by rw [scells_length]; exact hi
      rw [List.getElem?_set_self hl] at hu
      cases hu
      exact World.cell?_setCell_same _ _ _ (h.cell (List.getElem?_eq_getElem hl))
    · rw [World.cell?_setCell_other _ _ _ _ (by intro e'; simp at e'; first | done | exact e e'.symm)]
      rw [List.getElem?_set_ne (fun x => e x.symm)] at hu
      exact h.cell hu
  · obtain ⟨h1, h2, h3⟩ := hp q hq
    refine ⟨fun j u hu => ?_, by simpa using h2, h3⟩
    rw [World.cell?_setCell_other _ _ _ _ (by intro e'; simp at e'; first | done | exact h3 e'.1.symm)]
    exact h1 j u hu
end

theorem eql_sto (a : Addr) (w : World) : (binOp .eql 75 (.pointer (some a)) (.pointer (some a))).run Tryd.prog w = .ok (.bool true) w := by
  obtain ⟨j, hj⟩ : ∃ j, Tryd.prog.info? 91 = some j := Option.isSome_iff_exists.1 (by kernel_rfl)
  exact run_eql_ptr_same w a Tryd.underlying75 hj
theorem eql_sto_nil (a : Addr) (w : World) : (binOp .eql 75 (.pointer none) (.pointer (some a))).run Tryd.prog w = .ok (.bool false) w := by kernel_rfl

set_option maxHeartbeats 400000 in
theorem valid_yes (s : Nat) (w : World) (h : w.cell? ⟨s, 6, none⟩ = some (.pointer (some ⟨s, 0, none⟩))) :
    Calls Tryd.prog 74 #[.pointer (some ⟨s, 0, none⟩)] w fun e w' => e = .returned (.bool true) ∧ w = w' := by
  have hq := eql_sto
  have hr := eql_sto_nil
  go_enter Tryd.func74, Tryd.ntmps74
  go_wp2
  go_ret
  exact ⟨rfl, rfl⟩

set_option maxHeartbeats 400000 in
theorem valid_nil (w : World) :
    Calls Tryd.prog 74 #[.pointer none] w fun e w' => e = .returned (.bool false) ∧ w = w' := by
  have hq := eql_sto
  have hr := eql_sto_nil
  go_enter Tryd.func74, Tryd.ntmps74
  go_wp2
  go_ret
  exact ⟨rfl, rfl⟩

set_option maxHeartbeats 400000 in
theorem valid_zero (s : Nat) (w : World) (h : w.cell? ⟨s, 6, none⟩ = some (.pointer none)) :
    Calls Tryd.prog 74 #[.pointer (some ⟨s, 0, none⟩)] w fun e w' => e = .returned (.bool false) ∧ w = w' := by
  have hq := eql_sto
  have hr := eql_sto_nil
  go_enter Tryd.func74, Tryd.ntmps74
  go_wp2
  go_ret
  exact ⟨rfl, rfl⟩

/-- A pointer that is no store: nil, or to one whose last cell is nil. -/
def NoSto (w : World) (p : Option Addr) : Prop := p = none ∨ ∃ s, p = some ⟨s, 0, none⟩ ∧ w.cell? ⟨s, 6, none⟩ = some (.pointer none)

theorem NoSto.below {w w' : World} {p : Option Addr} (h : NoSto w p) (k : Below w.heap.size w w') (hp : ∀ a, p = some a → a.block < w.heap.size) : NoSto w' p := by
  rcases h with h | ⟨g, h1, h2⟩
  · exact .inl h
  · exact .inr ⟨g, h1, (World.cell?_of_block (a := ⟨g, 6, none⟩) (k.block g (hp _ h1))).trans h2⟩

theorem valid_no (p : Option Addr) (w : World) (h : NoSto w p) :
    Calls Tryd.prog 74 #[.pointer p] w fun e w' => e = .returned (.bool false) ∧ w = w' := by
  rcases h with rfl | ⟨g, rfl, h⟩
  · exact valid_nil w
  · exact valid_zero g w h

section
variable {s g p : Nat} {X : StS}

set_option maxHeartbeats 400000 in
theorem odd_yes (w : World) (h : StoAt w s g p X) :
    Calls Tryd.prog 41 #[.pointer (some ⟨s, 0, none⟩)] w fun e w' => e = .returned (.bool X.odd) ∧ w = w' := by
  have c4 : w.cell? ⟨s, 4, none⟩ = some (.bool X.odd) := h.cell rfl
  have HS := Lib.hid h.self
  clear h
  go_enter Tryd.func41, Tryd.ntmps41
  go_wp2_with (go_at_call 74; refine (valid_yes _ _ HS.out).mono ?_; rintro e w' ⟨rfl, rfl⟩)
  go_ret
  exact ⟨rfl, rfl⟩

set_option maxHeartbeats 400000 in
theorem odd_no (p : Option Addr) (w : World) (h : NoSto w p) :
    Calls Tryd.prog 41 #[.pointer p] w fun e w' => e = .returned (.bool false) ∧ w = w' := by
  go_enter Tryd.func41, Tryd.ntmps41
  go_wp2_with (go_at_call 74; refine (valid_no _ _ h).mono ?_; rintro e w' ⟨rfl, rfl⟩)
  go_ret
  exact ⟨rfl, rfl⟩

set_option maxHeartbeats 400000 in
theorem waits_yes (w : World) (h : StoAt w s g p X) :
    Calls Tryd.prog 43 #[.pointer (some ⟨s, 0, none⟩)] w fun e w' => e = .returned (.bool X.pend.isSome) ∧ w = w' := by
  have c3 : w.cell? ⟨s, 3, none⟩ = some (.pointer (if X.pend.isSome = true then some ⟨p, 0, none⟩ else none)) := h.cell rfl
  have HS := Lib.hid h.self
  clear h
  cases hp : X.pend.isSome with
  | true =>
    rw [if_pos hp] at c3
    go_enter Tryd.func43, Tryd.ntmps43
    go_wp2_with (go_at_call 74; refine (valid_yes _ _ HS.out).mono ?_; rintro e w' ⟨rfl, rfl⟩)
    go_ret
    exact ⟨rfl, rfl⟩
  | false =>
    rw [if_neg (by rw [hp]; decide)] at c3
    go_enter Tryd.func43, Tryd.ntmps43
    go_wp2_with (go_at_call 74; refine (valid_yes _ _ HS.out).mono ?_; rintro e w' ⟨rfl, rfl⟩)
    go_ret
    exact ⟨rfl, rfl⟩

set_option maxHeartbeats 400000 in
theorem waits_no (p : Option Addr) (w : World) (h : NoSto w p) :
    Calls Tryd.prog 43 #[.pointer p] w fun e w' => e = .returned (.bool false) ∧ w = w' := by
  go_enter Tryd.func43, Tryd.ntmps43
  go_wp2_with (go_at_call 74; refine (valid_no _ _ h).mono ?_; rintro e w' ⟨rfl, rfl⟩)
  go_ret
  exact ⟨rfl, rfl⟩

set_option maxHeartbeats 400000 in
theorem text_yes (w : World) (h : StoAt w s g p X) :
    Calls Tryd.prog 42 #[.pointer (some ⟨s, 0, none⟩)] w fun e w' => e = .returned (.tuple #[.string X.sv.view.1, .bool X.sv.view.2]) ∧ w = w' := by
  have c0 : w.cell? ⟨s, 0, none⟩ = some (.int .i64 X.sv.slot) := h.cell rfl
  have c1 : w.cell? ⟨s, 1, none⟩ = some (.string X.sv.text) := h.cell rfl
  have HS := Lib.hid h.self
  clear h
  unfold Sv.view
  generalize X.sv.text = t at *
  generalize X.sv.slot = n at *
  by_cases hp : n = 2
  · subst hp
    rw [if_pos rfl]
    go_enter Tryd.func42, Tryd.ntmps42
    go_wp2_with (go_at_call 74; refine (valid_yes _ _ HS.out).mono ?_; rintro e w' ⟨rfl, rfl⟩)
    go_ret2
    exact ⟨rfl, rfl⟩
  · have t1 : decide (n = 2) = false := decide_eq_false hp
    have t2 : (n == 2) = false := by simpa using hp
    rw [if_neg hp]
    go_enter Tryd.func42, Tryd.ntmps42
    go_wp2_with (go_at_call 74; refine (valid_yes _ _ HS.out).mono ?_; rintro e w' ⟨rfl, rfl⟩)
    go_ret2
    exact ⟨rfl, rfl⟩

set_option maxHeartbeats 400000 in
theorem text_no (p : Option Addr) (w : World) (h : NoSto w p) :
    Calls Tryd.prog 42 #[.pointer p] w fun e w' => e = .returned (.tuple #[.string ⟨#[]⟩, .bool false]) ∧ w = w' := by
  go_enter Tryd.func42, Tryd.ntmps42
  go_wp2_with (go_at_call 74; refine (valid_no _ _ h).mono ?_; rintro e w' ⟨rfl, rfl⟩)
  go_ret2
  exact ⟨rfl, rfl⟩

set_option maxHeartbeats 400000 in
theorem other_any (w : World) (h : StoAt w s g p X) :
    Calls Tryd.prog 75 #[.pointer (some ⟨s, 0, none⟩)] w fun e w' => e = .returned (.int .i64 X.sv.other) ∧ w = w' := by
  have c0 : w.cell? ⟨s, 0, none⟩ = some (.int .i64 X.sv.slot) := h.cell rfl
  clear h
  unfold Sv.other
  generalize X.sv.slot = n at *
  by_cases hp : n = 0
  · subst hp
    rw [if_pos rfl]
    go_enter Tryd.func75, Tryd.ntmps75
    go_wp2
    go_ret
    exact ⟨rfl, rfl⟩
  · have t1 : decide (n = 0) = false := decide_eq_false hp
    have t2 : (n == 0) = false := by simpa using hp
    rw [if_neg hp]
    go_enter Tryd.func75, Tryd.ntmps75
    go_wp2
    go_ret
    exact ⟨rfl, rfl⟩
end

/-! a saved text in a block -/
structure VB (W : World) (B : Nat) (q : Sv) : Prop where
  cells : W.rangeAt B 0 q.cells
  room : W.there B 0 3
  lt : B < W.heap.size

section
variable {W W' : World} {B : Nat} {q : Sv}
theorem VB.of_block (h : VB W B q) (hb : W'.heap[B]? = W.heap[B]?) (hs : W.heap.size ≤ W'.heap.size) : VB W' B q := ⟨rangeAt_block h.cells hb, there_block h.room hb, Nat.lt_of_lt_of_le h.lt hs⟩
theorem VB.later (h : VB W B q) (k : Below W.heap.size W W') : VB W' B q := h.of_block (k.block B h.lt) k.size
theorem VB.only {G : Nat → Prop} (h : VB W B q) (k : Only G W W') (hG : ¬G B) : VB W' B q := h.of_block (k.block B h.lt hG) k.size
theorem vb_new (W : World) (q : Sv) (t : TypeId) : VB (W.alloc (.cells q.cells.toArray t)) W.heap.size q := ⟨range_new W q.cells t, there_new W q.cells.toArray t, by simp⟩
theorem VB.set (h : VB W B q) (r : Sv) : VB (W.setCells B 0 r.cells.toArray.toList) B r :=
  ⟨World.rangeAt_setCells_same W B 0 r.cells h.room, World.there_setCells h.room _ _ _, by rw [Dk.size_setCells]; exact h.lt⟩
theorem VB.c0 (h : VB W B q) : W.cell? ⟨B, 0, none⟩ = some (.int .i64 q.slot) := by have := h.cells 0 _ rfl; rwa [Nat.zero_add] at this
theorem VB.c1 (h : VB W B q) : W.cell? ⟨B, 1, none⟩ = some (.string q.text) := by have := h.cells 1 _ rfl; rwa [Nat.zero_add] at this
theorem VB.c2 (h : VB W B q) : W.cell? ⟨B, 2, none⟩ = some (.string (strOf q.sum)) := by have := h.cells 2 _ rfl; rwa [Nat.zero_add] at this
end
theorem v_one (q : Sv) : ∀ u ∈ q.cells, u.oneCell' = true := by
  intro u hu
  simp [Sv.cells] at hu
  rcases hu with rfl | rfl | rfl <;> rfl
theorem v_all (q : Sv) : q.cells.toArray.all (·.oneCell') = true := all_oneCell_toArray (v_one q)
theorem v_info (q : Sv) : (Tryd.prog.info? 88).map (·.size) = some q.cells.length := by kernel_rfl
theorem v_infoA (q : Sv) : (Tryd.prog.info? 88).map (·.size) = some q.cells.toArray.size := v_info q

theorem vb_room (W : World) : (W.alloc (.cells #[.int .i64 0, .string ⟨#[]⟩, .string ⟨#[]⟩] 88)).there W.heap.size 0 3 := there_new W _ _
theorem vb_put (W : World) (q : Sv) : VB ((W.alloc (.cells #[.int .i64 0, .string ⟨#[]⟩, .string ⟨#[]⟩] 88)).setCells W.heap.size 0 q.cells.toArray.toList) W.heap.size q ∧
    Below W.heap.size W ((W.alloc (.cells #[.int .i64 0, .string ⟨#[]⟩, .string ⟨#[]⟩] 88)).setCells W.heap.size 0 q.cells.toArray.toList) :=
  ⟨⟨World.rangeAt_setCells_same _ _ _ q.cells (vb_room W), World.there_setCells (vb_room W) _ _ _, by rw [Dk.size_setCells]; simp⟩, below_setCells (Below.refl _ _) _ (Nat.le_refl _) _ _ _ ((Below.refl _ _).alloc (Nat.le_refl _) _)⟩

set_option maxHeartbeats 400000 in
set_option maxRecDepth 100000 in
theorem nothing_any (w : World) :
    Calls Tryd.prog 72 #[] w fun e w' => e = .returned (.agg Sv.no.cells.toArray) ∧ Below w.heap.size w w' := by
  have HZ : Hid ((w.alloc (.cells #[.int .i64 0, .string ⟨#[]⟩, .string ⟨#[]⟩] 88)).there w.heap.size 0 3) := Lib.hid (vb_room w)
  have HB0 : Hid (Below w.heap.size w (w.alloc (.cells #[.int .i64 0, .string ⟨#[]⟩, .string ⟨#[]⟩] 88))) := Lib.hid ((Below.refl _ _).alloc (Nat.le_refl _) _)
  go_enter Tryd.func72, Tryd.ntmps72
  go_wp2_with fail
  refine (repeat_zero _).mono ?_
  rintro e w1 ⟨rfl, hb⟩
  have HB1 := Lib.hid (chain2 HB0.out hb)
  have HZ1 : Hid (w1.there w.heap.size 0 3) := Lib.hid (there_block HZ.out (hb.block _ (by simp)))
  have hlt : w.heap.size < w1.heap.size := Nat.lt_of_lt_of_le (by simp) hb.size
  have HV : Hid (VB (w1.setCells w.heap.size 0 Sv.no.cells.toArray.toList) w.heap.size Sv.no ∧ Below w.heap.size w (w1.setCells w.heap.size 0 Sv.no.cells.toArray.toList)) :=
    Lib.hid ⟨⟨World.rangeAt_setCells_same _ _ _ _ HZ1.out, World.there_setCells HZ1.out _ _ _, by rw [Dk.size_setCells]; exact hlt⟩, below_setCells HB1.out _ (Nat.le_refl _) _ _ _ HB1.out⟩
  clear hb HB0 HZ HB1
  go_wp2_with (first
    | (refine wpList_store_mid rfl 88 (.tmp 0) (.tmp 2) rfl w.heap.size 0 Sv.no.cells.toArray rfl rfl HZ1.out (v_infoA _) (v_all _) ?_; generalize World.setCells _ _ _ _ = W2 at HV ⊢))
  refine bodyPost_ret (results_cell1 rfl _ _ rfl HV.out.1.cells Tryd.underlying88 rfl (v_info _)) rfl ?_
  exact ⟨rfl, HV.out.2⟩

end Go.Proofs.YtkplmaaeggnbgaaDoor.St
namespace Go.Proofs.YtkplmaaeggnbgaaDoor.St
open Go.RowKit Dk Rg Sl

/-- A store and its disk since a world; none of P's blocks is theirs. -/
structure StoP (w0 w : World) (P : Nat → Prop) (s g p : Nat) (S : DS) (X : StS) : Prop where
  solo : Solo w0 w (fun k => P k ∨ k = s ∨ (X.pend.isSome = true ∧ k = p)) g S
  sto : StoAt w s g p X
  lo : w0.heap.size ≤ s
  ns : ¬P s
  np : X.pend.isSome = true → ¬P p

section
variable {w0 w w' : World} {P D : Nat → Prop} {s g p : Nat} {S S' : DS} {X : StS}
theorem StoP.lt (h : StoP w0 w P s g p S X) : ∀ k, P k → k < w.heap.size := by obtain ⟨F, -, -, -, h⟩ := h.solo; exact fun k hk => (h k (.inl hk)).1
theorem StoP.below (h : StoP w0 w P s g p S X) : Below w0.heap.size w0 w := h.solo.below
theorem StoP.later (h : StoP w0 w P s g p S X) (k : Below w.heap.size w w') : StoP w0 w' P s g p S X := ⟨h.solo.later k, h.sto.later k, h.lo, h.ns, h.np⟩
theorem StoP.less (h : StoP w0 w P s g p S X) (hPD : ∀ k, D k → P k) : StoP w0 w D s g p S X :=
  ⟨h.solo.less (fun k hk => hk.elim (fun e => .inl (hPD k e)) .inr), h.sto, h.lo, fun e => h.ns (hPD _ e), fun e e2 => h.np e (hPD _ e2)⟩
theorem StoP.fresh (h : StoP w0 w P s g p S X) (k : Below w.heap.size w w') (hD : ∀ i, D i → w.heap.size ≤ i ∧ i < w'.heap.size) : StoP w0 w' (fun i => P i ∨ D i) s g p S X :=
  ⟨(h.solo.fresh k hD).less (fun i hi => by rcases hi with (e | e) | e; exact .inl (.inl e); exact .inr e; exact .inl (.inr e)), h.sto.later k, h.lo,
    fun e => e.elim h.ns (fun e => absurd h.sto.lt (Nat.not_lt.2 (hD _ e).1)),
    fun e e2 => e2.elim (h.np e) (fun e3 => by
      obtain ⟨q, hq⟩ := Option.isSome_iff_exists.1 e
      exact absurd (h.sto.pend q hq).2.1 (Nat.not_lt.2 (hD _ e3).1))⟩
/-- What is written into P's blocks is nothing to them. -/
theorem StoP.wrote {G : Nat → Prop} (h : StoP w0 w P s g p S X) (k : Only G w w') (hG : ∀ i, G i → P i ∧ w0.heap.size ≤ i) : StoP w0 w' P s g p S X :=
  ⟨solo_wrote h.solo k (fun i hi => ⟨.inl (hG i hi).1, (hG i hi).2⟩), h.sto.only k (fun e => h.ns (hG _ e).1) (fun e e2 => h.np e (hG _ e2).1), h.lo, h.ns, h.np⟩
theorem StoP.step {f : Nat} {args : Array Value} {Ans : Ending → Prop} (h : StoP w0 w P s g p S X) (C : ∀ F, DiskAt w F g S → (∀ k, F k → w0.heap.size ≤ k) → Calls Tryd.prog f args w fun e w' => Ans e ∧ DiskAt w' (More F w) g S' ∧ Only F w w') :
    Calls Tryd.prog f args w fun e w' => Ans e ∧ StoP w0 w' P s g p S' X ∧ Only (fun k => ¬P k) w w' :=
  (h.solo.step C).mono fun _ _ ⟨a, b, c⟩ => ⟨a, ⟨b, h.sto.only c (fun e => e (.inr (.inl rfl))) (fun e e2 => e2 (.inr (.inr ⟨e, rfl⟩))), h.lo, h.ns, h.np⟩, c.mono (fun _ e e2 => e (.inl e2))⟩

theorem only_s (h : ¬P s) (i : Nat) (v : Value) : Only (fun k => ¬P k) w (w.setCell ⟨s, i, none⟩ v) := (Only.refl (fun k => ¬P k) w).setCell ⟨s, i, none⟩ h v

theorem scells_give (s g p : Nat) (X : StS) : scells s g p X.give = (scells s g p X).set 3 (.pointer none) := rfl
theorem StoP.give (h : StoP w0 w P s g p S X) : StoP w0 (w.setCell ⟨s, 3, none⟩ (.pointer none)) P s g p S X.give :=
  ⟨(solo_wrote h.solo (G := fun k => k = s) ((Only.refl (fun k => k = s) w).setCell ⟨s, 3, none⟩ rfl _) (fun i hi => by subst hi; exact ⟨.inr (.inl rfl), h.lo⟩)).less (fun i hi => by rcases hi with e | e | ⟨e, _⟩; exact .inl e; exact .inr (.inl e); cases e),
    h.sto.put 3 (by decide) _ (scells_give s g p X) (fun q hq => by cases hq), h.lo, h.ns, fun e => by cases e⟩

theorem StoP.pending (h : StoP w0 w P s g p S X) (k : Below w.heap.size w w') {p' : Nat} {q : Sv} (hp : w.heap.size ≤ p') (hv : VB w' p' q) :
    StoP w0 (w'.setCell ⟨s, 3, none⟩ (.pointer (some ⟨p', 0, none⟩))) P s g p' S { X with pend := some q } := by
  have hne : p' ≠ s := fun e => absurd h.sto.lt (Nat.not_lt.2 (e ▸ hp))
  have h2 := h.solo.fresh (D := fun i => i = p') k (fun i hi => by subst hi; exact ⟨hp, hv.lt⟩)
  refine ⟨(solo_wrote h2 (G := fun k => k = s) ((Only.refl (fun k => k = s) w').setCell ⟨s, 3, none⟩ rfl _) (fun i hi => by subst hi; exact ⟨.inl (.inr (.inl rfl)), h.lo⟩)).less (fun i hi => by
      rcases hi with e | e | ⟨_, e⟩
      · exact .inl (.inl e)
      · exact .inl (.inr (.inl e))
      · exact .inr e), (h.sto.later k).put 3 (by decide) _ rfl (fun r hr => by cases hr; exact ⟨hv.cells, hv.lt, hne⟩), h.lo, h.ns, fun _ e => absurd (h.lt p' e) (Nat.not_lt.2 hp)⟩

theorem StoP.calm (h : StoP w0 w P s g p S X) : StoP w0 (w.setCell ⟨s, 4, none⟩ (.bool false)) P s g p S { X with odd := false } :=
  ⟨solo_wrote h.solo (G := fun k => k = s) ((Only.refl (fun k => k = s) w).setCell ⟨s, 4, none⟩ rfl _) (fun i hi => by subst hi; exact ⟨.inr (.inl rfl), h.lo⟩),
    h.sto.put 4 (by decide) _ rfl (fun q hq => h.sto.pend q hq), h.lo, h.ns, h.np⟩

theorem StoP.saved (h : StoP w0 w P s g p S X) (q : Sv) : StoP w0 (w.setCells s 0 q.cells.toArray.toList) P s g p S { X with sv := q } := by
  have ho : Only (fun k => k = s) w (w.setCells s 0 q.cells.toArray.toList) := Only.setCells (F := fun k => k = s) s rfl _ 0 w (Only.refl _ _)
  refine ⟨solo_wrote h.solo ho (fun i hi => by subst hi; exact ⟨.inr (.inl rfl), h.lo⟩), ?_, h.lo, h.ns, h.np⟩
  have hr : w.rangeAt s 0 (X.sv.cells ++ (scells s g p X).drop 3) := h.sto.row
  have h1 : (w.setCells s 0 q.cells.toArray.toList).rangeAt s 0 q.cells := World.rangeAt_setCells_same _ _ _ _ (fun j hj => h.sto.room j (by have e3 : q.cells.toArray.toList.length = 3 := rfl; omega))
  have h2 : (w.setCells s 0 q.cells.toArray.toList).rangeAt s (0 + 3) ((scells s g p X).drop 3) := World.rangeAt_setCells_apart (rangeAt_right (xs := X.sv.cells) (n := 3) hr rfl) _ _ _ (.inr (.inr (Nat.le_refl _)))
  exact ⟨rangeAt_add h1 h2, World.there_setCells h.sto.room _ _ _, by rw [Dk.size_setCells]; exact h.sto.lt, fun r hr => by
    obtain ⟨a, b, c⟩ := h.sto.pend r hr
    exact ⟨rangeAt_block a (ho.block p b c), by rw [Dk.size_setCells]; exact b, c⟩⟩
end

end Go.Proofs.YtkplmaaeggnbgaaDoor.St
namespace Go.Proofs.YtkplmaaeggnbgaaDoor.St
open Go.RowKit Dk Rg Sl

def Sv.zero : Sv := ⟨0, ⟨#[]⟩, []⟩

theorem vb_set {w W : World} {B : Nat} {q r : Sv} (hv : VB W B q) (hb : Below w.heap.size w W) (hB : w.heap.size ≤ B) : VB (W.setCells B 0 r.cells.toArray.toList) B r ∧ Below w.heap.size w (W.setCells B 0 r.cells.toArray.toList) :=
  ⟨hv.set r, below_setCells hb _ hB _ _ _ hb⟩

theorem only_at (w : World) (s i : Nat) (v : Value) : Only (fun k => k = s) w (w.setCell ⟨s, i, none⟩ v) := (Only.refl (fun k => k = s) w).setCell ⟨s, i, none⟩ rfl v
theorem size_at (w : World) (s i : Nat) (v : Value) : (w.setCell ⟨s, i, none⟩ v).heap.size = w.heap.size := by simp

theorem vb_zero (W : World) : VB (W.alloc (.cells #[.int .i64 0, .string ⟨#[]⟩, .string ⟨#[]⟩] 88)) W.heap.size Sv.zero := vb_new W Sv.zero _

set_option maxHeartbeats 1000000 in
set_option maxRecDepth 100000 in
theorem take_no (p : Option Addr) (w : World) (h : NoSto w p) (hp : ∀ a, p = some a → a.block < w.heap.size) :
    Calls Tryd.prog 78 #[.pointer p] w fun e w' => e = .returned (.tuple #[.agg Sv.zero.cells.toArray, .int .i64 16]) ∧ Below w.heap.size w w' := by
  have hb0 : Below w.heap.size w (w.alloc (.cells #[.int .i64 0, .string ⟨#[]⟩, .string ⟨#[]⟩] 88)) := (Below.refl _ _).alloc (Nat.le_refl _) _
  have HN := Lib.hid (h.below hb0 hp)
  have HV := Lib.hid (vb_zero w)
  have HX := Lib.hid (vb_set (r := Sv.zero) (vb_zero w) hb0 (Nat.le_refl _))
  clear h hp hb0
  go_enter Tryd.func78, Tryd.ntmps78
  go_wp2_with (first
    | (go_at_call 74; refine (valid_no _ _ HN.out).mono ?_; rintro e w' ⟨rfl, rfl⟩)
    | (refine wpList_store_mid rfl 88 (.tmp 2) (.tmp 8) rfl w.heap.size 0 Sv.zero.cells.toArray rfl rfl HV.out.room (v_infoA _) (v_all _) ?_; generalize World.setCells _ _ _ _ = W2 at HX ⊢))
  refine bodyPost_ret (results_cell2 rfl _ _ rfl HX.out.1.cells Tryd.underlying88 rfl (v_info _)) rfl ?_
  exact ⟨rfl, HX.out.2⟩

section
variable {w0 : World} {P : Nat → Prop} {s g p : Nat} {S : DS} {X : StS}

set_option maxHeartbeats 1000000 in
set_option maxRecDepth 100000 in
theorem take_none (w : World) (h : StoP w0 w P s g p S X) (hp : X.pend = none) :
    Calls Tryd.prog 78 #[.pointer (some ⟨s, 0, none⟩)] w fun e w' => e = .returned (.tuple #[.agg Sv.zero.cells.toArray, .int .i64 8]) ∧ Below w.heap.size w w' := by
  have hb0 : Below w.heap.size w (w.alloc (.cells #[.int .i64 0, .string ⟨#[]⟩, .string ⟨#[]⟩] 88)) := (Below.refl _ _).alloc (Nat.le_refl _) _
  have HN := Lib.hid (h.sto.later hb0).self
  have c3 : (w.alloc (.cells #[.int .i64 0, .string ⟨#[]⟩, .string ⟨#[]⟩] 88)).cell? ⟨s, 3, none⟩ = some (.pointer none) := by
    have := (h.sto.later hb0).cell (i := 3) rfl
    rwa [hp] at this
  have HV := Lib.hid (vb_zero w)
  have HX := Lib.hid (vb_set (r := Sv.zero) (vb_zero w) hb0 (Nat.le_refl _))
  clear h hp hb0
  go_enter Tryd.func78, Tryd.ntmps78
  go_wp2_with (first
    | (go_at_call 74; refine (valid_yes _ _ HN.out).mono ?_; rintro e w' ⟨rfl, rfl⟩)
    | (refine wpList_store_mid rfl 88 (.tmp 2) (.tmp 14) rfl w.heap.size 0 Sv.zero.cells.toArray rfl rfl HV.out.room (v_infoA _) (v_all _) ?_; generalize World.setCells _ _ _ _ = W2 at HX ⊢))
  refine bodyPost_ret (results_cell2 rfl _ _ rfl HX.out.1.cells Tryd.underlying88 rfl (v_info _)) rfl ?_
  exact ⟨rfl, HX.out.2⟩

set_option maxHeartbeats 2000000 in
set_option maxRecDepth 100000 in
theorem take_some (w : World) (h : StoP w0 w P s g p S X) (q : Sv) (hp : X.pend = some q) :
    Calls Tryd.prog 78 #[.pointer (some ⟨s, 0, none⟩)] w fun e w' => e = .returned (.tuple #[.agg q.cells.toArray, .int .i64 0]) ∧ StoP w0 w' P s g p S X.give ∧ Only (fun k => ¬P k) w w' := by
  obtain ⟨W0, hW0⟩ : ∃ W0, W0 = w.alloc (.cells #[.int .i64 0, .string ⟨#[]⟩, .string ⟨#[]⟩] 88) := ⟨_, rfl⟩
  have hb0 : Below w.heap.size w W0 := by rw [hW0]; exact (Below.refl _ _).alloc (Nat.le_refl _) _
  have H0 := h.later hb0
  have HN := Lib.hid H0.sto.self
  have hs0 : W0.heap.size = w.heap.size + 1 := by rw [hW0]; simp
  have c3 : W0.cell? ⟨s, 3, none⟩ = some (.pointer (some ⟨p, 0, none⟩)) := by
    have := H0.sto.cell (i := 3) rfl
    rwa [hp] at this
  have HQ := Lib.hid (H0.sto.pend q hp).1
  have HI := Lib.hid (v_info q)
  have HA := Lib.hid (v_all q)
  have HV0 : VB W0 w.heap.size Sv.zero := by rw [hW0]; exact vb_zero w
  have HP := Lib.hid (vb_put W0 q)
  have HR1 := Lib.hid (vb_room W0)
  have HV2 := Lib.hid (fun W (hb : Below W0.heap.size W0 W) => HV0.later hb)
  have HF := Lib.hid (fun W (hb : Below W0.heap.size W0 W) => h.fresh (D := fun i => w.heap.size ≤ i ∧ i < W.heap.size) (chain2 hb0 hb) (fun i hi => hi))
  have HO2 := Lib.hid (fun W (hb : Below W0.heap.size W0 W) => Only.of_below (F := fun k => ¬P k) (chain2 hb0 hb))
  have hlo := h.below.size
  have hPl := h.lt
  have HW := Lib.hid hW0
  have HNE : Hid (¬W0.heap.size = s) := Lib.hid (fun e => absurd H0.sto.lt (by omega))
  have HNA : Hid (¬w.heap.size = s) := Lib.hid (fun e => absurd h.sto.lt (by omega))
  have HNS := Lib.hid h.ns
  have HLT := Lib.hid (fun W (hb : Below W0.heap.size W0 W) => hb.block s H0.sto.lt)
  clear h hp hb0 H0 HV0 hW0 hs0
  go_enter Tryd.func78, Tryd.ntmps78
  go_wp2_with fail
  rw [← HW.out]
  clear HW
  refine (valid_yes _ _ HN.out).mono ?_
  rintro e w' ⟨rfl, rfl⟩
  go_wp2_with (first
    | (refine wpList_load_mid rfl 88 (.tmp 19) rfl p 0 rfl q.cells _ HQ.out Tryd.underlying88 rfl HI.out ?_)
    | (refine wpList_store_mid rfl 88 (.tmp 4) (.tmp 20) rfl W0.heap.size 0 q.cells.toArray rfl rfl HR1.out (v_infoA _) HA.out ?_
       generalize World.setCells _ _ _ _ = W2 at HP ⊢
       have HF2 := Lib.hid (HF.out W2 HP.out.2)
       have HVA := Lib.hid (HV2.out W2 HP.out.2)
       have HVB := Lib.hid HP.out.1
       have HOA := Lib.hid (HO2.out W2 HP.out.2)
       have c3b : W2.frozen? ⟨s, 3, none⟩ = false := HF2.out.sto.free 3 (by decide)
       have c3c : W2.cell? ⟨s, 3, none⟩ = some (.pointer (some ⟨p, 0, none⟩)) := (World.cell?_of_block (a := ⟨s, 3, none⟩) (HLT.out W2 HP.out.2)).trans c3
       have HF3 := Lib.hid HF2.out.give
       have HVB3 := Lib.hid (HVB.out.only (only_at W2 s 3 (.pointer none)) HNE.out)
       have HVA3 := Lib.hid (HVA.out.only (only_at W2 s 3 (.pointer none)) HNA.out)
       have HOB := Lib.hid (HOA.out.trans (only_at W2 s 3 (.pointer none)) (fun i _ e => e ▸ HNS.out))
       clear HP HF HV2 HO2 c3 HQ HR1 HF2 HVA HVB HOA)
    | (refine wpList_load_mid rfl 88 (.tmp 4) rfl W0.heap.size 0 rfl q.cells _ HVB3.out.cells Tryd.underlying88 rfl HI.out ?_)
    | (refine wpList_store_mid rfl 88 (.tmp 2) (.tmp 24) rfl w.heap.size 0 q.cells.toArray rfl rfl HVA3.out.room (v_infoA _) HA.out ?_
       have HF4 := Lib.hid (HF3.out.wrote (Only.setCells (F := fun k => k = w.heap.size) w.heap.size rfl q.cells.toArray.toList 0 _ (Only.refl _ _)) (fun i hi => ⟨.inr ⟨by omega, by subst hi; rw [← size_at W2 s 3 (.pointer none)]; exact HVA3.out.lt⟩, by omega⟩))
       have HV4 := Lib.hid (HVA3.out.set q)
       have HO4 := Lib.hid (HOB.out.trans (Only.setCells (F := fun k => k = w.heap.size) w.heap.size rfl q.cells.toArray.toList 0 _ (Only.refl _ _)) (fun i hi e => absurd hi (by omega)))
       generalize World.setCells _ _ _ _ = W4 at HF4 HV4 HO4 ⊢))
  refine bodyPost_ret (results_cell2 rfl _ _ rfl HV4.out.cells Tryd.underlying88 rfl (v_info _)) rfl ?_
  exact ⟨rfl, HF4.out.less (fun k hk => .inl hk), HO4.out⟩
end

end Go.Proofs.YtkplmaaeggnbgaaDoor.St
namespace Go.Proofs.YtkplmaaeggnbgaaDoor.St
open Go.RowKit Dk Rg Sl

section
variable {w0 w w' : World} {P : Nat → Prop} {s g p : Nat} {S : DS} {X : StS}

theorem StoP.app (h : StoP w0 w P s g p S X) (HK : HasK w0) (e : Ent) (hc : S.c < 2 ^ 40) (ho : S.ops < 2 ^ 40) :
    Calls Tryd.prog 16 #[.pointer (some ⟨g, 0, none⟩), .agg e.cells.toArray] w fun y w' => y = .returned (.tuple #[.agg (DS.app S e).2.1.cells.toArray, .int .i64 (DS.app S e).2.2]) ∧ StoP w0 w' P s g p (DS.app S e).1 X ∧ Only (fun k => ¬P k) w w' :=
  h.step (Ans := fun y => y = .returned (.tuple #[.agg (DS.app S e).2.1.cells.toArray, .int .i64 (DS.app S e).2.2])) (fun F hd hF => app_any F g S e w hd (fun h0 => by have := hF 0 h0; have := HK.lt; omega) (HK.later h.below) hc ho)

/-- What the region reads. -/
def LogS (s g b0 : Nat) (q : Sv) (W : World) : Prop :=
  W.cell? ⟨s, 5, none⟩ = some (.pointer (some ⟨g, 0, none⟩)) ∧ W.cell? ⟨b0, 0, none⟩ = some (.int .i64 q.slot) ∧ W.cell? ⟨b0, 1, none⟩ = some (.string q.text) ∧ W.cell? ⟨b0, 2, none⟩ = some (.string (strOf q.sum))

theorem logS_of {b0 : Nat} {q : Sv} (h : StoP w0 w P s g p S X) (hv : VB w b0 q) : LogS s g b0 q w := ⟨h.sto.cell (i := 5) rfl, hv.c0, hv.c1, hv.c2⟩

set_option maxHeartbeats 4000000 in
set_option maxRecDepth 100000 in
theorem log_any (w : World) (h : StoP w0 w P s g p S X) (HK : HasK w0) (k : Int) (q : Sv) (hc : S.c < 2 ^ 40) (ho : S.ops < 2 ^ 40) (_hz : q.text.size ≤ 2 ^ 40) :
    Calls Tryd.prog 77 #[.pointer (some ⟨s, 0, none⟩), .int .i64 k, .agg q.cells.toArray] w fun e w' => e = .returned (.int .i64 (DS.app S (q.ent k)).2.2) ∧ StoP w0 w' P s g p (DS.app S (q.ent k)).1 X ∧ Only (fun k => ¬P k) w w' := by
  obtain ⟨W0, hW0⟩ : ∃ W0, W0 = w.alloc (.cells q.cells.toArray 88) := ⟨_, rfl⟩
  have hb0 : Below w.heap.size w W0 := by rw [hW0]; exact (Below.refl _ _).alloc (Nat.le_refl _) _
  have hV0 : VB W0 w.heap.size q := by rw [hW0]; exact vb_new w q _
  have hbd : Below W0.heap.size W0 W0.drew := ⟨rfl, rfl, rfl, Nat.le_refl _, fun _ _ => rfl⟩
  have h1 := (h.fresh (D := fun i => i = w.heap.size) hb0 (fun i hi => by subst hi; exact ⟨Nat.le_refl _, hV0.lt⟩)).later hbd
  have hV1 := hV0.later hbd
  have hPl := h.lt
  have hlo := h.below.size
  have HO0 : Only (fun k => ¬P k) w W0.drew := Only.of_below (chain2 hb0 hbd)
  have hlw : w.heap.size < W0.drew.heap.size := hV1.lt
  have HW := Lib.hid hW0
  obtain ⟨x, hx⟩ : ∃ x, (DS.app S (q.ent k)).2.1 = x := ⟨_, rfl⟩
  obtain ⟨f, hf⟩ : ∃ f, (DS.app S (q.ent k)).2.2 = f := ⟨_, rfl⟩
  obtain ⟨T, hT⟩ : ∃ T, (DS.app S (q.ent k)).1 = T := ⟨_, rfl⟩
  rw [hf, hT]
  have HN : Hid (¬w.heap.size = s) := Lib.hid (fun e => absurd h.sto.lt (by omega))
  -- the call
  have HCA := Lib.hid (fun W (PP : Nat → Prop) (hs : StoP w0 W PP s g p S X) => by
    have := hs.app HK (q.ent k) hc ho
    rwa [hx, hf, hT] at this)
  have HNEW : Hid (∀ W S2, StoP w0 W (fun i => P i ∨ i = w.heap.size) s g p S2 X → VB W w.heap.size q → Only (fun k => ¬P k) w W →
      EB (W.alloc (.cells #[.int .i64 0, .int .i64 0, .int .i64 0, .int .i64 0, .string ⟨#[]⟩] 47)) W.heap.size Ent.zero ∧ StoP w0 (W.alloc (.cells #[.int .i64 0, .int .i64 0, .int .i64 0, .int .i64 0, .string ⟨#[]⟩] 47)) (fun i => P i ∨ i = w.heap.size ∨ i = W.heap.size) s g p S2 X ∧
      (VB (W.alloc (.cells #[.int .i64 0, .int .i64 0, .int .i64 0, .int .i64 0, .string ⟨#[]⟩] 47)) w.heap.size q ∧ w.heap.size < W.heap.size ∧ W.heap.size ≠ s) ∧ Only (fun k => ¬P k) w (W.alloc (.cells #[.int .i64 0, .int .i64 0, .int .i64 0, .int .i64 0, .string ⟨#[]⟩] 47)) ∧
      LogS s g w.heap.size q (W.alloc (.cells #[.int .i64 0, .int .i64 0, .int .i64 0, .int .i64 0, .string ⟨#[]⟩] 47))) := Lib.hid (fun W S2 hs hv ho => by
    have hb : Below W.heap.size W (W.alloc (.cells #[.int .i64 0, .int .i64 0, .int .i64 0, .int .i64 0, .string ⟨#[]⟩] 47)) := (Below.refl _ _).alloc (Nat.le_refl _) _
    have hs2 := (hs.fresh (D := fun i => i = W.heap.size) hb (fun i hi => by subst hi; exact ⟨Nat.le_refl _, by simp⟩)).less (D := fun i => P i ∨ i = w.heap.size ∨ i = W.heap.size) (fun i hi => by rcases hi with e | e | e; exact .inl (.inl e); exact .inl (.inr e); exact .inr e)
    exact ⟨ebt_zero W _, hs2, ⟨hv.later hb, hv.lt, fun e => absurd hs.sto.lt (Nat.not_lt.2 (Nat.le_of_eq e))⟩, ho.trans (Only.of_below (F := fun k => ¬P k) hb) (fun _ _ e => e), logS_of hs2 (hv.later hb)⟩)
  have HKEEP : Hid (∀ W1 W2 S2, StoP w0 W2 (fun i => P i ∨ i = w.heap.size) s g p S2 X → Only (fun i => ¬(P i ∨ i = w.heap.size)) W1 W2 → VB W1 w.heap.size q → VB W2 w.heap.size q ∧ LogS s g w.heap.size q W2) := Lib.hid (fun W1 W2 S2 hs ho hv => by
    have hv2 := hv.only ho (fun e => e (.inr rfl))
    exact ⟨hv2, logS_of hs hv2⟩)
  have HEND : Hid (∀ W B, EB W B Ent.zero → (StoP w0 W (fun i => P i ∨ i = w.heap.size ∨ i = B) s g p T X) → (VB W w.heap.size q ∧ w.heap.size < B ∧ B ≠ s) → Only (fun k => ¬P k) w W → LogS s g w.heap.size q (W.setCells B 0 x.cells.toArray.toList) ∧ (StoP w0 (W.setCells B 0 x.cells.toArray.toList) P s g p T X ∧ Only (fun k => ¬P k) w (W.setCells B 0 x.cells.toArray.toList))) := Lib.hid (fun W B he hs hv ho => by
    have hoB : Only (fun i => i = B) W (W.setCells B 0 x.cells.toArray.toList) := Only.setCells (F := fun i => i = B) B rfl _ 0 W (Only.refl _ _)
    have hs2 := hs.wrote hoB (fun i hi => ⟨.inr (.inr hi), by omega⟩)
    exact ⟨logS_of hs2 (hv.1.only hoB (fun e => by omega)), hs2.less (fun i hi => .inl hi), ho.trans hoB (fun i hi e => absurd hi (by omega))⟩)
  have hEC : Value.agg #[.int .i64 k, .int .i64 0, .int .i64 q.slot, .int .i64 (q.text.size : Int), .string (strOf q.sum)] = .agg (q.ent k).cells.toArray := rfl
  have HEC := Lib.hid hEC
  have HL0 := logS_of h1 hV1
  have HS1 := Lib.hid h1
  have HV1 := Lib.hid hV1
  have HO1 := Lib.hid HO0
  have HNB := Lib.hid hlw
  clear h hb0 hV0 hbd h1 hV1 HO0 hlw hx hf hT hW0 hEC hc ho
  go_enter Tryd.func77, Tryd.ntmps77
  go_wp2_with fail
  rw [← HW.out]
  clear HW
  generalize w.heap.size = b0 at *
  apply region_at (F := fun _ W3 => StoP w0 W3 P s g p T X ∧ Only (fun k => ¬P k) w W3)
  case h =>
    refine wp_region_noPanic (wp_region_held_drew (S := LogS s g b0 q) (by kernel_rfl) HL0 (fun hHeld => ?_))
    refine wpAnyH_take (i := 0) (v := ?_) rfl (by kernel_rfl) (by kernel_rfl) (by kernel_rfl) (fun _ _ _ h => h) (Or.inl ⟨by rfl, ?_⟩) (by assumption) ?_
    rotate_left
    · intro w' hSw
      obtain ⟨hs5, hs0, hs1, hs2⟩ := hSw
      go_simp
      first | done | with_reducible rfl
    simp only [Act.put, List.getElem_toArray, List.getElem_cons_zero, List.setIfInBounds_toArray, List.set_cons_zero, List.set_cons_succ]
    refine wpAnyH_take (i := 1) (v := ?_) rfl (by kernel_rfl) (by kernel_rfl) (by kernel_rfl) (fun _ _ _ h => h) (Or.inl ⟨by rfl, ?_⟩) (by assumption) ?_
    rotate_left
    · intro w' hSw
      obtain ⟨hs5, hs0, hs1, hs2⟩ := hSw
      go_simp
      first | done | with_reducible rfl
    simp only [Act.put, List.getElem_toArray, List.getElem_cons_succ, List.getElem_cons_zero, List.setIfInBounds_toArray, List.set_cons_zero, List.set_cons_succ]
    refine wpAnyH_take (i := 2) (v := ?_) rfl (by kernel_rfl) (by kernel_rfl) (by kernel_rfl) (fun _ _ _ h => h) (Or.inl ⟨by rfl, ?_⟩) (by assumption) ?_
    rotate_left
    · intro w' hSw
      obtain ⟨hs5, hs0, hs1, hs2⟩ := hSw
      go_simp
      first | done | with_reducible rfl
    simp only [Act.put, List.getElem_toArray, List.getElem_cons_succ, List.getElem_cons_zero, List.setIfInBounds_toArray, List.set_cons_zero, List.set_cons_succ]
    refine wpAnyH_take (i := 3) (v := ?_) rfl (by kernel_rfl) (by kernel_rfl) (by kernel_rfl) (fun _ _ _ h => h) (Or.inl ⟨by rfl, ?_⟩) (by assumption) ?_
    rotate_left
    · intro w' hSw
      obtain ⟨hs5, hs0, hs1, hs2⟩ := hSw
      go_simp
      first | done | with_reducible rfl
    simp only [Act.put, List.getElem_toArray, List.getElem_cons_succ, List.getElem_cons_zero, List.setIfInBounds_toArray, List.set_cons_zero, List.set_cons_succ]
    refine wpAnyH_take (i := 4) (v := ?_) rfl (by kernel_rfl) (by kernel_rfl) (by kernel_rfl) (fun _ _ _ h => h) (Or.inl ⟨by rfl, ?_⟩) (by assumption) ?_
    rotate_left
    · intro w' hSw
      obtain ⟨hs5, hs0, hs1, hs2⟩ := hSw
      go_simp
      first | done | with_reducible rfl
    simp only [Act.put, List.getElem_toArray, List.getElem_cons_succ, List.getElem_cons_zero, List.setIfInBounds_toArray, List.set_cons_zero, List.set_cons_succ]
    refine wpAnyH_take (i := 5) (v := ?_) rfl (by kernel_rfl) (by kernel_rfl) (by kernel_rfl) (fun _ _ _ h => h) (Or.inl ⟨by rfl, ?_⟩) (by assumption) ?_
    rotate_left
    · intro w' hSw
      obtain ⟨hs5, hs0, hs1, hs2⟩ := hSw
      go_simp
      first | done | with_reducible rfl
    simp only [Act.put, List.getElem_toArray, List.getElem_cons_succ, List.getElem_cons_zero, List.setIfInBounds_toArray, List.set_cons_zero, List.set_cons_succ]
    refine wpAnyH_take (i := 6) (v := ?_) rfl (by kernel_rfl) (by kernel_rfl) (by kernel_rfl) (fun _ _ _ h => h) (Or.inl ⟨by rfl, ?_⟩) (by assumption) ?_
    rotate_left
    · intro w' hSw
      obtain ⟨hs5, hs0, hs1, hs2⟩ := hSw
      go_simp
      first | done | with_reducible rfl
    simp only [Act.put, List.getElem_toArray, List.getElem_cons_succ, List.getElem_cons_zero, List.setIfInBounds_toArray, List.set_cons_zero, List.set_cons_succ]
    refine wpAnyH_take (i := 7) (v := ?_) rfl (by kernel_rfl) (by kernel_rfl) (by kernel_rfl) (fun _ _ _ h => h) (Or.inl ⟨by rfl, ?_⟩) (by assumption) ?_
    rotate_left
    · intro w' hSw
      obtain ⟨hs5, hs0, hs1, hs2⟩ := hSw
      go_simp
      first | done | with_reducible rfl
    simp only [Act.put, List.getElem_toArray, List.getElem_cons_succ, List.getElem_cons_zero, List.setIfInBounds_toArray, List.set_cons_zero, List.set_cons_succ]
    refine wpAnyH_take (i := 8) (v := ?_) rfl (by kernel_rfl) (by kernel_rfl) (by kernel_rfl) (fun _ _ _ h => h) (Or.inl ⟨by rfl, ?_⟩) (by assumption) ?_
    rotate_left
    · intro w' hSw
      obtain ⟨hs5, hs0, hs1, hs2⟩ := hSw
      go_simp
      first | done | with_reducible rfl
    simp only [Act.put, List.getElem_toArray, List.getElem_cons_succ, List.getElem_cons_zero, List.setIfInBounds_toArray, List.set_cons_zero, List.set_cons_succ]
    refine wpAnyH_take (i := 9) (v := ?_) rfl (by kernel_rfl) (by kernel_rfl) (by kernel_rfl) (fun _ _ _ h => h) (Or.inl ⟨by rfl, ?_⟩) (by assumption) ?_
    rotate_left
    · intro w' hSw
      obtain ⟨hs5, hs0, hs1, hs2⟩ := hSw
      go_simp
      first | done | with_reducible rfl
    simp only [Act.put, List.getElem_toArray, List.getElem_cons_succ, List.getElem_cons_zero, List.setIfInBounds_toArray, List.set_cons_zero, List.set_cons_succ]
    refine wpAnyH_take (i := 10) (v := ?_) rfl (by kernel_rfl) (by kernel_rfl) (by kernel_rfl) (fun _ _ _ h => h) (Or.inl ⟨by rfl, ?_⟩) (by assumption) ?_
    rotate_left
    · intro w' hSw
      obtain ⟨hs5, hs0, hs1, hs2⟩ := hSw
      go_simp
      first | done | with_reducible rfl
    simp only [Act.put, List.getElem_toArray, List.getElem_cons_succ, List.getElem_cons_zero, List.setIfInBounds_toArray, List.set_cons_zero, List.set_cons_succ]
    refine wpAnyH_take (i := 11) (v := ?_) rfl (by kernel_rfl) (by kernel_rfl) (by kernel_rfl) (fun _ _ _ h => h) (Or.inl ⟨by rfl, ?_⟩) (by assumption) ?_
    rotate_left
    · intro w' hSw
      obtain ⟨hs5, hs0, hs1, hs2⟩ := hSw
      go_simp
      first | done | with_reducible rfl
    simp only [Act.put, List.getElem_toArray, List.getElem_cons_succ, List.getElem_cons_zero, List.setIfInBounds_toArray, List.set_cons_zero, List.set_cons_succ]
    refine wpAnyH_take (i := 12) (v := ?_) rfl (by kernel_rfl) (by kernel_rfl) (by kernel_rfl) (fun _ _ _ h => h) (Or.inl ⟨by rfl, ?_⟩) (by assumption) ?_
    rotate_left
    · intro w' hSw
      obtain ⟨hs5, hs0, hs1, hs2⟩ := hSw
      go_simp
      first | done | with_reducible rfl
    simp only [Act.put, List.getElem_toArray, List.getElem_cons_succ, List.getElem_cons_zero, List.setIfInBounds_toArray, List.set_cons_zero, List.set_cons_succ]
    refine wpAnyH_all (rs := [13, 17]) (by kernel_rfl) (by simp) (fun q' hq => ?_)
    rcases List.mem_cons.1 hq with rfl | hq2
    · clear hq
      refine wpOp_wp rfl (by rfl) (fun K' hK => ?_)
      go_simp
      rw [HEC.out]
      refine (HCA.out _ _ HS1.out).mono ?_
      rintro e W5 ⟨rfl, hs5, ho5⟩
      have hk5 := HKEEP.out _ _ _ hs5 ho5 HV1.out
      have HX5 := Lib.hid (HNEW.out W5 T hs5 hk5.1 (HO1.out.trans ho5 (fun i _ e hp => e (.inl hp))))
      have hL5 := hk5.2
      clear hs5 ho5 hk5
      refine hK.out _ _ ⟨hL5, ?_⟩
      clear hK K'
      try simp only [Act.put, List.getElem_toArray, List.getElem_cons_succ, List.getElem_cons_zero, List.setIfInBounds_toArray, List.set_cons_zero, List.set_cons_succ]
      refine wpAnyH_take (i := 14) (v := ?_) rfl (by kernel_rfl) (by kernel_rfl) (by kernel_rfl) (fun _ _ _ h => h) (Or.inl ⟨by rfl, ?_⟩) (by assumption) ?_
      rotate_left
      · intro w' hSw
        obtain ⟨hs5, hs0, hs1, hs2⟩ := hSw
        go_simp
        first | done | with_reducible rfl
      simp only [Act.put, List.getElem_toArray, List.getElem_cons_succ, List.getElem_cons_zero, List.setIfInBounds_toArray, List.set_cons_zero, List.set_cons_succ]
      refine wpAnyH_take (i := 15) (v := ?_) rfl (by kernel_rfl) (by kernel_rfl) (by kernel_rfl) (fun _ _ _ h => h) (Or.inl ⟨by rfl, ?_⟩) (by assumption) ?_
      rotate_left
      · intro w' hSw
        obtain ⟨hs5, hs0, hs1, hs2⟩ := hSw
        go_simp
        first | done | with_reducible rfl
      simp only [Act.put, List.getElem_toArray, List.getElem_cons_succ, List.getElem_cons_zero, List.setIfInBounds_toArray, List.set_cons_zero, List.set_cons_succ]
      refine wpAnyH_take (i := 16) (v := ?_) rfl (by kernel_rfl) (by kernel_rfl) (by kernel_rfl) (fun _ _ _ h => h) (Or.inl ⟨by rfl, ?_⟩) (by assumption) ?_
      rotate_left
      · intro w' hSw
        obtain ⟨hs5, hs0, hs1, hs2⟩ := hSw
        go_simp
        first | done | with_reducible rfl
      simp only [Act.put, List.getElem_toArray, List.getElem_cons_succ, List.getElem_cons_zero, List.setIfInBounds_toArray, List.set_cons_zero, List.set_cons_succ]
      refine wpAnyH_all (rs := [17]) (by kernel_rfl) (by simp) (fun q' hq => ?_)
      obtain rfl := List.mem_singleton.1 hq
      clear hq
      refine wpOp_wp rfl (by rfl) (fun K' hK => ?_)
      go_simp
      refine hK.out _ _ ⟨HX5.out.2.2.2.2, ?_⟩
      clear hK K'
      try simp only [Act.put, List.getElem_toArray, List.getElem_cons_succ, List.getElem_cons_zero, List.setIfInBounds_toArray, List.set_cons_zero, List.set_cons_succ]
      have HE := Lib.hid HX5.out.1
      have HD := Lib.hid (And.intro HX5.out.2.1 HX5.out.2.2.1)
      have HLO := HX5.out.2.2.2.1
      clear HX5
      generalize (World.heap W5).size = B9 at HE HD HLO ⊢
      refine wpAnyH_all (rs := [18]) (by kernel_rfl) (by simp) (fun q' hq => ?_)
      obtain rfl := List.mem_singleton.1 hq
      clear hq
      refine wpOp_wp rfl (by rfl) (fun K' hK => ?_)
      refine wp_store_mid 47 (.tmp 7) (.tmp 24) rfl B9 0 x.cells.toArray rfl rfl HE.out.room (e_infoA _) (e_all _) ?_
      have HL := HEND.out _ _ HE.out HD.out.1 HD.out.2 HLO
      have HL1 := HL.1
      refine hK.out _ _ ⟨HL1, ?_⟩
      clear hK K'
      try simp only [Act.put, List.getElem_toArray, List.getElem_cons_succ, List.getElem_cons_zero]
      refine wpAnyH_take (i := 19) (v := ?_) rfl (by kernel_rfl) (by kernel_rfl) (by kernel_rfl) (fun _ _ _ h => h) (Or.inl ⟨by rfl, ?_⟩) (by assumption) ?_
      rotate_left
      · intro w' hSw
        obtain ⟨hs5, hs0, hs1, hs2⟩ := hSw
        go_simp
        first | done | with_reducible rfl
      simp only [Act.put, List.getElem_toArray, List.getElem_cons_succ, List.getElem_cons_zero, List.setIfInBounds_toArray, List.set_cons_zero, List.set_cons_succ]
      refine wpAnyH_done (by kernel_rfl) (NoPanic.normal ?_) _
      exact ⟨rfl, B9, rfl, HL.2⟩
    · clear hq
      obtain rfl := List.mem_singleton.1 hq2
      clear hq2
      refine wpOp_wp rfl (by rfl) (fun K' hK => ?_)
      go_simp
      have HX5 := Lib.hid (HNEW.out W0.drew S HS1.out HV1.out HO1.out)
      refine hK.out _ _ ⟨HX5.out.2.2.2.2, ?_⟩
      clear hK K'
      try simp only [Act.put, List.getElem_toArray, List.getElem_cons_succ, List.getElem_cons_zero, List.setIfInBounds_toArray, List.set_cons_zero, List.set_cons_succ]
      have hL4 := HX5.out.2.2.2.2
      have HE4 := Lib.hid HX5.out.1
      have HD4 := Lib.hid (And.intro HX5.out.2.1 HX5.out.2.2.1)
      have HLO4 := HX5.out.2.2.2.1
      clear HX5
      replace HE4 : Hid (EB (W0.alloc (.cells #[.int .i64 0, .int .i64 0, .int .i64 0, .int .i64 0, .string ⟨#[]⟩] 47)).drew W0.heap.size Ent.zero) := HE4
      replace HD4 : Hid (StoP w0 (W0.alloc (.cells #[.int .i64 0, .int .i64 0, .int .i64 0, .int .i64 0, .string ⟨#[]⟩] 47)).drew (fun i => P i ∨ i = b0 ∨ i = W0.heap.size) s g p S X ∧ (VB (W0.alloc (.cells #[.int .i64 0, .int .i64 0, .int .i64 0, .int .i64 0, .string ⟨#[]⟩] 47)).drew b0 q ∧ b0 < W0.heap.size ∧ W0.heap.size ≠ s)) := HD4
      replace HLO4 : Only (fun k => ¬P k) w (W0.alloc (.cells #[.int .i64 0, .int .i64 0, .int .i64 0, .int .i64 0, .string ⟨#[]⟩] 47)).drew := HLO4
      replace hL4 : LogS s g b0 q (W0.alloc (.cells #[.int .i64 0, .int .i64 0, .int .i64 0, .int .i64 0, .string ⟨#[]⟩] 47)).drew := hL4
      generalize (World.heap W0).size = B9 at HE4 HD4 ⊢
      generalize World.drew (World.alloc W0 _) = W4 at HE4 HD4 HLO4 hL4 ⊢
      refine wpAnyH_all (rs := [13]) (by kernel_rfl) (by simp) (fun q' hq => ?_)
      obtain rfl := List.mem_singleton.1 hq
      clear hq
      refine wpOp_wp rfl (by rfl) (fun K' hK => ?_)
      go_simp
      rw [HEC.out]
      refine (HCA.out _ _ HD4.out.1).mono ?_
      rintro e W5 ⟨rfl, hs5, ho5⟩
      have hv5 := HD4.out.2.1.only ho5 (fun e => e (.inr (.inl rfl)))
      have hL5 := logS_of hs5 hv5
      have HE := Lib.hid (HE4.out.only ho5 (fun e => e (.inr (.inr rfl))))
      have HD := Lib.hid (And.intro hs5 (And.intro hv5 HD4.out.2.2))
      have HLO := HLO4.trans ho5 (fun i _ e hp => e (.inl hp))
      clear hs5 ho5 hv5 HE4 HD4 HLO4
      refine hK.out _ _ ⟨hL5, ?_⟩
      clear hK K'
      try simp only [Act.put, List.getElem_toArray, List.getElem_cons_succ, List.getElem_cons_zero, List.setIfInBounds_toArray, List.set_cons_zero, List.set_cons_succ]
      refine wpAnyH_take (i := 14) (v := ?_) rfl (by kernel_rfl) (by kernel_rfl) (by kernel_rfl) (fun _ _ _ h => h) (Or.inl ⟨by rfl, ?_⟩) (by assumption) ?_
      rotate_left
      · intro w' hSw
        obtain ⟨hs5, hs0, hs1, hs2⟩ := hSw
        go_simp
        first | done | with_reducible rfl
      simp only [Act.put, List.getElem_toArray, List.getElem_cons_succ, List.getElem_cons_zero, List.setIfInBounds_toArray, List.set_cons_zero, List.set_cons_succ]
      refine wpAnyH_take (i := 15) (v := ?_) rfl (by kernel_rfl) (by kernel_rfl) (by kernel_rfl) (fun _ _ _ h => h) (Or.inl ⟨by rfl, ?_⟩) (by assumption) ?_
      rotate_left
      · intro w' hSw
        obtain ⟨hs5, hs0, hs1, hs2⟩ := hSw
        go_simp
        first | done | with_reducible rfl
      simp only [Act.put, List.getElem_toArray, List.getElem_cons_succ, List.getElem_cons_zero, List.setIfInBounds_toArray, List.set_cons_zero, List.set_cons_succ]
      refine wpAnyH_take (i := 16) (v := ?_) rfl (by kernel_rfl) (by kernel_rfl) (by kernel_rfl) (fun _ _ _ h => h) (Or.inl ⟨by rfl, ?_⟩) (by assumption) ?_
      rotate_left
      · intro w' hSw
        obtain ⟨hs5, hs0, hs1, hs2⟩ := hSw
        go_simp
        first | done | with_reducible rfl
      simp only [Act.put, List.getElem_toArray, List.getElem_cons_succ, List.getElem_cons_zero, List.setIfInBounds_toArray, List.set_cons_zero, List.set_cons_succ]
      refine wpAnyH_all (rs := [18]) (by kernel_rfl) (by simp) (fun q' hq => ?_)
      obtain rfl := List.mem_singleton.1 hq
      clear hq
      refine wpOp_wp rfl (by rfl) (fun K' hK => ?_)
      refine wp_store_mid 47 (.tmp 7) (.tmp 24) rfl B9 0 x.cells.toArray rfl rfl HE.out.room (e_infoA _) (e_all _) ?_
      have HL := HEND.out _ _ HE.out HD.out.1 HD.out.2 HLO
      have HL1 := HL.1
      refine hK.out _ _ ⟨HL1, ?_⟩
      clear hK K'
      try simp only [Act.put, List.getElem_toArray, List.getElem_cons_succ, List.getElem_cons_zero]
      refine wpAnyH_take (i := 19) (v := ?_) rfl (by kernel_rfl) (by kernel_rfl) (by kernel_rfl) (fun _ _ _ h => h) (Or.inl ⟨by rfl, ?_⟩) (by assumption) ?_
      rotate_left
      · intro w' hSw
        obtain ⟨hs5, hs0, hs1, hs2⟩ := hSw
        go_simp
        first | done | with_reducible rfl
      simp only [Act.put, List.getElem_toArray, List.getElem_cons_succ, List.getElem_cons_zero, List.setIfInBounds_toArray, List.set_cons_zero, List.set_cons_succ]
      refine wpAnyH_done (by kernel_rfl) (NoPanic.normal ?_) _
      exact ⟨rfl, B9, rfl, HL.2⟩
  case k =>
    intro B9 W3 HF
    go_wp2
    go_ret
    exact ⟨rfl, HF⟩
end

end Go.Proofs.YtkplmaaeggnbgaaDoor.St
