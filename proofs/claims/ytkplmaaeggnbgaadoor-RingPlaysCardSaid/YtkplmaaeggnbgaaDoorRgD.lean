/- The walk of ring.sortByNumber: its contract. No condition but those that each states. -/
import Derived.Test.YtkplmaaeggnbgaaDoorRgC
import Derived.Deep.LoopGhost
import Derived.IntWalk
namespace Go.Proofs.YtkplmaaeggnbgaaDoor.Rg
open Go.RowKit Dk

/-- The cells of a row of entries. -/
def ecells (l : List Ent) : List Value := l.flatMap Ent.cells
theorem cells_len (e : Ent) : e.cells.length = 5 := rfl
theorem ecells_length (l : List Ent) : (ecells l).length = l.length * 5 := by
  induction l with
  | nil => rfl
  | cons a l ih => show (a.cells ++ ecells l).length = _; rw [List.length_append, ih, cells_len, List.length_cons]; omega
theorem ecells_app (a b : List Ent) : ecells (a ++ b) = ecells a ++ ecells b := by unfold ecells; rw [List.flatMap_append]
theorem ecells_cons (e : Ent) (l : List Ent) : ecells (e :: l) = e.cells ++ ecells l := rfl
theorem ecells_ones (l : List Ent) : ∀ u ∈ ecells l, u.oneCell' = true := by
  intro u hu
  obtain ⟨e, _, he⟩ := List.mem_flatMap.1 hu
  exact ecells_one e u he

theorem row_putm {w : World} {t : TypeId} {sz g n c : Nat} {xs : List Value} (h : w.ownsRow 0 t sz (.slice (some ⟨g, 0, none⟩) n c) n xs) (i : Nat) (u : Value) : (w.setCell ⟨g, i, none⟩ u).ownsRow 0 t sz (.slice (some ⟨g, 0, none⟩) n c) n (xs.set i u) := by
  refine ⟨by rw [List.length_set]; exact h.1, ?_⟩
  rcases h.2 with ⟨e, _⟩ | ⟨g1, c1, cur, e, h1, h2, h3, h4, h5, h6⟩
  · cases e
  · cases e
    refine .inr ⟨g, c, cur.setIfInBounds i u, rfl, h1, heap_setCell_same w g i cur t u h2, h3, h4, by simpa using h5, ?_⟩
    rw [← h6, Array.toList_setIfInBounds, List.take_set]

def setAll : List Value → Nat → List Value → List Value
  | xs, _, [] => xs
  | xs, o, v :: r => setAll (xs.set o v) (o + 1) r
theorem setAll_mid : ∀ (vs A B C : List Value), B.length = vs.length → setAll (A ++ (B ++ C)) A.length vs = A ++ (vs ++ C)
  | [], A, B, C, h => by obtain rfl := List.eq_nil_of_length_eq_zero h; rfl
  | v :: r, A, [], C, h => by cases h
  | v :: r, A, b :: B, C, h => by
    have e : (A ++ (b :: B ++ C)).set A.length v = (A ++ [v]) ++ (B ++ C) := by
      rw [List.set_append_right _ _ (Nat.le_refl _), Nat.sub_self]; simp
    rw [setAll, e]
    have := setAll_mid r (A ++ [v]) B C (by simpa using h)
    rw [List.length_append, List.length_singleton] at this
    rw [this]; simp
theorem row_puts {t : TypeId} {sz g n c : Nat} : ∀ (vs : List Value) (o : Nat) {w : World} {xs : List Value}, w.ownsRow 0 t sz (.slice (some ⟨g, 0, none⟩) n c) n xs → (w.setCells g o vs).ownsRow 0 t sz (.slice (some ⟨g, 0, none⟩) n c) n (setAll xs o vs)
  | [], _, _, _, h => h
  | v :: r, o, w, xs, h => by
    rw [World.setCells]
    exact row_puts r (o + 1) (row_putm h o v)

/-- An entry of the row is another one. -/
theorem row_ent {w : World} {t : TypeId} {g n c : Nat} {X Y : List Ent} {x : Ent} (h : w.ownsRow 0 t 5 (.slice (some ⟨g, 0, none⟩) n c) n (ecells (X ++ x :: Y))) (y : Ent) :
    (w.setCells g (X.length * 5) y.cells).ownsRow 0 t 5 (.slice (some ⟨g, 0, none⟩) n c) n (ecells (X ++ y :: Y)) := by
  have := row_puts y.cells (X.length * 5) h
  rw [ecells_app, ecells_cons, ← ecells_length, setAll_mid y.cells (ecells X) x.cells (ecells Y) rfl] at this
  rw [ecells_app, ecells_cons, ← ecells_length]; exact this

theorem row_range {w : World} {t : TypeId} {g n c : Nat} {X Y : List Ent} {x : Ent} (h : w.ownsRow 0 t 5 (.slice (some ⟨g, 0, none⟩) n c) n (ecells (X ++ x :: Y))) : w.rangeAt g (X.length * 5) x.cells := by
  have := ownsRow_range h
  rw [ecells_app, ecells_cons] at this
  have := rangeAt_right this (ecells_length X).symm
  rw [Nat.zero_add] at this
  exact rangeAt_left this

theorem row_there {w : World} {t : TypeId} {g n c : Nat} {xs : List Value} (h : w.ownsRow 0 t 5 (.slice (some ⟨g, 0, none⟩) n c) n xs) : w.there g 0 (n * 5) := by
  rcases h.2 with ⟨e, _⟩ | ⟨g1, c1, cur, e, h1, h2, h3, h4, h5, h6⟩
  · cases e
  · cases e
    intro j hj
    rw [Nat.zero_add]
    refine ⟨?_, frozen_of_row w g j cur t h2⟩
    rw [cell_of_row w g j cur t _ h2]
    have hx := h.1
    have hl : xs.length ≤ cur.size := by rw [← h6, List.length_take]; simp; omega
    rw [Array.getElem?_eq_getElem (by omega)]; rfl

theorem there_sub {w : World} {b o n k m : Nat} (h : w.there b o n) (hk : k + m ≤ n) : w.there b (o + k) m := fun j hj => by
  have := h (k + j) (by omega)
  rwa [← Nat.add_assoc] at this

/-! what the sort keeps -/
structure SortW (w wr : World) (t : TypeId) (g n c : Nat) (l0 l : List Ent) (j : Nat) : Prop where
  row : wr.ownsRow 0 t 5 (.slice (some ⟨g, 0, none⟩) n c) n (ecells l)
  perm : l.Perm l0
  len : l.length = n
  le : j ≤ n
  rises : Rises (l.take j)
  only : Only (fun k => k = g) w wr

theorem SortW.of_heap {w wr W : World} {t : TypeId} {g n c : Nat} {l0 l : List Ent} {j : Nat} (h : SortW w wr t g n c l0 l j) (e : W.heap = wr.heap) (k : Below wr.heap.size wr W) : SortW w W t g n c l0 l j :=
  ⟨ownsRow_block h.row (fun _ _ => by rw [e]), h.perm, h.len, h.le, h.rises, h.only.trans (Only.of_below (F := fun k => k = g) k) (fun _ _ h => h)⟩
theorem SortW.drewN {w wr : World} {t : TypeId} {g n c : Nat} {l0 l : List Ent} {j : Nat} (h : SortW w wr t g n c l0 l j) (m : Nat) : SortW w (wr.drewN m) t g n c l0 l j :=
  h.of_heap rfl ⟨rfl, rfl, rfl, Nat.le_refl _, fun _ _ => rfl⟩

theorem split_two {l : List Ent} {k : Nat} (h : k + 1 < l.length) : ∃ X x y Y, l = X ++ x :: y :: Y ∧ X.length = k := by
  refine ⟨l.take k, l[k], l[k + 1], l.drop (k + 2), ?_, by simp; omega⟩
  rw [← List.drop_eq_getElem_cons, ← List.drop_eq_getElem_cons, List.take_append_drop]

section
variable {w wr : World} {t : TypeId} {g n c : Nat} {l0 : List Ent}
theorem SortW.first {l : List Ent} (h : SortW w wr t g n c l0 l 0) (hn : 0 < n) : SortW w wr t g n c l0 l 1 := by
  refine ⟨h.row, h.perm, h.len, by omega, ?_, h.only⟩
  have hl := h.len
  cases l with
  | nil => exact List.Pairwise.nil
  | cons a l => exact List.pairwise_singleton _ _

theorem SortW.up {X Y : List Ent} {x y : Ent} {k : Nat} (hk : X.length = k) (h : SortW w wr t g n c l0 (X ++ x :: y :: Y) (k + 1)) (hxy : x.number ≤ y.number) : SortW w wr t g n c l0 (X ++ x :: y :: Y) (k + 2) := by
  have hl := h.len
  have t1 : (X ++ x :: y :: Y).take (k + 1) = X ++ [x] := by rw [← hk, List.take_length_add_append]; rfl
  have t2 : (X ++ x :: y :: Y).take (k + 2) = X ++ [x, y] := by rw [← hk, List.take_length_add_append]; rfl
  have hr := h.rises
  rw [t1] at hr
  refine ⟨h.row, h.perm, h.len, by simp at hl; omega, ?_, h.only⟩
  rw [t2]
  obtain ⟨r1, r2, r3⟩ := List.pairwise_append.1 hr
  refine List.pairwise_append.2 ⟨r1, List.pairwise_cons.2 ⟨fun b hb => by have := List.mem_singleton.1 hb; subst this; exact hxy, List.pairwise_singleton _ _⟩, fun a ha b hb => ?_⟩
  have h1 := r3 a ha x (List.mem_singleton.2 rfl)
  rcases List.mem_cons.1 hb with rfl | hb
  · exact h1
  · have := List.mem_singleton.1 hb; subst this; omega

theorem SortW.swap {X Y : List Ent} {x y : Ent} {k : Nat} (hk : X.length = k) (h : SortW w wr t g n c l0 (X ++ x :: y :: Y) (k + 1)) :
    SortW w ((wr.setCells g (k * 5) y.cells).setCells g ((k + 1) * 5) x.cells) t g n c l0 (X ++ y :: x :: Y) k := by
  have h1 := row_ent h.row y
  have h2 := row_ent (X := X ++ [y]) (x := y) (Y := Y) (by simpa using h1) x
  rw [List.length_append, List.length_singleton, hk] at h2
  have hr := h.rises
  have t1 : (X ++ x :: y :: Y).take (k + 1) = X ++ [x] := by rw [← hk, List.take_length_add_append]; rfl
  have t2 : (X ++ y :: x :: Y).take k = X := by rw [← hk, List.take_left]
  rw [t1] at hr
  refine ⟨by simpa using h2, ((List.Perm.swap x y Y).append_left X).trans h.perm, by have := h.len; simp at this ⊢; omega, by have := h.le; omega, ?_, (Only.setCells (F := fun k => k = g) g rfl _ _ _ (Only.setCells (F := fun k => k = g) g rfl _ _ _ h.only))⟩
  rw [t2]
  exact (List.pairwise_append.1 hr).1
end

theorem cell_of_range {W : World} {g o : Nat} {e : Ent} (h : W.rangeAt g o e.cells) : W.cell? ⟨g, o + 1, none⟩ = some (.int .i64 e.number) := h 1 _ rfl

set_option maxHeartbeats 2000000 in
set_option maxRecDepth 100000 in
theorem sort_any (g n c : Nat) (l0 : List Ent) (hn : n ≤ 1000) (w : World) (h : w.ownsRow 0 47 5 (.slice (some ⟨g, 0, none⟩) n c) n (ecells l0)) (hl : l0.length = n) :
    Calls Tryd.prog 68 #[.slice (some ⟨g, 0, none⟩) n c] w fun x w' => x = .returned (.tuple #[]) ∧ ∃ l, SortW w w' 47 g n c l0 l n := by
  have H0 : Hid (SortW w w 47 g n c l0 l0 0) := Lib.hid ⟨h, List.Perm.refl _, hl, Nat.zero_le _, List.Pairwise.nil, Only.refl _ _⟩
  clear h hl
  go_enter Tryd.func68, Tryd.ntmps68
  go_wp2
  go_step3
  go_wp2
  go_step3
  go_wp2
  go_loopg [2] (2 * inv l0 + n) (fun k vi wr => ∃ (j : Nat) (l : List Ent), vi = .int .i64 j ∧ k = 2 * inv l + (n - j) ∧ Hid (SortW w wr 47 g n c l0 l j))
  case atStart => exact ⟨0, l0, rfl, rfl, H0⟩
  case round =>
    clear H0
    obtain ⟨j, l, rfl, hk, hI⟩ := hrel
    have hjn := hI.out.le
    by_cases hj : j = n
    · subst hj
      go_wp2
      simp only [Exit.noGoto]
      refine bodyPost_end (results_none rfl _ _ _) rfl ⟨rfl, l, hI.out⟩
    · have hl := hI.out.len
      have v0 : ((j : Int) == (n : Int)) = false := by simp; omega
      have v1 : decide ((j : Int) = (n : Int)) = false := decide_eq_false (by omega)
      have v2 : (j == n) = false := by simpa using hj
      have v3 : decide (j = n) = false := decide_eq_false hj
      cases j with
      | zero =>
        have HN := Lib.hid (hI.out.first (by omega))
        clear hI
        go_wp2
        go_quiet (fail)
        have HD := Lib.hid (HN.out.drewN nq)
        clear HN
        go_wp2
        go_roundg (2 * inv l + (n - 1))
        case rel => exact ⟨1, l, by go_num, rfl, HD⟩
        case measure => omega
      | succ k =>
        obtain ⟨X, x, y, Y, rfl, hX⟩ := split_two (l := l) (k := k) (by omega)
        have hs : ((k + 1 : Nat) : Int) = (k : Int) + 1 := by omega
        rw [hs] at v0 v1 ⊢
        have rx := row_range hI.out.row
        have ry := row_range (X := X ++ [x]) (x := y) (Y := Y) (by simpa using hI.out.row)
        rw [hX] at rx
        rw [List.length_append, List.length_singleton, hX] at ry
        have cx := cell_of_range rx
        have cy := cell_of_range ry
        have z0 : (0 : Int) ≤ (k : Int) := by omega
        have z1 : (k : Int) + 1 < (n : Int) := by omega
        have z2 : (n : Int) ≤ 1000 := by omega
        have z3 : ((k : Int) + 1).toNat = k + 1 := by omega
        have z4 : (0 : Int) ≤ (k : Int) + 1 := by omega
        have z5 : IntKind.i64.wrap (k : Int) = (k : Int) := IntWalk.i64_in _ (by omega)
        have z6 : (k : Int) < (n : Int) := by omega
        by_cases hxy : y.number < x.number
        · have t0 : decide (y.number < x.number) = true := decide_eq_true hxy
          have hinv := inv_swap X Y x y hxy
          go_wp2
          go_quiet (fail)
          have HD := Lib.hid (hI.out.drewN nq)
          clear hI rx ry cx cy t0
          go_wp2
          have H4 : Hid (SortW w (wr.drewN nq).drew 47 g n c l0 (X ++ x :: y :: Y) (k + 1)) := Lib.hid (HD.out.of_heap rfl ⟨rfl, rfl, rfl, Nat.le_refl _, fun _ _ => rfl⟩)
          have RX : Hid ((wr.drewN nq).drew.rangeAt g (k * 5) x.cells) := Lib.hid (by have := row_range H4.out.row; rwa [hX] at this)
          have RY : Hid ((wr.drewN nq).drew.rangeAt g ((k + 1) * 5) y.cells) := Lib.hid (by have := row_range (X := X ++ [x]) (x := y) (Y := Y) (by simpa using H4.out.row); rwa [List.length_append, List.length_singleton, hX] at this)
          have HK := Lib.hid (And.intro hk (And.intro hl (And.intro hinv hX)))
          clear HD v0 v1 v2 v3 hj hk hl hinv hX hs hjn hxy
          refine wp_region_noPanic (wp_region_held_drew (S := fun _ => True) (by kernel_rfl) trivial (fun hHeld => ?_))
          generalize (wr.drewN nq).drew = W4 at H4 RX RY ⊢
          refine wpAnyH_take (i := 0) (v := ?_) rfl (by kernel_rfl) (by kernel_rfl) (by kernel_rfl) (fun _ _ _ h => h) (Or.inl ⟨by rfl, ?_⟩) trivial ?_
          rotate_left
          · intro w' hSw
            try dsimp only at hSw
            go_simp
            first | done | with_reducible rfl
          simp only [Act.put, List.getElem_toArray, List.getElem_cons_zero, List.setIfInBounds_toArray, List.set_cons_zero, List.set_cons_succ]
          refine wpAnyH_take (i := 1) (v := ?_) rfl (by kernel_rfl) (by kernel_rfl) (by kernel_rfl) (fun _ _ _ h => h) (Or.inl ⟨by rfl, ?_⟩) trivial ?_
          rotate_left
          · intro w' hSw
            try dsimp only at hSw
            go_simp
            first | done | with_reducible rfl
          simp only [Act.put, List.getElem_toArray, List.getElem_cons_zero, List.getElem_cons_succ, List.setIfInBounds_toArray, List.set_cons_zero, List.set_cons_succ]
          refine wpAnyH_take (i := 2) (v := ?_) rfl (by kernel_rfl) (by kernel_rfl) (by kernel_rfl) (fun _ _ _ h => h) (Or.inl ⟨by rfl, ?_⟩) trivial ?_
          rotate_left
          · intro w' hSw
            try dsimp only at hSw
            go_simp
            first | done | with_reducible rfl
          simp only [Act.put, List.getElem_toArray, List.getElem_cons_zero, List.getElem_cons_succ, List.setIfInBounds_toArray, List.set_cons_zero, List.set_cons_succ]
          refine wpAnyH_take (i := 3) (v := ?_) rfl (by kernel_rfl) (by kernel_rfl) (by kernel_rfl) (fun _ _ _ h => h) (Or.inl ⟨by rfl, ?_⟩) trivial ?_
          rotate_left
          · intro w' hSw
            try dsimp only at hSw
            go_simp
            first | done | with_reducible rfl
          simp only [Act.put, List.getElem_toArray, List.getElem_cons_zero, List.getElem_cons_succ, List.setIfInBounds_toArray, List.set_cons_zero, List.set_cons_succ]
          refine wpAnyH_take (i := 4) (v := ?_) rfl (by kernel_rfl) (by kernel_rfl) (by kernel_rfl) (fun _ _ _ h => h) (Or.inl ⟨by rfl, ?_⟩) trivial ?_
          rotate_left
          · intro w' hSw
            try dsimp only at hSw
            go_simp
            first | done | with_reducible rfl
          simp only [Act.put, List.getElem_toArray, List.getElem_cons_zero, List.getElem_cons_succ, List.setIfInBounds_toArray, List.set_cons_zero, List.set_cons_succ]
          refine wpAnyH_take (i := 5) (v := ?_) rfl (by kernel_rfl) (by kernel_rfl) (by kernel_rfl) (fun _ _ _ h => h) (Or.inl ⟨by rfl, ?_⟩) trivial ?_
          rotate_left
          · intro w' hSw
            try dsimp only at hSw
            go_simp
            first | done | with_reducible rfl
          simp only [Act.put, List.getElem_toArray, List.getElem_cons_zero, List.getElem_cons_succ, List.setIfInBounds_toArray, List.set_cons_zero, List.set_cons_succ]
          refine wpAnyH_take (i := 6) (v := ?_) rfl (by kernel_rfl) (by kernel_rfl) (by kernel_rfl) (fun _ _ _ h => h) (Or.inl ⟨by rfl, ?_⟩) trivial ?_
          rotate_left
          · intro w' hSw
            try dsimp only at hSw
            go_simp
            first | done | with_reducible rfl
          simp only [Act.put, List.getElem_toArray, List.getElem_cons_zero, List.getElem_cons_succ, List.setIfInBounds_toArray, List.set_cons_zero, List.set_cons_succ]
          refine wpAnyH_take (i := 7) (v := ?_) rfl (by kernel_rfl) (by kernel_rfl) (by kernel_rfl) (fun _ _ _ h => h) (Or.inl ⟨by rfl, ?_⟩) trivial ?_
          rotate_left
          · intro w' hSw
            try dsimp only at hSw
            go_simp
            first | done | with_reducible rfl
          simp only [Act.put, List.getElem_toArray, List.getElem_cons_zero, List.getElem_cons_succ, List.setIfInBounds_toArray, List.set_cons_zero, List.set_cons_succ]
          refine wpAnyH_take (i := 9) (v := ?_) rfl (by kernel_rfl) (by kernel_rfl) (by kernel_rfl) (fun _ _ _ h => h) (Or.inl ⟨by rfl, ?_⟩) trivial ?_
          rotate_left
          · intro w' hSw
            try dsimp only at hSw
            go_simp
            first | done | with_reducible rfl
          simp only [Act.put, List.getElem_toArray, List.getElem_cons_zero, List.getElem_cons_succ, List.setIfInBounds_toArray, List.set_cons_zero, List.set_cons_succ]
          refine wpAnyH_take (i := 10) (v := ?_) rfl (by kernel_rfl) (by kernel_rfl) (by kernel_rfl) (fun _ _ _ h => h) (Or.inl ⟨by rfl, ?_⟩) trivial ?_
          rotate_left
          · intro w' hSw
            try dsimp only at hSw
            go_simp
            first | done | with_reducible rfl
          simp only [Act.put, List.getElem_toArray, List.getElem_cons_zero, List.getElem_cons_succ, List.setIfInBounds_toArray, List.set_cons_zero, List.set_cons_succ]
          refine wpAnyH_take (i := 11) (v := ?_) rfl (by kernel_rfl) (by kernel_rfl) (by kernel_rfl) (fun _ _ _ h => h) (Or.inl ⟨by rfl, ?_⟩) trivial ?_
          rotate_left
          · intro w' hSw
            try dsimp only at hSw
            go_simp
            first | done | with_reducible rfl
          simp only [Act.put, List.getElem_toArray, List.getElem_cons_zero, List.getElem_cons_succ, List.setIfInBounds_toArray, List.set_cons_zero, List.set_cons_succ]
          refine wpAnyH_take (i := 12) (v := ?_) rfl (by kernel_rfl) (by kernel_rfl) (by kernel_rfl) (fun _ _ _ h => h) (Or.inl ⟨by rfl, ?_⟩) trivial ?_
          rotate_left
          · intro w' hSw
            try dsimp only at hSw
            go_simp
            first | done | with_reducible rfl
          simp only [Act.put, List.getElem_toArray, List.getElem_cons_zero, List.getElem_cons_succ, List.setIfInBounds_toArray, List.set_cons_zero, List.set_cons_succ]
          refine wpAnyH_ready (rs := [8, 13]) (by kernel_rfl) (by simp) ?_
          refine AllReadyH.cons (o := { dst := some 35, op := .load 47 (.tmp 34), type := 47, pos := "ring.go:142", after := #[{ on := 7, ground := Ground.data }], guard := none }) rfl (fun K hK => ?_) (AllReadyH.cons (o := { dst := some 40, op := .load 47 (.tmp 39), type := 47, pos := "ring.go:142", after := #[{ on := 12, ground := Ground.data }], guard := none }) rfl (fun K hK => ?_) AllReadyH.nil)
          · rw [if_pos (by rfl)]
            refine wp_load_mid 47 (.tmp 34) rfl g ((k + 1) * 5) rfl y.cells _ RY.out Tryd.underlying47 rfl (e_info y) ?_
            refine hK.out _ _ trivial (fun hHeld => ?_)
            clear hK K
            try simp only [Act.put, List.setIfInBounds_toArray, List.set_cons_zero, List.set_cons_succ]
            refine wpAnyH_ready (rs := [13]) (by kernel_rfl) (by simp) ?_
            refine AllReadyH.cons (o := { dst := some 40, op := .load 47 (.tmp 39), type := 47, pos := "ring.go:142", after := #[{ on := 12, ground := Ground.data }], guard := none }) rfl (fun K hK => ?_) AllReadyH.nil
            rw [if_pos (by rfl)]
            refine wp_load_mid 47 (.tmp 39) rfl g (k * 5) rfl x.cells _ RX.out Tryd.underlying47 rfl (e_info x) ?_
            refine hK.out _ _ trivial (fun hHeld => ?_)
            clear hK K
            try simp only [Act.put, List.setIfInBounds_toArray, List.set_cons_zero, List.set_cons_succ]
            refine wpAnyH_take (i := 14) (v := ?_) rfl (by kernel_rfl) (by kernel_rfl) (by kernel_rfl) (fun _ _ _ h => h) (Or.inl ⟨by rfl, ?_⟩) trivial ?_
            rotate_left
            · intro w' hSw
              try dsimp only at hSw
              go_simp
              first | done | with_reducible rfl
            simp only [Act.put, List.getElem_toArray, List.getElem_cons_zero, List.getElem_cons_succ, List.setIfInBounds_toArray, List.set_cons_zero, List.set_cons_succ]
            refine held_rest 15 _ (by kernel_rfl) (by kernel_rfl) ?_
            simp only [List.drop_succ_cons, List.drop_zero]
            have HT1 : Hid (W4.there g (k * 5) y.cells.toArray.size) := Lib.hid (by have := there_sub (row_there H4.out.row) (k := k * 5) (m := 5) (by have := HK.out.2.1; simp at this; omega); rwa [Nat.zero_add] at this)
            have HT2 : Hid ((W4.setCells g (k * 5) y.cells).there g ((k + 1) * 5) x.cells.toArray.size) := Lib.hid (World.there_setCells (by have := there_sub (row_there H4.out.row) (k := (k + 1) * 5) (m := 5) (by have := HK.out.2.1; simp at this; omega); rwa [Nat.zero_add] at this) _ _ _)
            have HN : Hid (SortW w ((W4.setCells g (k * 5) y.cells.toArray.toList).setCells g ((k + 1) * 5) x.cells.toArray.toList) 47 g n c l0 (X ++ y :: x :: Y) k) := Lib.hid (H4.out.swap HK.out.2.2.2)
            clear H4 RX RY
            generalize hO1 : k * 5 = o1 at HT1 HT2 HN ⊢
            generalize hO2 : (k + 1) * 5 = o2 at HT1 HT2 HN ⊢
            refine wpList_store_mid rfl 47 (.tmp 41) (.tmp 35) rfl g o1 y.cells.toArray rfl rfl HT1.out (e_infoA y) (e_all y) ?_
            go_wp2_with (first
              | (refine wpList_store_mid rfl 47 (.tmp 42) (.tmp 40) rfl g o2 x.cells.toArray rfl rfl HT2.out (e_infoA x) (e_all x) ?_; generalize World.setCells (World.setCells _ _ _ _) _ _ _ = W8 at HN ⊢))
            refine NoPanic.normal ?_
            clear HT1 HT2
            go_wp2
            go_roundg (2 * inv (X ++ y :: x :: Y) + (n - k))
            case rel => exact ⟨k, _, by go_num, rfl, HN⟩
            case measure =>
              obtain ⟨e1, e2, e3, e4⟩ := HK.out
              simp at e2
              omega
          · rw [if_pos (by rfl)]
            refine wp_load_mid 47 (.tmp 39) rfl g (k * 5) rfl x.cells _ RX.out Tryd.underlying47 rfl (e_info x) ?_
            refine hK.out _ _ trivial (fun hHeld => ?_)
            clear hK K
            try simp only [Act.put, List.setIfInBounds_toArray, List.set_cons_zero, List.set_cons_succ]
            refine wpAnyH_ready (rs := [8]) (by kernel_rfl) (by simp) ?_
            refine AllReadyH.cons (o := { dst := some 35, op := .load 47 (.tmp 34), type := 47, pos := "ring.go:142", after := #[{ on := 7, ground := Ground.data }], guard := none }) rfl (fun K hK => ?_) AllReadyH.nil
            rw [if_pos (by rfl)]
            refine wp_load_mid 47 (.tmp 34) rfl g ((k + 1) * 5) rfl y.cells _ RY.out Tryd.underlying47 rfl (e_info y) ?_
            refine hK.out _ _ trivial (fun hHeld => ?_)
            clear hK K
            try simp only [Act.put, List.setIfInBounds_toArray, List.set_cons_zero, List.set_cons_succ]
            refine wpAnyH_take (i := 14) (v := ?_) rfl (by kernel_rfl) (by kernel_rfl) (by kernel_rfl) (fun _ _ _ h => h) (Or.inl ⟨by rfl, ?_⟩) trivial ?_
            rotate_left
            · intro w' hSw
              try dsimp only at hSw
              go_simp
              first | done | with_reducible rfl
            simp only [Act.put, List.getElem_toArray, List.getElem_cons_zero, List.getElem_cons_succ, List.setIfInBounds_toArray, List.set_cons_zero, List.set_cons_succ]
            refine held_rest 15 _ (by kernel_rfl) (by kernel_rfl) ?_
            simp only [List.drop_succ_cons, List.drop_zero]
            have HT1 : Hid (W4.there g (k * 5) y.cells.toArray.size) := Lib.hid (by have := there_sub (row_there H4.out.row) (k := k * 5) (m := 5) (by have := HK.out.2.1; simp at this; omega); rwa [Nat.zero_add] at this)
            have HT2 : Hid ((W4.setCells g (k * 5) y.cells).there g ((k + 1) * 5) x.cells.toArray.size) := Lib.hid (World.there_setCells (by have := there_sub (row_there H4.out.row) (k := (k + 1) * 5) (m := 5) (by have := HK.out.2.1; simp at this; omega); rwa [Nat.zero_add] at this) _ _ _)
            have HN : Hid (SortW w ((W4.setCells g (k * 5) y.cells.toArray.toList).setCells g ((k + 1) * 5) x.cells.toArray.toList) 47 g n c l0 (X ++ y :: x :: Y) k) := Lib.hid (H4.out.swap HK.out.2.2.2)
            clear H4 RX RY
            generalize hO1 : k * 5 = o1 at HT1 HT2 HN ⊢
            generalize hO2 : (k + 1) * 5 = o2 at HT1 HT2 HN ⊢
            refine wpList_store_mid rfl 47 (.tmp 41) (.tmp 35) rfl g o1 y.cells.toArray rfl rfl HT1.out (e_infoA y) (e_all y) ?_
            go_wp2_with (first
              | (refine wpList_store_mid rfl 47 (.tmp 42) (.tmp 40) rfl g o2 x.cells.toArray rfl rfl HT2.out (e_infoA x) (e_all x) ?_; generalize World.setCells (World.setCells _ _ _ _) _ _ _ = W8 at HN ⊢))
            refine NoPanic.normal ?_
            clear HT1 HT2
            go_wp2
            go_roundg (2 * inv (X ++ y :: x :: Y) + (n - k))
            case rel => exact ⟨k, _, by go_num, rfl, HN⟩
            case measure =>
              obtain ⟨e1, e2, e3, e4⟩ := HK.out
              simp at e2
              omega
        · have t0 : decide (y.number < x.number) = false := decide_eq_false hxy
          have HN := Lib.hid (hI.out.up hX (by omega))
          clear hI rx ry
          go_wp2
          go_quiet (fail)
          have HD := Lib.hid (HN.out.drewN nq)
          clear HN cx cy t0
          go_wp2
          go_roundg (2 * inv (X ++ x :: y :: Y) + (n - (k + 2)))
          case rel => exact ⟨k + 2, _, by go_num, rfl, HD⟩
          case measure => omega

end Go.Proofs.YtkplmaaeggnbgaaDoor.Rg
