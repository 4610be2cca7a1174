/- The walk of same: two rows of the same entries. No condition but those that each states. -/
import Derived.Test.YtkplmaaeggnbgaaDoorRgRA
import Derived.Test.YtkplmaaeggnbgaaDoorRgCH
import Derived.Deep.RegionHeld3
namespace Go.Proofs.YtkplmaaeggnbgaaDoor.Rg
open Go.RowKit Dk

/-- A row of the document's entries. -/
structure RowQ (W : World) (v : Value) (l : List Ent) : Prop where
  row : W.ownsRow 0 43 5 v l.length (ecells l)
  lt : ∀ b, v.ownBlock = some b → b < W.heap.size
theorem RowQ.later {W W' : World} {v : Value} {l : List Ent} (h : RowQ W v l) (k : Below W.heap.size W W') : RowQ W' v l :=
  ⟨ownsRow_block h.row (fun b hb => k.block b (h.lt b hb)), fun b hb => Nat.lt_of_lt_of_le (h.lt b hb) k.size⟩
theorem ScanQ.rowQ {w W : World} {v : Value} {l : List Ent} (h : ScanQ w W v l) : RowQ W v l := ⟨own_zero h.row, fun b hb => (own_lo h.row b hb).2⟩
theorem RowQ.form {W : World} {v : Value} {l : List Ent} (h : RowQ W v l) : ∃ pa cap, v = .slice pa l.length cap ∧ (0 < l.length → ∃ g, pa = some ⟨g, 0, none⟩) := by
  rcases h.row.2 with ⟨hv, h0⟩ | ⟨g, cap, cur, hv, -⟩
  · exact ⟨none, 0, by rw [hv, h0], fun h => absurd h (by omega)⟩
  · exact ⟨_, cap, hv, fun _ => ⟨g, rfl⟩⟩
theorem RowQ.at {W : World} {g cap n : Nat} {l : List Ent} (h : RowQ W (.slice (some ⟨g, 0, none⟩) n cap) l) (hn : n = l.length) {q : Nat} {e : Ent} (he : l[q]? = some e) : W.rangeAt g (q * 5) e.cells := by
  have hlt : q < l.length := (List.getElem?_eq_some_iff.1 he).1
  have e1 : l = l.take q ++ e :: l.drop (q + 1) := by
    obtain ⟨hh, rfl⟩ := List.getElem?_eq_some_iff.1 he
    rw [← List.drop_eq_getElem_cons, List.take_append_drop]
  have hr := h.row
  rw [hn, e1] at hr
  have := row_range (w := W) (t := 43) (g := g) (c := cap) (X := l.take q) (Y := l.drop (q + 1)) (x := e) hr
  rwa [List.length_take, Nat.min_eq_left (by omega)] at this

theorem exec_same {ρ : Operand → Value} {o : Oper} {x y : Operand} {u : TypeId} {W : World} {e : Ent} (ho : o.op = .binOp .neq 43 x y u) (hx : ρ x = .agg e.cells.toArray) (hy : ρ y = .agg e.cells.toArray) :
    (execOp ρ o).run Tryd.prog W = .ok (.value (.bool false)) W := by
  have := exec_neq (W := W) (ref_eq e e) (by kernel_rfl) ho hx hy
  rwa [show (!decide (e = e)) = false by simp] at this

set_option maxHeartbeats 400000 in
theorem same_none (pa pb : Option Addr) (ca cb : Nat) (w : World) :
    Calls Tryd.prog 33 #[.slice pa 0 ca, .slice pb 0 cb] w fun e w' => e = .returned (.bool true) ∧ w = w' := by
  go_enter Tryd.func33, Tryd.ntmps33
  go_wp2
  go_loopw [5] (fun vi wr => vi = .int .i64 0 ∧ wr = w) (fun _ _ => 0)
  case atStart => exact ⟨rfl, rfl⟩
  case round =>
    obtain ⟨rfl, rfl⟩ := hrel
    go_wp2
    go_ret
    exact ⟨rfl, rfl⟩

set_option maxHeartbeats 2000000 in
set_option maxRecDepth 100000 in
theorem same_some (ga gb n ca cb : Nat) (l : List Ent) (hn : l.length = n) (hn8 : n ≤ 8) (w : World) (ha : RowE w (.slice (some ⟨ga, 0, none⟩) n ca) l) (hb : RowQ w (.slice (some ⟨gb, 0, none⟩) n cb) l) :
    Calls Tryd.prog 33 #[.slice (some ⟨ga, 0, none⟩) n ca, .slice (some ⟨gb, 0, none⟩) n cb] w fun e w' => e = .returned (.bool true) ∧ Below w.heap.size w w' := by
  have H0 : Hid (RowE w (.slice (some ⟨ga, 0, none⟩) n ca) l ∧ RowQ w (.slice (some ⟨gb, 0, none⟩) n cb) l ∧ Below w.heap.size w w) := Lib.hid ⟨ha, hb, Below.refl _ _⟩
  have HN := Lib.hid hn
  have HI := Lib.hid e_info
  have HJ := Lib.hid ref_info
  clear ha hb hn
  go_enter Tryd.func33, Tryd.ntmps33
  go_wp2
  go_loopw [5] (fun vi wr => ∃ i : Nat, i ≤ n ∧ vi = .int .i64 i ∧ Hid (RowE wr (.slice (some ⟨ga, 0, none⟩) n ca) l ∧ RowQ wr (.slice (some ⟨gb, 0, none⟩) n cb) l ∧ Below w.heap.size w wr)) (fun vi _ => n - (intOf vi).toNat)
  case atStart => exact ⟨0, Nat.zero_le _, rfl, H0⟩
  case round =>
    clear H0
    obtain ⟨i, hi, rfl, hI⟩ := hrel
    have z0 : (0 : Int) ≤ (i : Int) := by omega
    by_cases hlt : i < n
    · have z1 : (i : Int) < (n : Int) := by omega
      obtain ⟨x, hx⟩ : ∃ x, l[i]? = some x := ⟨l[i]'(by rw [HN.out]; exact hlt), List.getElem?_eq_getElem (by rw [HN.out]; exact hlt)⟩
      have HXA := Lib.hid (fun W (h : RowE W (.slice (some ⟨ga, 0, none⟩) n ca) l) => h.at HN.out.symm hx)
      have HXB := Lib.hid (fun W (h : RowQ W (.slice (some ⟨gb, 0, none⟩) n cb) l) => h.at HN.out.symm hx)
      have CT : Hid (∀ W, Calls Tryd.prog 19 #[.agg x.cells.toArray] W fun y w' => y = .returned (.agg x.cells.toArray) ∧ Below W.heap.size W w') := Lib.hid (fun W => taken_any x W)
      clear hx
      go_wp2_with fail
      have hS0 : wr.drew.rangeAt ga (i * 5) x.cells ∧ wr.drew.rangeAt gb (i * 5) x.cells ∧ RowE wr.drew (.slice (some ⟨ga, 0, none⟩) n ca) l ∧ RowQ wr.drew (.slice (some ⟨gb, 0, none⟩) n cb) l ∧ Below w.heap.size w wr.drew := by
        have hbd : Below wr.heap.size wr wr.drew := ⟨rfl, rfl, rfl, Nat.le_refl _, fun _ _ => rfl⟩
        have h1 := hI.out.1.later hbd
        have h2 := hI.out.2.1.later hbd
        exact ⟨HXA.out _ h1, HXB.out _ h2, h1, h2, chain2 hI.out.2.2 hbd⟩
      clear hI
      refine wp_region_noPanic (wp_region_held_drew (S := fun W => W.rangeAt ga (i * 5) x.cells ∧ W.rangeAt gb (i * 5) x.cells ∧ RowE W (.slice (some ⟨ga, 0, none⟩) n ca) l ∧ RowQ W (.slice (some ⟨gb, 0, none⟩) n cb) l ∧ Below w.heap.size w W) (by kernel_rfl) hS0 (fun hHeld => ?_))
      refine wpAnyH_take (i := 0) (v := ?_) rfl (by kernel_rfl) (by kernel_rfl) (by kernel_rfl) (fun _ _ _ h => h) (Or.inl ⟨by rfl, ?_⟩) (by assumption) ?_
      rotate_left
      · intro w' hSw
        obtain ⟨hs0, hs1, -⟩ := hSw
        go_simp
        first | done | with_reducible rfl
      simp only [Act.put, List.getElem_toArray, List.getElem_cons_zero, List.setIfInBounds_toArray, List.set_cons_zero, List.set_cons_succ]
      refine wpAnyH_take (i := 1) (v := ?_) rfl (by kernel_rfl) (by kernel_rfl) (by kernel_rfl) (fun _ _ _ h => h) (Or.inl ⟨by rfl, ?_⟩) (by assumption) ?_
      rotate_left
      · intro w' hSw
        obtain ⟨hs0, hs1, -⟩ := hSw
        go_simp
        first | done | with_reducible rfl
      simp only [Act.put, List.getElem_toArray, List.getElem_cons_succ, List.getElem_cons_zero, List.setIfInBounds_toArray, List.set_cons_zero, List.set_cons_succ]
      refine wpAnyH_take (i := 2) (v := ?_) rfl (by kernel_rfl) (by kernel_rfl) (by kernel_rfl) (fun _ _ _ h => h) (Or.inl ⟨by rfl, ?_⟩) (by assumption) ?_
      rotate_left
      · intro w' hSw
        obtain ⟨hs0, hs1, -⟩ := hSw
        go_simp
        first | done | with_reducible rfl
      simp only [Act.put, List.getElem_toArray, List.getElem_cons_succ, List.getElem_cons_zero, List.setIfInBounds_toArray, List.set_cons_zero, List.set_cons_succ]
      refine wpAnyH_take (i := 3) (v := .agg x.cells.toArray) rfl (by kernel_rfl) (by kernel_rfl) (by kernel_rfl) (fun _ _ _ h => h) (Or.inl ⟨by rfl, ?_⟩) (by assumption) ?_
      · intro w' hSw
        exact exec_load_mid 47 (.tmp 19) rfl ga (i * 5) rfl x.cells _ hSw.1 Tryd.underlying47 rfl (HI.out x)
      simp only [Act.put, List.getElem_toArray, List.getElem_cons_succ, List.getElem_cons_zero, List.setIfInBounds_toArray, List.set_cons_zero, List.set_cons_succ]
      refine wpAnyH_take (i := 5) (v := ?_) rfl (by kernel_rfl) (by kernel_rfl) (by kernel_rfl) (fun _ _ _ h => h) (Or.inl ⟨by rfl, ?_⟩) (by assumption) ?_
      rotate_left
      · intro w' hSw
        obtain ⟨hs0, hs1, -⟩ := hSw
        go_simp
        first | done | with_reducible rfl
      simp only [Act.put, List.getElem_toArray, List.getElem_cons_succ, List.getElem_cons_zero, List.setIfInBounds_toArray, List.set_cons_zero, List.set_cons_succ]
      refine wpAnyH_take (i := 6) (v := ?_) rfl (by kernel_rfl) (by kernel_rfl) (by kernel_rfl) (fun _ _ _ h => h) (Or.inl ⟨by rfl, ?_⟩) (by assumption) ?_
      rotate_left
      · intro w' hSw
        obtain ⟨hs0, hs1, -⟩ := hSw
        go_simp
        first | done | with_reducible rfl
      simp only [Act.put, List.getElem_toArray, List.getElem_cons_succ, List.getElem_cons_zero, List.setIfInBounds_toArray, List.set_cons_zero, List.set_cons_succ]
      refine wpAnyH_take (i := 7) (v := ?_) rfl (by kernel_rfl) (by kernel_rfl) (by kernel_rfl) (fun _ _ _ h => h) (Or.inl ⟨by rfl, ?_⟩) (by assumption) ?_
      rotate_left
      · intro w' hSw
        obtain ⟨hs0, hs1, -⟩ := hSw
        go_simp
        first | done | with_reducible rfl
      simp only [Act.put, List.getElem_toArray, List.getElem_cons_succ, List.getElem_cons_zero, List.setIfInBounds_toArray, List.set_cons_zero, List.set_cons_succ]
      refine wpAnyH_take (i := 8) (v := .agg x.cells.toArray) rfl (by kernel_rfl) (by kernel_rfl) (by kernel_rfl) (fun _ _ _ h => h) (Or.inl ⟨by rfl, ?_⟩) (by assumption) ?_
      · intro w' hSw
        exact exec_load_mid 43 (.tmp 24) rfl gb (i * 5) rfl x.cells _ hSw.2.1 Tryd.underlying43 rfl (HJ.out x)
      simp only [Act.put, List.getElem_toArray, List.getElem_cons_succ, List.getElem_cons_zero, List.setIfInBounds_toArray, List.set_cons_zero, List.set_cons_succ]
      refine wpAnyH_all (rs := [4]) (by kernel_rfl) (by simp) (fun q hq => ?_)
      obtain rfl := List.mem_singleton.1 hq
      clear hq
      refine wpOp_wp rfl (by rfl) (fun K' hK => ?_)
      go_simp
      refine (CT.out _).mono ?_
      rintro y W5 ⟨rfl, hb5⟩
      have hS5 : W5.rangeAt ga (i * 5) x.cells ∧ W5.rangeAt gb (i * 5) x.cells ∧ RowE W5 (.slice (some ⟨ga, 0, none⟩) n ca) l ∧ RowQ W5 (.slice (some ⟨gb, 0, none⟩) n cb) l ∧ Below w.heap.size w W5 := by
        have h1 := hS0.2.2.1.later hb5
        have h2 := hS0.2.2.2.1.later hb5
        exact ⟨HXA.out _ h1, HXB.out _ h2, h1, h2, chain2 hS0.2.2.2.2 hb5⟩
      refine hK.out _ _ ⟨hS5, ?_⟩
      clear hK K' hb5
      try simp only [Act.put, List.getElem_toArray, List.getElem_cons_succ, List.getElem_cons_zero, List.setIfInBounds_toArray, List.set_cons_zero, List.set_cons_succ]
      refine wpAnyH_take (i := 9) (v := .bool false) rfl (by kernel_rfl) (by kernel_rfl) (by kernel_rfl) (fun _ _ _ h => h) (Or.inl ⟨by rfl, ?_⟩) (by assumption) ?_
      · intro w' hSw
        exact exec_same (e := x) rfl rfl rfl
      simp only [Act.put, List.getElem_toArray, List.getElem_cons_succ, List.getElem_cons_zero, List.setIfInBounds_toArray, List.set_cons_zero, List.set_cons_succ]
      refine wpAnyH_done (by kernel_rfl) (NoPanic.normal ?_) _
      have HF := Lib.hid hS5.2.2
      clear hS5 hS0
      go_wp2
      go_roundw
      case rel => exact ⟨i + 1, by omega, by go_num, HF⟩
      case measure => simp [intOf]; omega
    · obtain rfl : i = n := by omega
      go_wp2
      go_ret
      exact ⟨rfl, hI.out.2.2⟩

theorem same_yes (va vb : Value) (l : List Ent) (hl : l.length ≤ 8) (w : World) (ha : RowE w va l) (hb : RowQ w vb l) :
    Calls Tryd.prog 33 #[va, vb] w fun e w' => e = .returned (.bool true) ∧ Below w.heap.size w w' := by
  obtain ⟨pa, ca, rfl, ha2⟩ := ha.form
  obtain ⟨pb, cb, rfl, hb2⟩ := hb.form
  by_cases h0 : l.length = 0
  · rw [h0]
    exact (same_none pa pb ca cb w).mono fun _ _ ⟨a, b⟩ => by subst b; exact ⟨a, Below.refl _ _⟩
  · obtain ⟨ga, rfl⟩ := ha2 (by omega)
    obtain ⟨gb, rfl⟩ := hb2 (by omega)
    exact same_some ga gb l.length ca cb l rfl hl w ha hb

end Go.Proofs.YtkplmaaeggnbgaaDoor.Rg
