/- The walk of among: whether an entry stands in a row of entries. No condition but those that each states. -/
import Derived.Test.YthddiijnomhpfaaDoorRgCP
import Derived.Test.YthddiijnomhpfaaDoorRgK
import Derived.Test.YthddiijnomhpfaaDoorDkSo
namespace Go.Proofs.YthddiijnomhpfaaDoor.Rg
open Go.RowKit Dk

section
variable {Pr : Program} {ops : Array Oper} {Q : Act → Prop} {a : Act} {w : World} {o : Oper} {rest : List Oper}
theorem still_run (hw : Region.wanted o (yielded ops a.tmps) = true) {v : Value} (hr : (execOp a.eval o).run Pr w = .ok (.value v) w) (h : wpStill Pr ops w Q rest (a.put o.dst v)) : wpStill Pr ops w Q (o :: rest) a :=
  wpStill_step fun K hK => by
    rw [if_pos hw]
    unfold Oper.still
    simp only [hr, Oper.stillUpon]
    exact ⟨trivial, hK _ h⟩

theorem exec_load_mid {P : Program} {o : Oper} {a : Act} {W : World} (ty : TypeId) (x : Operand) (ho : o.op = .load ty x) (b p : Nat) (hx : a.eval x = .pointer (some ⟨b, p, none⟩)) (cs : List Value) (d : TypeDesc) (hc : W.rangeAt b p cs)
    (hu : P.underlying ty = some d) (hd : d.isRow = true) (hi : (P.info? ty).map (·.size) = some cs.length) : (execOp a.eval o).run P W = .ok (.value (.agg cs.toArray)) W := by
  have hl := run_loadVar_mid (P := P) W b p ty cs d hc hu hd hi
  unfold execOp
  simp only [ho, hx, Instr.loadAt, Instr.sureAddr, Sem.run_bind, Sem.run_pure, Result.andThen_ok, hl]
end

/-- The row of entries l lies in block g from its beginning on. -/
structure RowE (W : World) (v : Value) (l : List Ent) : Prop where
  row : W.ownsRow 0 47 5 v l.length (ecells l)
  lt : ∀ b, v.ownBlock = some b → b < W.heap.size

theorem RowE.later {W W' : World} {v : Value} {l : List Ent} (h : RowE W v l) (k : Below W.heap.size W W') : RowE W' v l :=
  ⟨ownsRow_block h.row (fun b hb => k.block b (h.lt b hb)), fun b hb => Nat.lt_of_lt_of_le (h.lt b hb) k.size⟩
theorem RowE.only {W W' : World} {G : Nat → Prop} {v : Value} {l : List Ent} (h : RowE W v l) (k : Only G W W') (hG : ∀ b, v.ownBlock = some b → ¬G b) : RowE W' v l :=
  ⟨ownsRow_block h.row (fun b hb => k.block b (h.lt b hb) (hG b hb)), fun b hb => Nat.lt_of_lt_of_le (h.lt b hb) k.size⟩
theorem ScanR.rowE {w W : World} {v : Value} {l : List Ent} (h : ScanR w W v l) : RowE W v l :=
  ⟨own_zero h.row, fun b hb => (own_lo h.row b hb).2⟩

theorem RowE.form {W : World} {v : Value} {l : List Ent} (h : RowE W v l) : ∃ pa cap, v = .slice pa l.length cap ∧ (0 < l.length → ∃ g, pa = some ⟨g, 0, none⟩) := by
  rcases h.row.2 with ⟨hv, h0⟩ | ⟨g', cap, cur, hv, -⟩
  · exact ⟨none, 0, by rw [hv, h0], fun e => by omega⟩
  · exact ⟨_, _, hv, fun _ => ⟨g', rfl⟩⟩

theorem RowE.at {W : World} {g cap n : Nat} {l : List Ent} (h : RowE W (.slice (some ⟨g, 0, none⟩) n cap) l) (hn : n = l.length) {q : Nat} {e : Ent} (he : l[q]? = some e) : W.rangeAt g (q * 5) e.cells := by
  subst hn
  have hq : q < l.length := (List.getElem?_eq_some_iff.1 he).1
  have e1 : l.take q ++ e :: l.drop (q + 1) = l := by
    rw [List.getElem?_eq_getElem hq] at he
    cases he
    rw [← List.drop_eq_getElem_cons hq, List.take_append_drop]
  have hr := h.row
  have hr2 : W.ownsRow 0 47 5 (.slice (some ⟨g, 0, none⟩) l.length cap) l.length (ecells (l.take q ++ e :: l.drop (q + 1))) := by rw [e1]; exact hr
  have := row_range hr2
  rwa [List.length_take, Nat.min_eq_left (Nat.le_of_lt hq)] at this

set_option maxHeartbeats 2000000 in
set_option maxRecDepth 100000 in
theorem among_yes (v : Value) (l : List Ent) (e : Ent) (hl : l.length ≤ 8) (he : e ∈ l) (w : World) (h : RowE w v l) :
    Calls Tryd.prog 34 #[v, .agg e.cells.toArray] w fun x w' => x = .returned (.bool true) ∧ Below w.heap.size w w' := by
  obtain ⟨pa, cap, rfl, hpa⟩ := h.form
  obtain ⟨g, rfl⟩ := hpa (List.length_pos_of_mem he)
  have HB0 : Hid (Below w.heap.size w (w.alloc (.cells e.cells.toArray 47))) := Lib.hid ((Below.refl _ _).alloc (Nat.le_refl _) _)
  have HX := Lib.hid (eb_new w e 47)
  have HR := Lib.hid (h.later HB0.out)
  have HI := Lib.hid e_info
  obtain ⟨n, hn⟩ : ∃ n, l.length = n := ⟨_, rfl⟩
  rw [hn] at HR hl ⊢
  have HN := Lib.hid hn
  clear h hpa
  have HM : Hid (e ∈ l.drop 0) := Lib.hid he
  clear he hn
  go_enter Tryd.func34, Tryd.ntmps34
  go_wp2_with fail
  generalize World.alloc w _ = W0 at HB0 HX HR ⊢
  try go_wp2
  go_loopw [5] (fun vi wr => ∃ i : Nat, i ≤ n ∧ vi = .int .i64 i ∧ e ∈ l.drop i ∧ Hid (EB wr w.heap.size e ∧ RowE wr (.slice (some ⟨g, 0, none⟩) n cap) l ∧ Below w.heap.size w wr)) (fun vi _ => n - (intOf vi).toNat)
  case atStart => exact ⟨0, Nat.zero_le _, rfl, HM.out, Lib.hid ⟨HX.out, HR.out, HB0.out⟩⟩
  case round =>
    clear HB0 HX HR HM
    obtain ⟨i, hi, rfl, hm, hI⟩ := hrel
    have hlt : i < n := by
      rcases Nat.lt_or_ge i n with h | h
      · exact h
      · rw [List.drop_eq_nil_of_le (by rw [HN.out]; exact h)] at hm; cases hm
    obtain ⟨x, hx⟩ : ∃ x, l[i]? = some x := ⟨_, List.getElem?_eq_getElem (by rw [HN.out]; exact hlt)⟩
    have hmm : e = x ∨ e ∈ l.drop (i + 1) := by
      rw [List.drop_eq_getElem_cons (by rw [HN.out]; exact hlt)] at hm
      rw [List.getElem?_eq_getElem (by rw [HN.out]; exact hlt)] at hx
      cases hx
      exact List.mem_cons.1 hm
    have HRX := Lib.hid (hI.out.2.1.at HN.out.symm hx)
    have z0 : (0 : Int) ≤ (i : Int) := by omega
    have z1 : (i : Int) < (n : Int) := by omega
    go_wp2_with fail
    obtain ⟨W1, hW1⟩ : ∃ W1, wr.drew = W1 := ⟨_, rfl⟩
    have HW1 := Lib.hid hW1
    have HD : Hid (EB W1 w.heap.size e ∧ RowE W1 (.slice (some ⟨g, 0, none⟩) n cap) l ∧ Below w.heap.size w W1) := Lib.hid (by
      have hb : Below wr.heap.size wr W1 := by rw [← hW1]; exact ⟨rfl, rfl, rfl, Nat.le_refl _, fun _ _ => rfl⟩
      exact ⟨hI.out.1.later hb, hI.out.2.1.later hb, chain2 hI.out.2.2 hb⟩)
    have HRX1 : Hid (W1.rangeAt g (i * 5) x.cells) := Lib.hid (by rw [← hW1]; exact rangeAt_block HRX.out rfl)
    clear hW1 hI HRX
    refine region_still (by kernel_rfl) (by kernel_rfl) W1 HW1.out ?_
    iterate 3 still_step
    refine still_run (by rfl) (exec_load_mid 47 (.tmp 14) rfl g (i * 5) rfl x.cells _ HRX1.out Tryd.underlying47 rfl (HI.out x)) ?_
    refine still_run (by rfl) (exec_load_mid 47 (.tmp 3) rfl w.heap.size 0 rfl e.cells _ HD.out.1.cells Tryd.underlying47 rfl (HI.out e)) ?_
    obtain ⟨d, hd⟩ : ∃ d, decide (x = e) = d := ⟨_, rfl⟩
    refine still_run (v := .bool d) (by rfl) (by rw [← hd]; exact exec_eql (ent_eq x e) (by kernel_rfl) rfl rfl rfl) ?_
    refine wpStill_nil ?_
    simp only [Act.put, List.setIfInBounds_toArray, List.set_cons_zero, List.set_cons_succ]
    clear HRX1 HW1
    cases d with
    | true =>
      go_wp2
      go_ret
      exact ⟨rfl, HD.out.2.2⟩
    | false =>
      have hne := of_decide_eq_false hd
      go_wp2
      go_roundw
      case rel => exact ⟨i + 1, by omega, by go_num, hmm.resolve_left (fun h => hne h.symm), HD⟩
      case measure => simp [intOf]; omega

end Go.Proofs.YthddiijnomhpfaaDoor.Rg
