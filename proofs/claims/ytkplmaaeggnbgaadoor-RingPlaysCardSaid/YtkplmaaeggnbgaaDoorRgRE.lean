/- Rows of entries as they lie in memory; two steps of a still region. No condition but those that each states. -/
import Derived.Test.YtkplmaaeggnbgaaDoorRgCP
import Derived.Test.YtkplmaaeggnbgaaDoorRgK
import Derived.Test.YtkplmaaeggnbgaaDoorDkSo
namespace Go.Proofs.YtkplmaaeggnbgaaDoor.Rg
open Go.RowKit Dk

section
variable {Pr : Program} {ops : Array Oper} {Q : Act → Prop} {a : Act} {w : World} {o : Oper} {rest : List Oper}
theorem still_run (hw : Region.wanted o (yielded ops a.tmps) = true) {v : Value} (hr : (execOp a.eval o).run Pr w = .ok (.value v) w) (h : wpStill Pr ops w Q rest (a.put o.dst v)) : wpStill Pr ops w Q (o :: rest) a :=
  wpStill_step fun K hK => by
    rw [if_pos hw]
    unfold Oper.still
    simp only [hr, Oper.stillUpon]
    exact ⟨trivial, hK _ h⟩

theorem exec_load_mid {P : Program} {o : Oper} {a : Act} {W : World} (ty : TypeId) (x : Operand) (ho : o.op = .load ty x) (b p : Nat) (hx : a.eval x = .pointer (some ⟨b, p, none⟩)) (cs : List Value) (d : TypeDesc) (hc : W.rangeAt b p cs)
    (hu : P.underlying ty = some d) (hd : d.isRow = true) (hi : (P.info? ty).map (·.size) = some cs.length) : (execOp a.eval o).run P W = .ok (.value (.agg cs.toArray)) W := by
  have hl := run_loadVar_mid (P := P) W b p ty cs d hc hu hd hi
  unfold execOp
  simp only [ho, hx, Instr.loadAt, Instr.sureAddr, Sem.run_bind, Sem.run_pure, Result.andThen_ok, hl]
end

/-- The row of entries l lies in block g from its beginning on. -/
structure RowE (W : World) (v : Value) (l : List Ent) : Prop where
  row : W.ownsRow 0 47 5 v l.length (ecells l)
  lt : ∀ b, v.ownBlock = some b → b < W.heap.size

theorem RowE.later {W W' : World} {v : Value} {l : List Ent} (h : RowE W v l) (k : Below W.heap.size W W') : RowE W' v l :=
  ⟨ownsRow_block h.row (fun b hb => k.block b (h.lt b hb)), fun b hb => Nat.lt_of_lt_of_le (h.lt b hb) k.size⟩
theorem RowE.only {W W' : World} {G : Nat → Prop} {v : Value} {l : List Ent} (h : RowE W v l) (k : Only G W W') (hG : ∀ b, v.ownBlock = some b → ¬G b) : RowE W' v l :=
  ⟨ownsRow_block h.row (fun b hb => k.block b (h.lt b hb) (hG b hb)), fun b hb => Nat.lt_of_lt_of_le (h.lt b hb) k.size⟩
theorem ScanR.rowE {w W : World} {v : Value} {l : List Ent} (h : ScanR w W v l) : RowE W v l :=
  ⟨own_zero h.row, fun b hb => (own_lo h.row b hb).2⟩

theorem RowE.form {W : World} {v : Value} {l : List Ent} (h : RowE W v l) : ∃ pa cap, v = .slice pa l.length cap ∧ (0 < l.length → ∃ g, pa = some ⟨g, 0, none⟩) := by
  rcases h.row.2 with ⟨hv, h0⟩ | ⟨g', cap, cur, hv, -⟩
  · exact ⟨none, 0, by rw [hv, h0], fun e => by omega⟩
  · exact ⟨_, _, hv, fun _ => ⟨g', rfl⟩⟩

theorem RowE.at {W : World} {g cap n : Nat} {l : List Ent} (h : RowE W (.slice (some ⟨g, 0, none⟩) n cap) l) (hn : n = l.length) {q : Nat} {e : Ent} (he : l[q]? = some e) : W.rangeAt g (q * 5) e.cells := by
  subst hn
  have hq : q < l.length := (List.getElem?_eq_some_iff.1 he).1
  have e1 : l.take q ++ e :: l.drop (q + 1) = l := by
    rw [List.getElem?_eq_getElem hq] at he
    cases he
    rw [← List.drop_eq_getElem_cons hq, List.take_append_drop]
  have hr := h.row
  have hr2 : W.ownsRow 0 47 5 (.slice (some ⟨g, 0, none⟩) l.length cap) l.length (ecells (l.take q ++ e :: l.drop (q + 1))) := by rw [e1]; exact hr
  have := row_range hr2
  rwa [List.length_take, Nat.min_eq_left (Nat.le_of_lt hq)] at this

end Go.Proofs.YtkplmaaeggnbgaaDoor.Rg
