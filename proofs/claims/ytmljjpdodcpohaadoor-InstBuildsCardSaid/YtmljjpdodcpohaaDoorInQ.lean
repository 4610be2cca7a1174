/- Whether two instructions are one; a struct's load behind a guard. No condition but those that each states. -/
import Derived.Test.YtmljjpdodcpohaaDoorInJ
import Derived.Laws.StructEq
namespace Go.Proofs.YtmljjpdodcpohaaDoor.In
open Go.RowKit Dk

theorem ix_parts (k n s z k' n' s' z' : Int) (W : World) : (Op.equalIn 10000 23 (.agg #[.int .i64 k, .int .i64 n, .int .i64 s, .int .i64 z]) (.agg #[.int .i64 k', .int .i64 n', .int .i64 s', .int .i64 z'])).run Tryd.prog W =
    (if k = k' then if n = n' then if s = s' then if z = z' then Result.ok true W else Result.ok false W else Result.ok false W else Result.ok false W else Result.ok false W) := by
  rw [run_equalIn_struct W 9999 23 _ _ (by kernel_rfl) (by kernel_rfl)]
  go_simp
theorem ix_eq (e f : Ix) (W : World) : (Op.equalIn 10000 23 (.agg e.cells.toArray) (.agg f.cells.toArray)).run Tryd.prog W = .ok (decide (e = f)) W := by
  refine (ix_parts _ _ _ _ _ _ _ _ W).trans ?_
  obtain ⟨k, n, s, z⟩ := e
  obtain ⟨k', n', s', z'⟩ := f
  by_cases h1 : k = k'
  · by_cases h2 : n = n'
    · by_cases h3 : s = s'
      · by_cases h4 : z = z'
        · simp [h1, h2, h3, h4]
        · simp [h1, h2, h3, h4]
      · simp [h1, h2, h3]
    · simp [h1, h2]
  · simp [h1]
section
variable {e f : Ix}
theorem exec_eql {ρ : Operand → Value} {o : Oper} {x y : Operand} {u : TypeId} {W : World} (ho : o.op = .binOp .eql 23 x y u) (hx : ρ x = .agg e.cells.toArray) (hy : ρ y = .agg f.cells.toArray) :
    (execOp ρ o).run Tryd.prog W = .ok (.value (.bool (decide (e = f)))) W := by
  have hm : Tryd.prog.eqGuardType Tryd.prog.depth 23 = false := by kernel_rfl
  unfold execOp
  simp only [ho, Sem.run_bind, hx, hy, run_eqGuard_agg _ _ _ _ _ _ _ hm, Result.andThen_ok, run_eql_struct, ix_eq, Sem.run_pure]
theorem exec_neq {ρ : Operand → Value} {o : Oper} {x y : Operand} {u : TypeId} {W : World} (ho : o.op = .binOp .neq 23 x y u) (hx : ρ x = .agg e.cells.toArray) (hy : ρ y = .agg f.cells.toArray) :
    (execOp ρ o).run Tryd.prog W = .ok (.value (.bool (!decide (e = f)))) W := by
  have hm : Tryd.prog.eqGuardType Tryd.prog.depth 23 = false := by kernel_rfl
  unfold execOp
  simp only [ho, Sem.run_bind, hx, hy, run_eqGuard_agg _ _ _ _ _ _ _ hm, Result.andThen_ok, run_neq_struct, ix_eq, Sem.run_pure]
end
/-- An operation that runs and whose guard says yes. -/
theorem wpList_run_want {P : Program} {ops : Array Oper} {rest : List Oper} {Q : Exit → Act → World → Prop} {o : Oper} {a : Act} {w w' : World} {v : Value} (hw : Region.wanted o (yielded ops a.tmps) = true)
    (hr : (execOp a.eval o).run P w = .ok (.value v) w') (h : wpList P ops Q rest (a.put o.dst v) w') : wpList P ops Q (o :: rest) a w :=
  BigFrame.wpList_want hw fun K hK => by
    simp only [Oper.wp, hr, Oper.upon]
    exact hK _ _ h
section
variable {ops : Array Oper} {rest : List Oper} {Q : Exit → Act → World → Prop} {o : Oper} {a : Act} {w : World} {e f : Ix}
theorem wpList_eql (hw : Region.wanted o (yielded ops a.tmps) = true) (x y : Operand) (ho : o.op = .binOp .eql 23 x y 23) (hx : a.eval x = .agg e.cells.toArray) (hy : a.eval y = .agg f.cells.toArray) (b : Bool) (hb : decide (e = f) = b)
    (h : wpList Tryd.prog ops Q rest (a.put o.dst (.bool b)) w) : wpList Tryd.prog ops Q (o :: rest) a w :=
  wpList_run_want hw (exec_eql ho hx hy) (by rw [hb]; exact h)
theorem wpList_neq (hw : Region.wanted o (yielded ops a.tmps) = true) (x y : Operand) (ho : o.op = .binOp .neq 23 x y 23) (hx : a.eval x = .agg e.cells.toArray) (hy : a.eval y = .agg f.cells.toArray) (b : Bool) (hb : (!decide (e = f)) = b)
    (h : wpList Tryd.prog ops Q rest (a.put o.dst (.bool b)) w) : wpList Tryd.prog ops Q (o :: rest) a w :=
  wpList_run_want hw (exec_neq ho hx hy) (by rw [hb]; exact h)
theorem wpList_ld (hw : Region.wanted o (yielded ops a.tmps) = true) (p : Operand) (ho : o.op = .load 23 p) (b : Nat) (hp : a.eval p = .pointer (some ⟨b, 0, none⟩)) (hc : w.rangeAt b 0 e.cells)
    (h : wpList Tryd.prog ops Q rest (a.put o.dst (.agg e.cells.toArray)) w) : wpList Tryd.prog ops Q (o :: rest) a w :=
  BigFrame.wpList_want hw fun _ hK => wp_load_mid 23 p ho b 0 hp e.cells _ hc Tryd.underlying23 rfl (i_info e) (hK _ _ h)
end

end Go.Proofs.YtmljjpdodcpohaaDoor.In
