/- Whether two entries are one, as the program asks it. No condition but those that each states. -/
import Derived.Test.YtkplmaaeggnbgaaDoorRgM
import Derived.Laws.StructEq
namespace Go.Proofs.YtkplmaaeggnbgaaDoor.Rg
open Go.RowKit Dk

theorem ent_parts (k n s z k' n' s' z' : Int) (q q' : ByteArray) (W : World) : (Op.equalIn 10000 47 (.agg #[.int .i64 k, .int .i64 n, .int .i64 s, .int .i64 z, .string q]) (.agg #[.int .i64 k', .int .i64 n', .int .i64 s', .int .i64 z', .string q'])).run Tryd.prog W =
    (if k = k' then if n = n' then if s = s' then if z = z' then if q.toList = q'.toList then Result.ok true W else Result.ok false W else Result.ok false W else Result.ok false W else Result.ok false W else Result.ok false W) := by
  rw [run_equalIn_struct W 9999 47 _ _ (by kernel_rfl) (by kernel_rfl)]
  go_simp

theorem ref_parts (k n s z k' n' s' z' : Int) (q q' : ByteArray) (W : World) : (Op.equalIn 10000 43 (.agg #[.int .i64 k, .int .i64 n, .int .i64 s, .int .i64 z, .string q]) (.agg #[.int .i64 k', .int .i64 n', .int .i64 s', .int .i64 z', .string q'])).run Tryd.prog W =
    (if k = k' then if n = n' then if s = s' then if z = z' then if q.toList = q'.toList then Result.ok true W else Result.ok false W else Result.ok false W else Result.ok false W else Result.ok false W else Result.ok false W) := by
  rw [run_equalIn_struct W 9999 43 _ _ (by kernel_rfl) (by kernel_rfl)]
  go_simp

theorem parts_eq (e f : Ent) (W : World) : (if e.kind = f.kind then if e.number = f.number then if e.slot = f.slot then if e.size = f.size then if (strOf e.sum).toList = (strOf f.sum).toList then Result.ok true W else Result.ok false W else Result.ok false W else Result.ok false W else Result.ok false W else Result.ok false W) = (Result.ok (decide (e = f)) W : Result Bool) := by
  obtain ⟨k, n, s, z, q⟩ := e
  obtain ⟨k', n', s', z', q'⟩ := f
  rw [strOf_tl, strOf_tl]
  by_cases h1 : k = k'
  · by_cases h2 : n = n'
    · by_cases h3 : s = s'
      · by_cases h4 : z = z'
        · by_cases h5 : q = q'
          · simp [h1, h2, h3, h4, h5]
          · simp [h1, h2, h3, h4, h5]
        · simp [h1, h2, h3, h4]
      · simp [h1, h2, h3]
    · simp [h1, h2]
  · simp [h1]

theorem ent_eq (e f : Ent) (W : World) : (Op.equalIn 10000 47 (.agg e.cells.toArray) (.agg f.cells.toArray)).run Tryd.prog W = .ok (decide (e = f)) W :=
  (ent_parts _ _ _ _ _ _ _ _ _ _ W).trans (parts_eq e f W)
theorem ref_eq (e f : Ent) (W : World) : (Op.equalIn 10000 43 (.agg e.cells.toArray) (.agg f.cells.toArray)).run Tryd.prog W = .ok (decide (e = f)) W :=
  (ref_parts _ _ _ _ _ _ _ _ _ _ W).trans (parts_eq e f W)

section
variable {e f : Ent} {t : TypeId} (HE : ∀ W, (Op.equalIn 10000 t (.agg e.cells.toArray) (.agg f.cells.toArray)).run Tryd.prog W = .ok (decide (e = f)) W) (hm : Tryd.prog.eqGuardType Tryd.prog.depth t = false)
include HE hm
theorem exec_eql {ρ : Operand → Value} {o : Oper} {x y : Operand} {u : TypeId} {W : World} (ho : o.op = .binOp .eql t x y u) (hx : ρ x = .agg e.cells.toArray) (hy : ρ y = .agg f.cells.toArray) :
    (execOp ρ o).run Tryd.prog W = .ok (.value (.bool (decide (e = f)))) W := by
  unfold execOp
  simp only [ho, Sem.run_bind, hx, hy, run_eqGuard_agg _ _ _ _ _ _ _ hm, Result.andThen_ok, run_eql_struct, HE, Sem.run_pure]
theorem exec_neq {ρ : Operand → Value} {o : Oper} {x y : Operand} {u : TypeId} {W : World} (ho : o.op = .binOp .neq t x y u) (hx : ρ x = .agg e.cells.toArray) (hy : ρ y = .agg f.cells.toArray) :
    (execOp ρ o).run Tryd.prog W = .ok (.value (.bool (!decide (e = f)))) W := by
  unfold execOp
  simp only [ho, Sem.run_bind, hx, hy, run_eqGuard_agg _ _ _ _ _ _ _ hm, Result.andThen_ok, run_neq_struct, HE, Sem.run_pure]
end

/-- An operation that runs and whose guard says yes. -/
theorem wpList_run_want {P : Program} {ops : Array Oper} {rest : List Oper} {Q : Exit → Act → World → Prop} {o : Oper} {a : Act} {w w' : World} {v : Value} (hw : Region.wanted o (yielded ops a.tmps) = true)
    (hr : (execOp a.eval o).run P w = .ok (.value v) w') (h : wpList P ops Q rest (a.put o.dst v) w') : wpList P ops Q (o :: rest) a w :=
  BigFrame.wpList_want hw fun K hK => by
    simp only [Oper.wp, hr, Oper.upon]
    exact hK _ _ h

section
variable {ops : Array Oper} {rest : List Oper} {Q : Exit → Act → World → Prop} {o : Oper} {a : Act} {w : World} {e f : Ent}
theorem wpList_eql (hw : Region.wanted o (yielded ops a.tmps) = true) (x y : Operand) (ho : o.op = .binOp .eql 47 x y 47) (hx : a.eval x = .agg e.cells.toArray) (hy : a.eval y = .agg f.cells.toArray) (b : Bool) (hb : decide (e = f) = b)
    (h : wpList Tryd.prog ops Q rest (a.put o.dst (.bool b)) w) : wpList Tryd.prog ops Q (o :: rest) a w :=
  wpList_run_want hw (exec_eql (ent_eq e f) (by kernel_rfl) ho hx hy) (by rw [hb]; exact h)
theorem wpList_neq (hw : Region.wanted o (yielded ops a.tmps) = true) (x y : Operand) (ho : o.op = .binOp .neq 47 x y 47) (hx : a.eval x = .agg e.cells.toArray) (hy : a.eval y = .agg f.cells.toArray) (b : Bool) (hb : (!decide (e = f)) = b)
    (h : wpList Tryd.prog ops Q rest (a.put o.dst (.bool b)) w) : wpList Tryd.prog ops Q (o :: rest) a w :=
  wpList_run_want hw (exec_neq (ent_eq e f) (by kernel_rfl) ho hx hy) (by rw [hb]; exact h)
theorem wpList_eqr (hw : Region.wanted o (yielded ops a.tmps) = true) (x y : Operand) (ho : o.op = .binOp .eql 43 x y 43) (hx : a.eval x = .agg e.cells.toArray) (hy : a.eval y = .agg f.cells.toArray) (b : Bool) (hb : decide (e = f) = b)
    (h : wpList Tryd.prog ops Q rest (a.put o.dst (.bool b)) w) : wpList Tryd.prog ops Q (o :: rest) a w :=
  wpList_run_want hw (exec_eql (ref_eq e f) (by kernel_rfl) ho hx hy) (by rw [hb]; exact h)
theorem wpList_ner (hw : Region.wanted o (yielded ops a.tmps) = true) (x y : Operand) (ho : o.op = .binOp .neq 43 x y 43) (hx : a.eval x = .agg e.cells.toArray) (hy : a.eval y = .agg f.cells.toArray) (b : Bool) (hb : (!decide (e = f)) = b)
    (h : wpList Tryd.prog ops Q rest (a.put o.dst (.bool b)) w) : wpList Tryd.prog ops Q (o :: rest) a w :=
  wpList_run_want hw (exec_neq (ref_eq e f) (by kernel_rfl) ho hx hy) (by rw [hb]; exact h)
end

end Go.Proofs.YtkplmaaeggnbgaaDoor.Rg
