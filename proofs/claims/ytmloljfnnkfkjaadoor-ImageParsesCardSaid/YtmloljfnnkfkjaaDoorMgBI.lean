/- Whether two instructions are one; a struct's load behind a guard. Whether two uses, captures, values, instructions are one. No condition but those that each states. -/
import Derived.Test.YtmloljfnnkfkjaaDoorMgAO
import Derived.Laws.StructEq
import Derived.Test.YtmloljfnnkfkjaaDoorMgBC
namespace Go.Proofs.YtmloljfnnkfkjaaDoor.In
open Go.RowKit Dk

theorem ix_parts (k n s z k' n' s' z' : Int) (W : World) : (Op.equalIn 10000 89 (.agg #[.int .i64 k, .int .i64 n, .int .i64 s, .int .i64 z]) (.agg #[.int .i64 k', .int .i64 n', .int .i64 s', .int .i64 z'])).run Tryd.prog W =
    (if k = k' then if n = n' then if s = s' then if z = z' then Result.ok true W else Result.ok false W else Result.ok false W else Result.ok false W else Result.ok false W) := by
  rw [run_equalIn_struct W 9999 89 _ _ (by kernel_rfl) (by kernel_rfl)]
  go_simp
theorem ix_eq (e f : Ix) (W : World) : (Op.equalIn 10000 89 (.agg e.cells.toArray) (.agg f.cells.toArray)).run Tryd.prog W = .ok (decide (e = f)) W := by
  refine (ix_parts _ _ _ _ _ _ _ _ W).trans ?_
  obtain ⟨k, n, s, z⟩ := e
  obtain ⟨k', n', s', z'⟩ := f
  by_cases h1 : k = k'
  · by_cases h2 : n = n'
    · by_cases h3 : s = s'
      · by_cases h4 : z = z'
        · simp [h1, h2, h3, h4]
        · simp [h1, h2, h3, h4]
      · simp [h1, h2, h3]
    · simp [h1, h2]
  · simp [h1]
section
variable {e f : Ix}
end
section
variable {ops : Array Oper} {rest : List Oper} {Q : Exit → Act → World → Prop} {o : Oper} {a : Act} {w : World} {e f : Ix}
end

end Go.Proofs.YtmloljfnnkfkjaaDoor.In

namespace Go.Proofs.YtmloljfnnkfkjaaDoor.Im
open Go.RowKit Dk In

theorem us_parts (k n : ByteArray) (s : Int) (k' n' : ByteArray) (s' : Int) (W : World) : (Op.equalIn 10000 43 (.agg #[.string k, .string n, .int .i64 s]) (.agg #[.string k', .string n', .int .i64 s'])).run Tryd.prog W =
    (if k.toList = k'.toList then if n.toList = n'.toList then if s = s' then Result.ok true W else Result.ok false W else Result.ok false W else Result.ok false W) := by
  rw [run_equalIn_struct W 9999 43 _ _ (by kernel_rfl) (by kernel_rfl)]
  go_simp
theorem us_eq (e f : Us) (W : World) : (Op.equalIn 10000 43 (.agg e.cells.toArray) (.agg f.cells.toArray)).run Tryd.prog W = .ok (decide (e = f)) W := by
  refine (us_parts _ _ _ _ _ _ W).trans ?_
  obtain ⟨k, n, s⟩ := e
  obtain ⟨k', n', s'⟩ := f
  rw [strOf_tl, strOf_tl, strOf_tl, strOf_tl]
  by_cases h1 : k = k'
  · by_cases h2 : n = n'
    · by_cases h3 : s = s'
      · simp [h1, h2, h3]
      · simp [h1, h2, h3]
    · simp [h1, h2]
  · simp [h1]
theorem cp_parts (k : Bool) (n : Int) (k' : Bool) (n' : Int) (W : World) : (Op.equalIn 10000 83 (.agg #[.bool k, .int .i64 n]) (.agg #[.bool k', .int .i64 n'])).run Tryd.prog W =
    (if k = k' then if n = n' then Result.ok true W else Result.ok false W else Result.ok false W) := by
  rw [run_equalIn_struct W 9999 83 _ _ (by kernel_rfl) (by kernel_rfl)]
  go_simp
theorem cp_eq (e f : Cp) (W : World) : (Op.equalIn 10000 83 (.agg e.cells.toArray) (.agg f.cells.toArray)).run Tryd.prog W = .ok (decide (e = f)) W := by
  refine (cp_parts _ _ _ _ W).trans ?_
  obtain ⟨k, n⟩ := e
  obtain ⟨k', n'⟩ := f
  by_cases h1 : k = k'
  · by_cases h2 : n = n'
    · simp [h1, h2]
    · simp [h1, h2]
  · simp [h1]
theorem vl_parts (k n : Int) (s : ByteArray) (k' n' : Int) (s' : ByteArray) (W : World) : (Op.equalIn 10000 45 (.agg #[.int .i64 k, .int .i64 n, .string s]) (.agg #[.int .i64 k', .int .i64 n', .string s'])).run Tryd.prog W =
    (if k = k' then if n = n' then if s.toList = s'.toList then Result.ok true W else Result.ok false W else Result.ok false W else Result.ok false W) := by
  rw [run_equalIn_struct W 9999 45 _ _ (by kernel_rfl) (by kernel_rfl)]
  go_simp
theorem vl_eq (e f : Vl) (W : World) : (Op.equalIn 10000 45 (.agg e.cells.toArray) (.agg f.cells.toArray)).run Tryd.prog W = .ok (decide (e = f)) W := by
  refine (vl_parts _ _ _ _ _ _ W).trans ?_
  obtain ⟨k, n, s⟩ := e
  obtain ⟨k', n', s'⟩ := f
  rw [strOf_tl, strOf_tl]
  by_cases h1 : k = k'
  · by_cases h2 : n = n'
    · by_cases h3 : s = s'
      · simp [h1, h2, h3]
      · simp [h1, h2, h3]
    · simp [h1, h2]
  · simp [h1]
section
variable {α : Type} [DecidableEq α] {c : α → List Value} {t : TypeId} (HE : ∀ (e f : α) W, (Op.equalIn 10000 t (.agg (c e).toArray) (.agg (c f).toArray)).run Tryd.prog W = .ok (decide (e = f)) W) (hm : Tryd.prog.eqGuardType Tryd.prog.depth t = false)
include HE hm
theorem exec_neqG {e f : α} {ρ : Operand → Value} {o : Oper} {x y : Operand} {u : TypeId} {W : World} (ho : o.op = .binOp .neq t x y u) (hx : ρ x = .agg (c e).toArray) (hy : ρ y = .agg (c f).toArray) :
    (execOp ρ o).run Tryd.prog W = .ok (.value (.bool (!decide (e = f)))) W := by
  unfold execOp
  simp only [ho, Sem.run_bind, hx, hy, run_eqGuard_agg _ _ _ _ _ _ _ hm, Result.andThen_ok, run_neq_struct, HE, Sem.run_pure]
end
theorem cp_infoF (x : Cp) : (Tryd.prog.info? 83).map (·.size) = some x.cells.length := by kernel_rfl
theorem still_runG {Pr : Program} {ops : Array Oper} {w : World} {Q : Act → Prop} {rest : List Oper} {o : Oper} {a : Act} (hw : Region.wanted o (yielded ops a.tmps) = true) {v : Value} (hr : (execOp a.eval o).run Pr w = .ok (.value v) w) (h : wpStill Pr ops w Q rest (a.put o.dst v)) : wpStill Pr ops w Q (o :: rest) a :=
  wpStill_step fun K hK => by
    rw [if_pos hw]
    unfold Oper.still
    simp only [hr, Oper.stillUpon]
    exact ⟨trivial, hK _ h⟩
theorem take_moreG {α : Type} {a b : List α} {i : Nat} {x y : α} (ha : a[i]? = some x) (hb : b[i]? = some y) (h : a.take i = b.take i) (he : x = y) : a.take (i + 1) = b.take (i + 1) := by
  rw [List.take_add_one, List.take_add_one, h, ha, hb, he]
end Go.Proofs.YtmloljfnnkfkjaaDoor.Im

