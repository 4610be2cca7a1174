/- The table of formats lies where its variable is: what that gives. No condition but those that each states. -/
import Derived.Test.YtmljjpdodcpohaaDoorInP
import Derived.Test.YtmljjpdodcpohaaDoorDkG
import Derived.Test.YtmljjpdodcpohaaDoorChecked
import Derived.Lib.LaidTab
import Derived.ProofKit
import Derived.Below
import Derived.ChangeSame
import Derived.Laws.IdiomStrings
namespace Go.Proofs.YtmljjpdodcpohaaDoor.In
open Go.RowKit Lib Dk

theorem cells_of_pairs {H : Type} {enc : TypeId × Value → H} {P : Program} {w : World} {base : Nat} {sp : Nat → Bool} {held : Bool} {fuel : Nat} {t e s : TypeId} {n : Nat} {f0 f1 : Field} {cs : List Value} {rs : List (List UInt8 × List UInt8)} {p : List MemPlace}
    (ht : P.underlying t = some (.array n e)) (he : P.underlying e = some (.struct #[f0, f1])) (hs : P.underlying s = some .string) (h0 : f0.type = s ∧ f0.offset = 0) (h1 : f1.type = s ∧ f1.offset = 1) (hcs : P.cellsOf s = 1) (hce : P.cellsOf e = 2) (hct : P.cellsOf t = n * 2)
    (h : DataW.trod enc P w base sp held fuel t cs = some (.agg (rs.map fun r => .agg [.lit (.string r.1), .lit (.string r.2)]), p)) :
    ∀ i r, rs[i]? = some r → cs[i * 2]? = some (.string (strOf r.1)) ∧ cs[i * 2 + 1]? = some (.string (strOf r.2)) := by
  cases fuel with
  | zero => simp [DataW.trod] at h
  | succ fuel =>
    simp only [DataW.trod, ht, hce, hct] at h
    split at h
    · rename_i hl
      obtain ⟨xs, hm, hx⟩ := Option.map_eq_some_iff.1 h
      have hxs : xs.map (·.1) = rs.map fun r => (DataW.agg [.lit (.string r.1), .lit (.string r.2)] : DataW H) := by
        have := congrArg Prod.fst hx
        simpa using this
      have hxl : xs.length = n := by simpa using mapM_length hm
      have hzl : rs.length = n := by
        have := congrArg List.length hxs
        simp at this
        omega
      intro i r hr
      have hi : i < n := by have := (List.getElem?_eq_some_iff.1 hr).1; omega
      obtain ⟨b, hb, hf⟩ := mapM_at hm i i (by simp [hi])
      have h2 : (xs.map (·.1))[i]? = some b.1 := by simp [hb]
      rw [hxs] at h2
      simp only [List.getElem?_map, hr, Option.map_some, Option.some.injEq] at h2
      obtain ⟨y0, y1, m, hy, hlen, k0, k1⟩ := Go.ChangeShapes.trod_struct2 he hf
      rw [h0.1, h0.2, hcs] at k0
      rw [h1.1, h1.2, hcs] at k1
      obtain ⟨s0, e0, z0, -⟩ := DataW.trod_string hs k0
      obtain ⟨s1, e1, z1, -⟩ := DataW.trod_string hs k1
      rw [hy, z0, z1] at h2
      simp only [DataW.agg.injEq, List.cons.injEq, DataW.lit.injEq, Lit.string.injEq, and_true] at h2
      have c0 := congrArg (·[0]?) e0
      have c1 := congrArg (·[0]?) e1
      simp [List.getElem?_drop] at c0 c1
      refine ⟨?_, ?_⟩
      · rw [c0, h2.1]; rfl
      · rw [c1, h2.2]; rfl
    · cases h

/-- The program's table of formats lies where its variable is. -/
structure HasF (w : World) : Prop where
  lt : 0 < w.heap.size
  nm : ∀ k, k < 38 → w.cell? ⟨0, k * 2, none⟩ = some (.string (strOf (ops.getD k ([], [])).1))
  sh : ∀ k, k < 38 → w.cell? ⟨0, k * 2 + 1, none⟩ = some (.string (strOf (ops.getD k ([], [])).2))
theorem HasF.later {w w' : World} (h : HasF w) (k : Below w.heap.size w w') : HasF w' :=
  ⟨Nat.lt_of_lt_of_le h.lt k.size, fun j hj => (k.cell (p := ⟨_, _, none⟩) h.lt).trans (h.nm j hj), fun j hj => (k.cell (p := ⟨_, _, none⟩) h.lt).trans (h.sh j hj)⟩

end Go.Proofs.YtmljjpdodcpohaaDoor.In
