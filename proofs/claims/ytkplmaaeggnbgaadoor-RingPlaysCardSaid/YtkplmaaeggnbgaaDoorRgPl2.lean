/- RingPlays of its argument, as it was read. No condition but those that each states. -/
import Derived.Test.YtkplmaaeggnbgaaDoorRgPW
import Derived.Test.YtkplmaaeggnbgaaDoorRgCO
namespace Go.Proofs.YtkplmaaeggnbgaaDoor.Rg
open Go.RowKit Dk
open Go.ChangeShapes Go.WideShapes Go.Deep

set_option maxRecDepth 100000 in
theorem ringPlays_raw {H : Type} {enc : TypeId × Value → H} {w : World} {b0 : Nat} {v : Value} {d : DataW H} {p : List MemPlace}
    (hv : Value.okWide Tryd.prog w .any b0 34 v) (h : DataW.Trod enc Tryd.prog w 0 (fun _ => true) true 34 v d p) (HK : HasK w) :
    Calls Tryd.prog 4 #[v] w fun x w' => x = .returned (.bool true) ∧ Below w.heap.size w w' := by
  obtain ⟨pa, len, cap, rfl, hl, hc⟩ : ∃ pa len cap, v = .slice pa len cap ∧ len ≤ maxLen ∧ ∀ j, j < len → ∃ (b off : Nat) (o : OpC), pa = some ⟨b, off, none⟩ ∧ b < w.heap.size ∧ o.Ok ∧ w.rangeAt b (off + j * 9) o.cells := by
    rcases open_opcs hv h with ⟨pa, cap, rfl⟩ | ⟨b, off, len, cap, rfl, _, hl, hb, hcs⟩
    · exact ⟨pa, 0, cap, rfl, Nat.zero_le _, fun j hj => absurd hj (Nat.not_lt_zero j)⟩
    · exact ⟨_, len, cap, rfl, hl, fun j hj => by obtain ⟨o, ho, hr⟩ := hcs j hj; exact ⟨b, off, o, rfl, hb, ho, hr⟩⟩
  exact plays_law pa len cap hl w HK hc

end Go.Proofs.YtkplmaaeggnbgaaDoor.Rg
