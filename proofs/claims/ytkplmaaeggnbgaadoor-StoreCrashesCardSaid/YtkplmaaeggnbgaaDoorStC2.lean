/- StoreCrashes of its argument, as it was read. No condition but those that each states. -/
import Derived.Test.YtkplmaaeggnbgaaDoorStCrW
namespace Go.Proofs.YtkplmaaeggnbgaaDoor.St
open Go.RowKit Dk Rg Sl
open Go.ChangeShapes Go.WideShapes Go.Deep

set_option maxRecDepth 100000 in
theorem storeCrashes_raw {H : Type} {enc : TypeId × Value → H} {w : World} {b0 : Nat} {v : Value} {d : DataW H} {p : List MemPlace}
    (hv : Value.okWide Tryd.prog w .any b0 74 v) (h : DataW.Trod enc Tryd.prog w 0 (fun _ => true) true 74 v d p) (HK : HasK w) :
    Calls Tryd.prog 5 #[v] w fun x w' => x = .returned (.bool true) ∧ Below w.heap.size w w' := by
  obtain ⟨pa, len, cap, rfl, hl, hc⟩ := open_opts hv h
  exact crash_law pa len cap hl w HK hc

end Go.Proofs.YtkplmaaeggnbgaaDoor.St
