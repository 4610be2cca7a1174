/- The walk of DigestNil: it returns true wherever the table of constants lies. No condition but that. -/
import Derived.Test.YtlhnnkkiojjcpaaDoorDgP
namespace Go.Proofs.YtlhnnkkiojjcpaaDoor
open Go.RowKit

theorem noHash_nil (w : World) : NoHash w (.pointer none) := Or.inl rfl
theorem noHash_zero {w : World} {g : Nat} (h : w.cell? ⟨g, 0, none⟩ = some (.pointer none)) : NoHash w (.pointer (some ⟨g, 0, none⟩)) := Or.inr ⟨g, rfl, h⟩

set_option maxHeartbeats 1000000 in
set_option maxRecDepth 100000 in
theorem digestNil_walk (s : ByteArray) (w : World) (HK : HasK w) :
    Calls Tryd.prog 6 #[.string s] w fun e w' => e = .returned (.bool true) ∧ Below w.heap.size w w' := by
  have K0 := Lib.hid HK
  clear HK
  have hz := zero_hash
  have hl : hash0.length = 74 := by kernel_rfl
  have hz0 : hash0[0]? = some (.pointer none) := rfl
  go_enter Tryd.func6, Tryd.ntmps6
  go_wp2_with fail
  have hc0 : (w.alloc (Obj.cells hash0.toArray 38)).cell? ⟨w.heap.size, 0, none⟩ = some (.pointer none) := by
    rw [World.cell?_alloc_mark]; rfl
  have HZ := Lib.hid (noHash_zero hc0)
  have HK1 : Hid (HasK (w.alloc (Obj.cells hash0.toArray 38))) := Lib.hid (K0.out.later ((Below.refl _ _).alloc (Nat.le_refl _) _))
  have HB1 : Hid (Below w.heap.size w (w.alloc (Obj.cells hash0.toArray 38))) := Lib.hid ((Below.refl _ _).alloc (Nat.le_refl _) _)
  clear hc0 hz hl hz0
  generalize w.alloc (Obj.cells hash0.toArray 38) = w1 at HZ HK1 HB1 ⊢
  refine (write_none _ s w1 (noHash_nil w1)).mono ?_
  rintro e w' ⟨rfl, rfl⟩
  go_wp2_with fail
  refine (write_none _ s w1 HZ.out).mono ?_
  rintro e w' ⟨rfl, rfl⟩
  go_wp2_with fail
  refine (sum_none _ w1 (noHash_nil w1)).mono ?_
  rintro e w' ⟨rfl, rfl⟩
  go_wp2_with fail
  refine (sum_none _ w1 HZ.out).mono ?_
  rintro e w' ⟨rfl, rfl⟩
  go_wp2_with fail
  refine (len_none _ w1 (noHash_nil w1)).mono ?_
  rintro e w' ⟨rfl, rfl⟩
  go_wp2_with fail
  refine (len_none _ w1 HZ.out).mono ?_
  rintro e w' ⟨rfl, rfl⟩
  go_wp2_with fail
  refine (copy_none _ w1 (noHash_nil w1)).mono ?_
  rintro e w' ⟨rfl, rfl⟩
  go_wp2_with fail
  refine (copy_none _ w1 HZ.out).mono ?_
  rintro e w' ⟨rfl, rfl⟩
  go_wp2_with fail
  refine (known2 w1 HK1.out).mono ?_
  rintro e w2 ⟨rfl, hb2⟩
  have HB2 := Lib.hid (chain2 HB1.out hb2)
  clear hb2
  go_wp2
  go_ret
  exact ⟨rfl, HB2.out⟩

theorem digestNil_law (s : ByteArray) (_h : s.size ≤ maxLen) (w : World) (HK : HasK w) :
    Calls Tryd.prog 6 #[.string s] w fun e w' => e = .returned (.bool true) ∧ Below w.heap.size w w' := digestNil_walk s w HK

end Go.Proofs.YtlhnnkkiojjcpaaDoor
