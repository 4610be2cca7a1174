/- A byte at a place. No condition but those that it states. -/
import Derived.Test.YtcfgngaabledpaaTnD
namespace Go.Proofs.Ytcfgngaabledpaa.Lx
open Go.RowKit Dk
theorem byte_at {P : Program} (s : ByteArray) (a : Nat) (c : UInt8) (r : List UInt8) (hl : from' s a = c :: r) (t : TypeId) (ht : P.underlying t = some .string) (W : World) : (Instr.index t (.string s) (.int .i64 (a : Int))).run P W = .ok (.int .u8 (c.toNat : Int)) W := by
  have hlen := from_length s a
  rw [hl] at hlen
  simp at hlen
  have ha : a < s.size := by omega
  have h1 : s[a]'ha = c := by
    have h2 : s.data.toList[a]'(by simpa using ha) = c := by
      have := List.drop_eq_getElem_cons (i := a) (l := s.data.toList) (by simpa using ha)
      unfold from' at hl
      rw [hl] at this
      exact ((List.cons.inj this).1).symm
    rw [← h2]; rfl
  have g1 : (0 : Int) ≤ (a : Int) := by omega
  have g2 : (a : Int) < (s.size : Int) := by omega
  rw [← h1]
  go_simp
end Go.Proofs.Ytcfgngaabledpaa.Lx
