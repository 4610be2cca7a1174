/- The walk of what: the bytes of an operation. No condition but those that each states. -/
import Derived.Test.YtmnbkopfmhdijaaDkRg
import Derived.Test.YtmnbkopfmhdijaaDkOp
import Derived.Test.YtmnbkopfmhdijaaDkKx
namespace Go.Proofs.Ytmnbkopfmhdijaa.Dk
open Go.RowKit

def whatV (o : OpV) : ByteArray := if o.odd then o.s else strOf (fullB (UInt8.ofNat o.c))

set_option maxHeartbeats 1000000 in
theorem what_any (o : OpV) (hc : o.c < 256) (w : World) :
    Calls Try.prog 25 #[.agg o.cells.toArray] w fun e w' => e = .returned (.string (whatV o)) ∧ Below w.heap.size w w' := by
  obtain ⟨kind, i, c, s, odd, mask⟩ := o
  have ec : (((UInt8.ofNat c).toNat : Nat) : Int) = (c : Int) := by rw [UInt8.toNat_ofNat']; have : c < 256 := hc; omega
  have CF := fun W => full_any (UInt8.ofNat c) W
  rw [ec] at CF
  have cf := Lib.hid CF
  clear CF ec
  cases odd with
  | true =>
    have e : whatV ⟨kind, i, c, s, true, mask⟩ = s := rfl
    rw [e]
    clear e
    show Calls _ _ #[.agg #[.int .i64 kind, .int .i64 i, .int .u8 (c : Int), .string s, .bool true, .int .u64 (mask : Int)]] w _
    go_enter Try.func25, Try.ntmps25
    go_wp2
    go_ret
    exact ⟨rfl, (Below.refl _ _).alloc (Nat.le_refl _) _⟩
  | false =>
    have e : whatV ⟨kind, i, c, s, false, mask⟩ = strOf (fullB (UInt8.ofNat c)) := rfl
    rw [e]
    clear e
    show Calls _ _ #[.agg #[.int .i64 kind, .int .i64 i, .int .u8 (c : Int), .string s, .bool false, .int .u64 (mask : Int)]] w _
    go_enter Try.func25, Try.ntmps25
    go_wp2_with fail
    refine (cf.out _).mono ?_
    rintro e w' ⟨rfl, hb⟩
    have HZ := Lib.hid (chain2 ((Below.refl w.heap.size w).alloc (Nat.le_refl _) _) hb)
    clear hb
    go_wp2
    go_ret
    exact ⟨rfl, HZ.out⟩

end Go.Proofs.Ytmnbkopfmhdijaa.Dk
