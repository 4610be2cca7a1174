/- The walk of Sum, Len and Of, and of all methods at a Hash that is none: their contracts. No condition but those that each states. -/
import Derived.Test.YthddiijnomhpfaaDoorDgM
namespace Go.Proofs.YthddiijnomhpfaaDoor
open Go.RowKit

set_option maxHeartbeats 1000000 in
set_option maxRecDepth 100000 in
theorem sum_any (l : List UInt8) (g : Nat) (w : World) (hH : HashAt w g l) (HK : HasK w) (hl : l.length ≤ 900000) :
    Calls Tryd.prog 7 #[.pointer (some ⟨g, 0, none⟩)] w fun e w' => e = .returned (.string ⟨(sha l).toArray⟩) ∧ Below w.heap.size w w' := by
  have HH := Lib.hid hH
  have hg := hH.lt
  have HK0 := Lib.hid HK
  clear hH HK
  go_enter Tryd.func7, Tryd.ntmps7
  go_wp2_with (go_at_call 35; refine (isValid_yes _ _ HH.out.self).mono ?_; rintro e w' ⟨rfl, rfl⟩)
  go_wp2_with fail
  refine (copy_hash l g _ HH.out).mono ?_
  rintro e w1 ⟨rfl, hN, hb1, hlt1⟩
  have HN := Lib.hid hN
  have HB1 := Lib.hid hb1
  have hs1 : w1.cell? ⟨g, 73, none⟩ = some (.int .i64 (l.length : Int)) := (HH.out.later hb1 hg).size
  clear hN hb1
  go_wp2_with fail
  refine (ending_any l.length (by omega) _).mono ?_
  rintro e w2 ⟨rfl, hb2⟩
  have HB2 := Lib.hid hb2
  clear hb2
  go_wp2_with fail
  refine (write_any _ l w.heap.size _ (HN.out.later HB2.out hlt1) (HK0.out.later (chain2 HB1.out HB2.out)) (by
    have : (endOf l.length).length ≤ 72 := by rw [endOf_length]; unfold zerosOf; omega
    simp [ByteArray.size]; omega)).mono ?_
  rintro e w3 ⟨rfl, hW, hJ⟩
  have hpad : l ++ (⟨(endOf l.length).toArray⟩ : ByteArray).data.toList = pad l := by simp [pad]
  rw [hpad] at hW
  have hw1 : Hid (w3.rangeAt w.heap.size 1 (r8v (absorb (pad l) ((pad l).length / 64)))) := Lib.hid hW.words
  have HB3 : Hid (Below w.heap.size w w3) := Lib.hid (hJ.below (chain2 HB1.out HB2.out) (Nat.le_refl _) (Nat.le_refl _))
  clear hW hJ hpad hs1
  go_wp2_with (refine wpList_load_mid rfl 24 _ rfl w.heap.size 1 rfl (r8v (absorb (pad l) ((pad l).length / 64))) _ hw1.out Tryd.underlying24 rfl size8w ?_)
  refine (encode_dig _ (absorb_ok _ _) _).mono ?_
  rintro e w4 ⟨rfl, hb4⟩
  have HB4 := Lib.hid (chain2 HB3.out hb4)
  clear hb4
  go_wp2
  go_ret
  exact ⟨rfl, HB4.out⟩

set_option maxHeartbeats 400000 in
theorem len_any (l : List UInt8) (g : Nat) (w : World) (hH : HashAt w g l) :
    Calls Tryd.prog 8 #[.pointer (some ⟨g, 0, none⟩)] w fun e w' => e = .returned (.int .i64 (l.length : Int)) ∧ w = w' := by
  have hs := hH.size
  have HH := Lib.hid hH
  clear hH
  go_enter Tryd.func8, Tryd.ntmps8
  go_wp2_with (go_at_call 35; refine (isValid_yes _ _ HH.out.self).mono ?_; rintro e w' ⟨rfl, rfl⟩)
  go_ret
  exact ⟨rfl, rfl⟩

set_option maxHeartbeats 400000 in
theorem of_any (s : ByteArray) (w : World) (HK : HasK w) (hs : s.size ≤ 900000) :
    Calls Tryd.prog 41 #[.string s] w fun e w' => e = .returned (.string ⟨(sha s.data.toList).toArray⟩) ∧ Below w.heap.size w w' := by
  have HK0 := Lib.hid HK
  have h0 := HK.lt
  clear HK
  go_enter Tryd.func41, Tryd.ntmps41
  go_wp2_with fail
  refine (new_any _ h0).mono ?_
  rintro e w1 ⟨rfl, hN, hb1, hlt1⟩
  have HN := Lib.hid hN
  have HB1 := Lib.hid hb1
  clear hN hb1
  go_wp2_with fail
  refine (write_any s [] w.heap.size _ HN.out (HK0.out.later HB1.out) (by simp; omega)).mono ?_
  rintro e w2 ⟨rfl, hW, hJ⟩
  rw [List.nil_append] at hW
  have HW := Lib.hid hW
  have HJ := Lib.hid hJ
  have hp : 0 < w.heap.size := h0
  clear hW hJ
  go_wp2_with fail
  refine (sum_any _ w.heap.size _ HW.out ((HK0.out.later HB1.out).just HJ.out hp) (by simpa using hs)).mono ?_
  rintro e w3 ⟨rfl, hb3⟩
  have HB3 : Hid (Below w.heap.size w w3) := Lib.hid (chain2 (HJ.out.below HB1.out (Nat.le_refl _) (Nat.le_refl _)) hb3)
  clear hb3
  go_wp2
  go_ret
  exact ⟨rfl, HB3.out⟩

/-! A Hash that is none: nil, or one that New did not return. -/
def NoHash (w : World) (p : Value) : Prop := p = .pointer none ∨ ∃ g, p = .pointer (some ⟨g, 0, none⟩) ∧ w.cell? ⟨g, 0, none⟩ = some (.pointer none)

theorem isValid_none (p : Value) (w : World) (h : NoHash w p) :
    Calls Tryd.prog 35 #[p] w fun e w' => e = .returned (.bool false) ∧ w = w' := by
  rcases h with rfl | ⟨g, rfl, hc⟩
  · exact isValid_nil w
  · exact isValid_zero g w hc

set_option maxHeartbeats 400000 in
theorem write_none (p : Value) (s : ByteArray) (w : World) (h : NoHash w p) :
    Calls Tryd.prog 6 #[p, .string s] w fun e w' => e = .returned (.tuple #[]) ∧ w = w' := by
  go_enter Tryd.func6, Tryd.ntmps6
  go_wp2_with (go_at_call 35; refine (isValid_none _ _ h).mono ?_; rintro e w' ⟨rfl, rfl⟩)
  refine bodyPost_ret (results_none rfl _ _ _) rfl ⟨rfl, rfl⟩

set_option maxHeartbeats 400000 in
theorem sum_none (p : Value) (w : World) (h : NoHash w p) :
    Calls Tryd.prog 7 #[p] w fun e w' => e = .returned (.string ⟨#[]⟩) ∧ w = w' := by
  go_enter Tryd.func7, Tryd.ntmps7
  go_wp2_with (go_at_call 35; refine (isValid_none _ _ h).mono ?_; rintro e w' ⟨rfl, rfl⟩)
  go_ret
  exact ⟨rfl, rfl⟩

set_option maxHeartbeats 400000 in
theorem len_none (p : Value) (w : World) (h : NoHash w p) :
    Calls Tryd.prog 8 #[p] w fun e w' => e = .returned (.int .i64 0) ∧ w = w' := by
  go_enter Tryd.func8, Tryd.ntmps8
  go_wp2_with (go_at_call 35; refine (isValid_none _ _ h).mono ?_; rintro e w' ⟨rfl, rfl⟩)
  go_ret
  exact ⟨rfl, rfl⟩

set_option maxHeartbeats 400000 in
theorem copy_none (p : Value) (w : World) (h : NoHash w p) :
    Calls Tryd.prog 9 #[p] w fun e w' => e = .returned (.pointer none) ∧ w = w' := by
  go_enter Tryd.func9, Tryd.ntmps9
  go_wp2_with (go_at_call 35; refine (isValid_none _ _ h).mono ?_; rintro e w' ⟨rfl, rfl⟩)
  go_ret
  exact ⟨rfl, rfl⟩

end Go.Proofs.YthddiijnomhpfaaDoor
