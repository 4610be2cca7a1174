/- The methods of what is no store; the walk of StoreNil: it returns true. No condition but those that each states. -/
import Derived.Test.YtkplmaaeggnbgaaDoorStY
import Derived.Lib.SmallJoins
namespace Go.Proofs.YtkplmaaeggnbgaaDoor.St
open Go.RowKit Dk Rg Sl

theorem noSto_nil (w : World) : NoSto w none := .inl rfl

set_option maxHeartbeats 400000 in
theorem prep_no (p : Option Addr) (t : ByteArray) (w : World) (h : NoSto w p) :
    Calls Tryd.prog 38 #[.pointer p, .string t] w fun e w' => e = .returned (.int .i64 16) ∧ w = w' := by
  go_enter Tryd.func38, Tryd.ntmps38
  go_wp2_with (go_at_call 74; refine (valid_no _ _ h).mono ?_; rintro e w' ⟨rfl, rfl⟩)
  go_ret
  exact ⟨rfl, rfl⟩

set_option maxHeartbeats 400000 in
theorem copy_no (p d : Option Addr) (w : World) (h : NoSto w p) :
    Calls Tryd.prog 44 #[.pointer p, .pointer d] w fun e w' => e = .returned (.pointer none) ∧ w = w' := by
  go_enter Tryd.func44, Tryd.ntmps44
  go_wp2_with (go_at_call 74; refine (valid_no _ _ h).mono ?_; rintro e w' ⟨rfl, rfl⟩)
  go_ret
  exact ⟨rfl, rfl⟩

set_option maxHeartbeats 1000000 in
set_option maxRecDepth 100000 in
theorem comm_no (w : World) :
    Calls Tryd.prog 40 #[.pointer none] w fun e w' => e = .returned (.int .i64 16) ∧ Below w.heap.size w w' := by
  have HT := Lib.hid (take_no none w (.inl rfl) (fun _ h => by cases h))
  have HP := Lib.hid (fun W => vb_put W Sv.zero)
  have HR := Lib.hid vb_room
  go_enter Tryd.func40, Tryd.ntmps40
  go_wp2_with fail
  refine HT.out.mono ?_
  rintro e w1 ⟨rfl, hb⟩
  have HB1 := Lib.hid hb
  have HP1 := Lib.hid (HP.out w1)
  have HR1 := Lib.hid (HR.out w1)
  clear hb HT HP HR
  go_wp2_with (first
    | (refine wpList_store_mid rfl 88 (.tmp 3) (.tmp 9) rfl w1.heap.size 0 Sv.zero.cells.toArray rfl rfl HR1.out (v_infoA _) (v_all _) ?_; generalize World.setCells _ _ _ _ = W2 at HP1 ⊢))
  go_ret
  exact ⟨rfl, chain2 HB1.out HP1.out.2⟩

set_option maxHeartbeats 1000000 in
set_option maxRecDepth 100000 in
theorem drop_no (w : World) :
    Calls Tryd.prog 39 #[.pointer none] w fun e w' => e = .returned (.int .i64 16) ∧ Below w.heap.size w w' := by
  have HT := Lib.hid (take_no none w (.inl rfl) (fun _ h => by cases h))
  have HP := Lib.hid (fun W => vb_put W Sv.zero)
  have HR := Lib.hid vb_room
  go_enter Tryd.func39, Tryd.ntmps39
  go_wp2_with fail
  refine HT.out.mono ?_
  rintro e w1 ⟨rfl, hb⟩
  have HB1 := Lib.hid hb
  have HP1 := Lib.hid (HP.out w1)
  have HR1 := Lib.hid (HR.out w1)
  clear hb HT HP HR
  go_wp2_with (first
    | (refine wpList_store_mid rfl 88 (.tmp 3) (.tmp 8) rfl w1.heap.size 0 Sv.zero.cells.toArray rfl rfl HR1.out (v_infoA _) (v_all _) ?_; generalize World.setCells _ _ _ _ = W2 at HP1 ⊢))
  go_ret
  exact ⟨rfl, chain2 HB1.out HP1.out.2⟩

/-- The cells of a store that is none. -/
def zcells : List Value := [.int .i64 0, .string ⟨#[]⟩, .string ⟨#[]⟩, .pointer none, .bool false, .pointer none, .pointer none]

set_option maxHeartbeats 4000000 in
set_option maxRecDepth 100000 in
theorem storeNil_law (t : ByteArray) (w : World) (HK : HasK w) : Calls Tryd.prog 7 #[.string t] w fun e w' => e = .returned (.bool true) ∧ Below w.heap.size w w' := by
  have HHK := Lib.hid HK
  clear HK
  by_cases hl : 5000 < t.size
  · have t0 : decide (5000 < t.size) = true := decide_eq_true hl
    have t1 : decide ((5000 : Int) < (t.size : Int)) = true := decide_eq_true (by omega)
    go_enter Tryd.func7, Tryd.ntmps7
    go_wp2_with fail
    refine (known7 _ HHK.out).mono ?_
    rintro y w1 ⟨rfl, hb⟩
    have HB1 := Lib.hid hb
    clear hb
    go_wp2
    go_ret
    exact ⟨rfl, HB1.out⟩
  · have t0 : decide (5000 < t.size) = false := decide_eq_false hl
    have t1 : decide ((5000 : Int) < (t.size : Int)) = false := decide_eq_false (by omega)
    have HO := Lib.hid (open_no none w (.inl rfl) (fun _ h => by cases h))
    have HZ : Hid (∀ W : World, NoSto (W.alloc (.cells #[.int .i64 0, .string ⟨#[]⟩, .string ⟨#[]⟩, .pointer none, .bool false, .pointer none, .pointer none] 91)) (some ⟨W.heap.size, 0, none⟩) ∧ Below W.heap.size W (W.alloc (.cells #[.int .i64 0, .string ⟨#[]⟩, .string ⟨#[]⟩, .pointer none, .bool false, .pointer none, .pointer none] 91))) :=
      Lib.hid (fun W => ⟨.inr ⟨W.heap.size, rfl, (cb_new W zcells 91).cell (i := 6) rfl⟩, (Below.refl _ _).alloc (Nat.le_refl _) _⟩)
    go_enter Tryd.func7, Tryd.ntmps7
    go_wp2_with fail
    refine HO.out.mono ?_
    rintro y w1 ⟨rfl, hb⟩
    have HB1 := Lib.hid hb
    have HZ1 := Lib.hid (HZ.out w1)
    clear hb HO HZ
    go_wp2_with (first
      | (go_at_call 42; refine (text_no none _ (noSto_nil _)).mono ?_; rintro e w' ⟨rfl, rfl⟩)
      | (go_at_call 38; (with_reducible refine (prep_no none t _ (noSto_nil _)).mono ?_); rintro e w2 ⟨rfl, hw2⟩; subst hw2)
      | (go_at_call 38; (with_reducible refine (prep_no _ t _ HZ1.out.1).mono ?_); rintro e w' ⟨rfl, rfl⟩; have HB2 := Lib.hid (chain2 HB1.out HZ1.out.2); clear HB1 HZ1)
      | (go_at_call 40; refine (comm_no _).mono ?_; rintro e w3 ⟨rfl, hb3⟩; have HB3 := Lib.hid (chain2 HB2.out hb3); clear hb3 HB2)
      | (go_at_call 39; refine (drop_no _).mono ?_; rintro e w4 ⟨rfl, hb4⟩; have HB4 := Lib.hid (chain2 HB3.out hb4); clear hb4 HB3)
      | (go_at_call 43; refine (waits_no none _ (noSto_nil _)).mono ?_; rintro e w' ⟨rfl, rfl⟩)
      | (go_at_call 41; refine (odd_no none _ (noSto_nil _)).mono ?_; rintro e w' ⟨rfl, rfl⟩)
      | (go_at_call 44; refine (copy_no none none _ (noSto_nil _)).mono ?_; rintro e w' ⟨rfl, rfl⟩)
      | (go_at_call 36; refine (known7 _ (HHK.out.later HB4.out)).mono ?_; rintro e w5 ⟨rfl, hb5⟩; have HB5 := Lib.hid (chain2 HB4.out hb5); clear hb5 HB4))
    go_ret
    exact ⟨rfl, HB5.out⟩

theorem storeNil_raw (t : ByteArray) (_ : t.size ≤ maxLen) (w : World) (HK : HasK w) : Calls Tryd.prog 7 #[.string t] w fun e w' => e = .returned (.bool true) ∧ Below w.heap.size w w' := storeNil_law t w HK

end Go.Proofs.YtkplmaaeggnbgaaDoor.St
