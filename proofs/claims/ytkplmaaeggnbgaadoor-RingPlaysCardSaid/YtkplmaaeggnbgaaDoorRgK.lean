/- A journal on a disk since a world; the walk of chrysalislaw05.known: it returns true. No condition but those that each states. -/
import Derived.Test.YtkplmaaeggnbgaaDoorRgQ
namespace Go.Proofs.YtkplmaaeggnbgaaDoor.Rg
open Go.RowKit Dk

variable {w0 : World} {F : Nat → Prop} {g : Nat} {S : DS}

theorem dk_no0 {w : World} (h : Dk w0 w F g S) (HK : HasK w0) : ¬F 0 := fun x => by have := h.lo 0 x; have := HK.lt; omega

theorem dk_app (e : Ent) (w : World) (HK : HasK w0) (h : Dk w0 w F g S) (hc : S.c < 2 ^ 40) (ho : S.ops < 2 ^ 40) :
    Calls Tryd.prog 16 #[.pointer (some ⟨g, 0, none⟩), .agg e.cells.toArray] w fun y w' => y = .returned (.tuple #[.agg (DS.app S e).2.1.cells.toArray, .int .i64 (DS.app S e).2.2]) ∧ Dk w0 w' F g (DS.app S e).1 ∧ Only F w w' :=
  (app_any F g S e w h.here (dk_no0 h HK) (HK.later h.below) hc ho).mono fun _ _ ⟨a, b, c⟩ => ⟨a, h.next b c, c⟩

theorem dk_last (w : World) (HK : HasK w0) (h : Dk w0 w F g S) (hc : S.c ≤ 2 ^ 40) :
    Calls Tryd.prog 31 #[.pointer (some ⟨g, 0, none⟩)] w fun x w' => x = .returned (.tuple #[.agg (DS.last S).1.cells.toArray, .bool (DS.last S).2.1, .int .i64 (DS.last S).2.2]) ∧ Dk w0 w' F g S ∧ Below w.heap.size w w' :=
  (last_any F g S w h.here hc (HK.later h.below)).mono fun _ _ ⟨a, b⟩ => ⟨a, h.later b, b⟩

/-! the fixed calls -/
def kE : Ent := ⟨1, 0, 0, 5, sumB 7⟩
def kE1 : Ent := ⟨1, 1, 0, 5, sumB 7⟩
theorem kE1_valid : kE1.valid = true := by decide +kernel
def kS1 : DS := ((new 16).write 1 kE1.blk).1
def kS2 : DS := kS1.sync.1

theorem k_app : DS.app (new 16) kE = (kS2, kE1, 0) := by
  have h0 := new_lastN 16 (by decide)
  have := app_ok (S := new 16) (T := kS1) (U := kS2) (e := kE) rfl (by rw [h0]; decide) (by rw [h0]; exact kE1_valid) (by rw [h0]; rfl) rfl
  rw [h0] at this
  exact this

theorem k_read : kS2.read 1 = kE1.blk := by
  have h1 : (new 16).write 1 kE1.blk = (kS1, true) := rfl
  have hO : kS1.Ok := ((new_ok (n := 16) (by decide) (by decide)).put (i := 1) (s := kE1.blk) (by decide) (blk_length (sumB_length 7))).tick
  rw [sync_true_read hO (U := kS2) rfl, write_true_read h1, if_pos rfl]

theorem k_last : DS.last (new 16) = (Ent.zero, false, 0) := by
  unfold DS.last
  rw [if_neg (by decide), new_last 16 (by decide)]; rfl

theorem ebt_zero (W : World) (t : TypeId) : EB (W.alloc (.cells #[.int .i64 0, .int .i64 0, .int .i64 0, .int .i64 0, .string ⟨#[]⟩] t)) W.heap.size Ent.zero := eb_new W Ent.zero _
theorem ebt_put (W : World) (t : TypeId) (e : Ent) : EB ((W.alloc (.cells #[.int .i64 0, .int .i64 0, .int .i64 0, .int .i64 0, .string ⟨#[]⟩] t)).setCells W.heap.size 0 e.cells.toArray.toList) W.heap.size e ∧
    Below W.heap.size W ((W.alloc (.cells #[.int .i64 0, .int .i64 0, .int .i64 0, .int .i64 0, .string ⟨#[]⟩] t)).setCells W.heap.size 0 e.cells.toArray.toList) :=
  ⟨(ebt_zero W t).set e, below_setCells (Below.refl _ _) _ (Nat.le_refl _) _ _ _ ((Below.refl _ _).alloc (Nat.le_refl _) _)⟩

set_option maxHeartbeats 2000000 in
set_option maxRecDepth 100000 in
theorem known5 (w : World) (HK : HasK w) : Calls Tryd.prog 34 #[] w fun e w' => e = .returned (.bool true) ∧ Below w.heap.size w w' := by
  have HHK := Lib.hid HK
  clear HK
  have CL : Hid (∀ W, Dk w W (fun k => w.heap.size ≤ k) (w.heap.size + 2) (new 16) → Calls Tryd.prog 31 #[.pointer (some ⟨w.heap.size + 2, 0, none⟩)] W fun x w' => x = .returned (.tuple #[.agg Ent.zero.cells.toArray, .bool false, .int .i64 0]) ∧ Dk w w' (fun k => w.heap.size ≤ k) (w.heap.size + 2) (new 16)) :=
    Lib.hid (fun W h => by have := dk_last W HHK.out h (by decide); rw [k_last] at this; exact this.mono fun _ _ ⟨a, b, _⟩ => ⟨a, b⟩)
  have CA : Hid (∀ W, Dk w W (fun k => w.heap.size ≤ k) (w.heap.size + 2) (new 16) → Calls Tryd.prog 16 #[.pointer (some ⟨w.heap.size + 2, 0, none⟩), .agg kE.cells.toArray] W fun x w' => x = .returned (.tuple #[.agg kE1.cells.toArray, .int .i64 0]) ∧ Dk w w' (fun k => w.heap.size ≤ k) (w.heap.size + 2) kS2) :=
    Lib.hid (fun W h => by have := dk_app kE W HHK.out h (by decide) (by decide); rw [k_app] at this; exact this.mono fun _ _ ⟨a, b, _⟩ => ⟨a, b⟩)
  have CR : Hid (∀ W, Dk w W (fun k => w.heap.size ≤ k) (w.heap.size + 2) kS2 → Calls Tryd.prog 66 #[.pointer (some ⟨w.heap.size + 2, 0, none⟩), .int .i64 1] W fun x w' => x = .returned (.tuple #[.string (strOf kE1.blk), .int .i64 0]) ∧ Below W.heap.size W w') :=
    Lib.hid (fun W h => by have := dk_read 1 W h rfl (by decide) (by decide); rw [k_read] at this; exact this.mono fun _ _ ⟨a, _, b⟩ => ⟨a, b⟩)
  have CP : Hid (∀ W, HasK W → Calls Tryd.prog 67 #[.string (strOf kE1.blk)] W fun x w' => x = .returned (.tuple #[.agg kE1.cells.toArray, .bool true]) ∧ Below W.heap.size W w') :=
    Lib.hid (fun W h => by have := parse_any kE1.blk W h; unfold parsed at this; rw [parse_blk kE1_valid] at this; exact this)
  have CB : Hid (∀ W, Calls Tryd.prog 53 #[.agg Ent.zero.cells.toArray] W fun x w' => x = .returned (.tuple #[.string (strOf []), .int .i64 1]) ∧ Below W.heap.size W w') :=
    Lib.hid (fun W => build_no Ent.zero (by decide +kernel) W)
  have HKE : Hid (#[.int .i64 1, .int .i64 0, .int .i64 0, .int .i64 5, .string (strOf (sumB 7))] = kE.cells.toArray) := Lib.hid rfl
  have HZE : Hid (#[.int .i64 0, .int .i64 0, .int .i64 0, .int .i64 0, .string ⟨#[]⟩] = Ent.zero.cells.toArray) := Lib.hid rfl
  have HC1 : Hid (kE1.cells[1]? = some (.int .i64 1)) := Lib.hid rfl
  generalize strOf kE1.blk = blk at CR CP
  generalize kE1 = E at *
  generalize kS2 = S2 at *
  go_enter Tryd.func34, Tryd.ntmps34
  go_wp2_with fail
  refine (new_dk 16 (by decide) (by decide) w).mono ?_
  rintro e w1 ⟨rfl, hb⟩
  have H1 := Lib.hid hb
  clear hb
  go_wp2_with fail
  refine (CL.out w1 H1.out).mono ?_
  rintro e w2 ⟨rfl, hb⟩
  have H2 := Lib.hid hb
  clear hb H1 CL
  have HZ2 := Lib.hid (ebt_zero w2 47)
  have HP2 := Lib.hid (ebt_put w2 47 Ent.zero)
  go_wp2_with (first
    | (refine wpList_store_mid rfl 47 (.tmp 3) (.tmp 27) rfl w2.heap.size 0 Ent.zero.cells.toArray rfl rfl HZ2.out.room (e_infoA _) (e_all _) ?_; generalize World.setCells _ _ _ _ = W3 at HP2 ⊢; have H3 := Lib.hid (H2.out.later HP2.out.2); clear HP2 H2 HZ2)
    | (go_at_call 71; refine (sum_any 7 _).mono ?_; rintro e w4 ⟨rfl, hb⟩; have H4 := Lib.hid (H3.out.later hb); clear hb H3))
  rw [HKE.out]
  refine (CA.out w4 H4.out).mono ?_
  rintro e w5 ⟨rfl, hb⟩
  have H5 := Lib.hid hb
  clear hb H4 CA
  have HZ5 := Lib.hid (ebt_zero w5 47)
  have HP5 := Lib.hid (ebt_put w5 47 E)
  have HI := Lib.hid (e_info E)
  go_wp2_with (first
    | (refine wpList_store_mid rfl 47 (.tmp 6) (.tmp 35) rfl w5.heap.size 0 E.cells.toArray rfl rfl HZ5.out.room (e_infoA _) (e_all _) ?_; generalize World.setCells _ _ _ _ = W6 at HP5 ⊢; have H6 := Lib.hid (H5.out.later HP5.out.2); have X6 := Lib.hid HP5.out.1; clear HP5 H5 HZ5)
    | (go_at_call 66; refine (CR.out _ H6.out).mono ?_; rintro e w7 ⟨rfl, hb⟩; have H7 := Lib.hid (H6.out.later hb); have X7 := Lib.hid (X6.out.later hb); clear hb H6 X6)
    | (go_at_call 67; refine (CP.out _ (HHK.out.later H7.out.below)).mono ?_; rintro e w8 ⟨rfl, hb⟩; have H8 := Lib.hid (H7.out.later hb); have X8 := Lib.hid (X7.out.later hb); clear hb H7 X7; have HZ8 := Lib.hid (ebt_zero w8 47); have HP8 := Lib.hid (ebt_put w8 47 E))
    | (refine wpList_store_mid rfl 47 (.tmp 10) (.tmp 45) rfl w8.heap.size 0 E.cells.toArray rfl rfl HZ8.out.room (e_infoA _) (e_all _) ?_; generalize World.setCells _ _ _ _ = W9 at HP8 ⊢; have H9 := Lib.hid (H8.out.later HP8.out.2); have X9 := Lib.hid (X8.out.later HP8.out.2); have Y9 := Lib.hid HP8.out.1; clear HP8 H8 HZ8 X8)
    | (go_at_call 53; refine (CB.out _).mono ?_; rintro e w10 ⟨rfl, hb⟩; have H10 := Lib.hid (H9.out.later hb); have X10 := Lib.hid (X9.out.later hb); have Y10 := Lib.hid (Y9.out.later hb); clear hb H9 X9 Y9; have c1 : w10.cell? ⟨w5.heap.size, 1, none⟩ = some (.int .i64 1) := (by have := X10.out.cells 1 _ HC1.out; rwa [Nat.zero_add] at this))
    | (refine wpList_load_want (by rfl) 47 (.tmp 10) rfl w8.heap.size 0 rfl E.cells _ Y10.out.cells Tryd.underlying47 rfl HI.out ?_)
    | (refine wpList_load_want (by rfl) 47 (.tmp 6) rfl w5.heap.size 0 rfl E.cells _ X10.out.cells Tryd.underlying47 rfl HI.out ?_)
    | (refine wpList_eql (by rfl) (.tmp 75) (.tmp 76) rfl rfl rfl true (decide_eq_true rfl) ?_))
  go_ret
  exact ⟨rfl, H10.out.below⟩

end Go.Proofs.YtkplmaaeggnbgaaDoor.Rg
