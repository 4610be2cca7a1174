/- The walk of RingBack: it returns true. No condition but those that each states. -/
import Derived.Test.YtmnbkopfmhdijaaDoorRgNW
import Derived.Test.YtmnbkopfmhdijaaDoorDkCn
namespace Go.Proofs.YtmnbkopfmhdijaaDoor.Rg
open Go.RowKit Dk

/-- A block with one byte another one. -/
def turned (l : Bytes) (k : Nat) (c : UInt8) : Bytes := l.take k ++ ([c] ++ l.drop (k + 1))

theorem turned_length {l : Bytes} {k : Nat} {c : UInt8} (hl : l.length = 64) (hk : k < 64) : (turned l k c).length = 64 := by
  unfold turned
  simp [hl]; omega

set_option maxHeartbeats 2000000 in
set_option maxRecDepth 100000 in
theorem ringBack_long (e : Ent) (p : Int) (c : UInt8) (hl : 1000 < e.sum.length) (w : World) (HK : HasK w) :
    Calls Tryd.prog 6 #[.agg e.cells.toArray, .int .i64 p, .int .u8 (c.toNat : Int)] w fun x w' => x = .returned (.bool true) ∧ Below w.heap.size w w' := by
  have HHK := Lib.hid HK
  have hb0 : Below w.heap.size w (w.alloc (.cells e.cells.toArray 35)) := (Below.refl _ _).alloc (Nat.le_refl _) _
  have HB0 := Lib.hid hb0
  have c4 := (eb_new w e 35).cell4
  have hsz : (strOf e.sum).size = e.sum.length := strOf_size _
  have t0 : decide (1000 < (strOf e.sum).size) = true := decide_eq_true (by omega)
  have t1 : decide ((1000 : Int) < ((strOf e.sum).size : Int)) = true := decide_eq_true (by omega)
  clear HK hb0 hsz
  generalize strOf e.sum = q at *
  go_enter Tryd.func6, Tryd.ntmps6
  go_wp2_with fail
  refine (known5 _ (HHK.out.later HB0.out)).mono ?_
  rintro y w1 ⟨rfl, hb⟩
  have HB1 := Lib.hid (chain2 HB0.out hb)
  clear hb
  go_wp2
  go_ret
  exact ⟨rfl, HB1.out⟩

set_option maxHeartbeats 2000000 in
set_option maxRecDepth 100000 in
theorem ringBack_bad (e : Ent) (p : Int) (c : UInt8) (hl : ¬1000 < e.sum.length) (hv : e.valid = false) (w : World) (HK : HasK w) :
    Calls Tryd.prog 6 #[.agg e.cells.toArray, .int .i64 p, .int .u8 (c.toNat : Int)] w fun x w' => x = .returned (.bool true) ∧ Below w.heap.size w w' := by
  have HHK := Lib.hid HK
  have hb0 : Below w.heap.size w (w.alloc (.cells e.cells.toArray 35)) := (Below.refl _ _).alloc (Nat.le_refl _) _
  have HB0 := Lib.hid hb0
  have hx := eb_new w e 35
  have HX := Lib.hid hx
  have c4 := hx.cell4
  have hsz : (strOf e.sum).size = e.sum.length := strOf_size _
  have t0 : decide (1000 < (strOf e.sum).size) = false := decide_eq_false (by omega)
  have t1 : decide ((1000 : Int) < ((strOf e.sum).size : Int)) = false := decide_eq_false (by omega)
  have HI := Lib.hid (ref_info e)
  have CB := Lib.hid (fun W => build_no e hv W)
  have he : (strOf []) = (⟨#[]⟩ : ByteArray) := rfl
  rw [he] at CB
  clear HK hb0 hsz hv hx he
  generalize strOf e.sum = q at *
  go_enter Tryd.func6, Tryd.ntmps6
  go_wp2_with (first
    | (refine wpList_load_mid rfl 35 (.tmp 3) rfl w.heap.size 0 rfl e.cells _ HX.out.cells Tryd.underlying35 rfl HI.out ?_)
    | (go_at_call 17; refine (given_any e _).mono ?_; rintro y w4 ⟨rfl, hb⟩; have HB4 := Lib.hid (chain2 HB0.out hb); clear hb HB0 HX)
    | (go_at_call 16; refine (CB.out _).mono ?_; rintro y w5 ⟨rfl, hb⟩; have HB5 := Lib.hid (chain2 HB4.out hb); clear hb HB4)
    | (go_at_call 15; refine (known5 _ (HHK.out.later HB5.out)).mono ?_; rintro y w7 ⟨rfl, hb⟩; have HB7 := Lib.hid (chain2 HB5.out hb); clear hb HB5))
  go_ret
  exact ⟨rfl, HB7.out⟩

/-- An entry in two blocks, behind a world. -/
structure TwoE (w W : World) (A B : Nat) (e : Ent) : Prop where
  a : EB W A e
  b : EB W B e
  below : Below w.heap.size w W

theorem TwoE.later {w W W' : World} {A B : Nat} {e : Ent} (h : TwoE w W A B e) (k : Below W.heap.size W W') : TwoE w W' A B e := ⟨h.a.later k, h.b.later k, chain2 h.below k⟩

/-- The same, spelled out. -/
def TwoS (w W : World) (A B : Nat) (e : Ent) : Prop :=
  W.cell? ⟨A, 0, none⟩ = some (.int .i64 e.kind) ∧ W.cell? ⟨A, 1, none⟩ = some (.int .i64 e.number) ∧ W.cell? ⟨A, 2, none⟩ = some (.int .i64 e.slot) ∧ W.cell? ⟨A, 3, none⟩ = some (.int .i64 e.size) ∧ W.cell? ⟨A, 4, none⟩ = some (.string (strOf e.sum)) ∧
  W.cell? ⟨B, 0, none⟩ = some (.int .i64 e.kind) ∧ W.cell? ⟨B, 1, none⟩ = some (.int .i64 e.number) ∧ W.cell? ⟨B, 2, none⟩ = some (.int .i64 e.slot) ∧ W.cell? ⟨B, 3, none⟩ = some (.int .i64 e.size) ∧ W.cell? ⟨B, 4, none⟩ = some (.string (strOf e.sum)) ∧ TwoE w W A B e

theorem EB.at {W : World} {B : Nat} {e : Ent} (h : EB W B e) (j : Nat) (v : Value) (hj : e.cells[j]? = some v) : W.cell? ⟨B, j, none⟩ = some v := by have := h.cells j _ hj; rwa [Nat.zero_add] at this

theorem TwoE.s {w W : World} {A B : Nat} {e : Ent} (h : TwoE w W A B e) : TwoS w W A B e :=
  ⟨h.a.at 0 _ rfl, h.a.at 1 _ rfl, h.a.at 2 _ rfl, h.a.at 3 _ rfl, h.a.at 4 _ rfl, h.b.at 0 _ rfl, h.b.at 1 _ rfl, h.b.at 2 _ rfl, h.b.at 3 _ rfl, h.b.at 4 _ rfl, h⟩
theorem twoS_of {w W : World} {A B : Nat} {e : Ent} {q : ByteArray} (hq : strOf e.sum = q) (h : W.cell? ⟨A, 0, none⟩ = some (.int .i64 e.kind) ∧ W.cell? ⟨A, 1, none⟩ = some (.int .i64 e.number) ∧ W.cell? ⟨A, 2, none⟩ = some (.int .i64 e.slot) ∧ W.cell? ⟨A, 3, none⟩ = some (.int .i64 e.size) ∧ W.cell? ⟨A, 4, none⟩ = some (.string q) ∧
  W.cell? ⟨B, 0, none⟩ = some (.int .i64 e.kind) ∧ W.cell? ⟨B, 1, none⟩ = some (.int .i64 e.number) ∧ W.cell? ⟨B, 2, none⟩ = some (.int .i64 e.slot) ∧ W.cell? ⟨B, 3, none⟩ = some (.int .i64 e.size) ∧ W.cell? ⟨B, 4, none⟩ = some (.string q) ∧ TwoE w W A B e) : TwoS w W A B e := by subst hq; exact h
theorem twoS_later {w W W' : World} {A B : Nat} {e : Ent} (k : Below W.heap.size W W') (h : TwoS w W A B e) : TwoS w W' A B e := (h.2.2.2.2.2.2.2.2.2.2.later k).s
theorem twoS_drew {w W : World} {A B : Nat} {e : Ent} (h : TwoE w W A B e) : TwoS w W.drew A B e := (show TwoE w W.drew A B e from ⟨h.a.of_block rfl (Nat.le_refl _), h.b.of_block rfl (Nat.le_refl _), h.below.drew⟩).s

set_option maxHeartbeats 2000000 in
set_option maxRecDepth 100000 in
theorem ringBack_good (e : Ent) (p : Int) (hp : (Lit.int .i64 p).wf = true) (c : UInt8) (hv : e.valid = true) (w : World) (HK : HasK w) :
    Calls Tryd.prog 6 #[.agg e.cells.toArray, .int .i64 p, .int .u8 (c.toNat : Int)] w fun x w' => x = .returned (.bool true) ∧ Below w.heap.size w w' := by
  have HHK := Lib.hid HK
  have hb0 : Below w.heap.size w (w.alloc (.cells e.cells.toArray 35)) := (Below.refl _ _).alloc (Nat.le_refl _) _
  have HB0 := Lib.hid hb0
  have hx := eb_new w e 35
  have HX := Lib.hid hx
  have c4 := hx.cell4
  have hsz : (strOf e.sum).size = e.sum.length := strOf_size _
  have hs32 := valid_sum hv
  have t0 : decide (1000 < (strOf e.sum).size) = false := decide_eq_false (by omega)
  have t1 : decide ((1000 : Int) < ((strOf e.sum).size : Int)) = false := decide_eq_false (by omega)
  have HI := Lib.hid (ref_info e)
  have HI2 := Lib.hid (e_info e)
  have CB := Lib.hid (fun W HK => build_yes e hv W HK)
  have CP : Hid (∀ W, HasK W → Calls Tryd.prog 19 #[.string (strOf e.blk)] W fun x w' => x = .returned (.tuple #[.agg e.cells.toArray, .bool true]) ∧ Below W.heap.size W w') :=
    Lib.hid (fun W h => by have := parse_any e.blk W h; unfold parsed at this; rw [parse_blk hv] at this; exact this)
  have hbl : e.blk.length = 64 := blk_length hs32
  obtain ⟨k, hk, hk64⟩ : ∃ k : Nat, cnt p 64 = (k : Int) ∧ k < 64 := by
    have := cnt_lt p 64 (by decide)
    exact ⟨(cnt p 64).toNat, by omega, by omega⟩
  have CC : Hid (∀ W, Calls Tryd.prog 40 #[.int .i64 p, .int .i64 64] W fun e w' => e = .returned (.int .i64 (k : Int)) ∧ W = w') := Lib.hid (fun W => by have := count_any p 64 W hp (by decide) (by decide); rw [hk] at this; exact this)
  clear hk
  have hbs : (strOf e.blk).size = 64 := by rw [strOf_size]; exact hbl
  clear HK hb0 hsz hv hx hs32
  generalize e.blk = bl at *
  generalize hQ : strOf e.sum = q at *
  have HQ := Lib.hid hQ
  clear hQ
  generalize hB : strOf bl = B at *
  have HBB := Lib.hid hB
  clear hB
  go_enter Tryd.func6, Tryd.ntmps6
  go_wp2_with (first
    | (refine wpList_load_mid rfl 35 (.tmp 3) rfl w.heap.size 0 rfl e.cells _ HX.out.cells Tryd.underlying35 rfl HI.out ?_)
    | (go_at_call 17; refine (given_any e _).mono ?_; rintro y w4 ⟨rfl, hb⟩; have HB4 := Lib.hid (chain2 HB0.out hb); have X4 := Lib.hid (HX.out.later hb); clear hb HB0 HX c4)
    | (go_at_call 16; refine (CB.out _ (HHK.out.later HB4.out)).mono ?_; rintro y w5 ⟨rfl, hb⟩; have HB5 := Lib.hid (chain2 HB4.out hb); have X5 := Lib.hid (X4.out.later hb); clear hb HB4 X4)
    | (go_at_call 19; refine (CP.out _ (HHK.out.later HB5.out)).mono ?_; rintro y w6 ⟨rfl, hb⟩; have HB6 := Lib.hid (chain2 HB5.out hb); have X6 := Lib.hid (X5.out.later hb); clear hb HB5 X5; have HZ6 := Lib.hid (ebt_zero w6 39); have HP6 := Lib.hid (ebt_put w6 39 e))
    | (refine wpList_store_mid rfl 39 (.tmp 9) (.tmp 38) rfl w6.heap.size 0 e.cells.toArray rfl rfl HZ6.out.room (e_infoA _) (e_all _) ?_; generalize World.setCells _ _ _ _ = W7 at HP6 ⊢; have HB7 := Lib.hid (chain2 HB6.out HP6.out.2); have X7 := Lib.hid (X6.out.later HP6.out.2); have Y7 := Lib.hid HP6.out.1; clear HP6 HZ6 X6 HB6))
  have HES : Hid (#[.int .i64 e.kind, .int .i64 e.number, .int .i64 e.slot, .int .i64 e.size, .string q] = e.cells.toArray) := Lib.hid (by rw [← HQ.out]; rfl)
  have CT : Hid (∀ W, Calls Tryd.prog 21 #[.agg #[.int .i64 e.kind, .int .i64 e.number, .int .i64 e.slot, .int .i64 e.size, .string q]] W fun x w' => x = .returned (.agg #[.int .i64 e.kind, .int .i64 e.number, .int .i64 e.slot, .int .i64 e.size, .string q]) ∧ Below W.heap.size W w') := Lib.hid (fun W => by rw [HES.out]; exact taken_any e W)
  have hS0 : TwoS w W7.drew w6.heap.size w.heap.size e := twoS_drew ⟨Y7.out, X7.out, HB7.out⟩
  unfold TwoS at hS0
  rw [HQ.out] at hS0
  clear X7 Y7 HB7
  go_region_held3 (fun W => W.cell? ⟨w6.heap.size, 0, none⟩ = some (.int .i64 e.kind) ∧ W.cell? ⟨w6.heap.size, 1, none⟩ = some (.int .i64 e.number) ∧ W.cell? ⟨w6.heap.size, 2, none⟩ = some (.int .i64 e.slot) ∧ W.cell? ⟨w6.heap.size, 3, none⟩ = some (.int .i64 e.size) ∧ W.cell? ⟨w6.heap.size, 4, none⟩ = some (.string q) ∧
    W.cell? ⟨w.heap.size, 0, none⟩ = some (.int .i64 e.kind) ∧ W.cell? ⟨w.heap.size, 1, none⟩ = some (.int .i64 e.number) ∧ W.cell? ⟨w.heap.size, 2, none⟩ = some (.int .i64 e.slot) ∧ W.cell? ⟨w.heap.size, 3, none⟩ = some (.int .i64 e.size) ∧ W.cell? ⟨w.heap.size, 4, none⟩ = some (.string q) ∧ TwoE w W w6.heap.size w.heap.size e)
    (first | assumption | (have hk := twoS_later (by assumption) (twoS_of HQ.out (by assumption)); unfold TwoS at hk; rw [HQ.out] at hk; exact hk)) (first
    | (go_at_call 21; (with_reducible refine (CT.out _).mono ?_); rintro y W8 ⟨rfl, hb⟩))
  have hh := ‹_ ∧ _ ∧ _ ∧ _ ∧ _ ∧ _ ∧ _ ∧ _ ∧ _ ∧ _ ∧ TwoE w W8 w6.heap.size w.heap.size e›
  have HB8 := Lib.hid hh.2.2.2.2.2.2.2.2.2.2.below
  clear hh hb hS0
  clear ‹_ ∧ _ ∧ _ ∧ _ ∧ _ ∧ _ ∧ _ ∧ _ ∧ _ ∧ _ ∧ TwoE w W8 w6.heap.size w.heap.size e›
  have z0 : (0 : Int) ≤ (k : Int) := by omega
  have z1 : (k : Int) < 64 := by omega
  have z2 : (k : Int) ≤ (B.size : Int) := by omega
  have z3 : (k : Int) + 1 ≤ (B.size : Int) := by omega
  have zw : IntKind.i64.wrap ((k : Int) + 1) = (k : Int) + 1 := IntWalk.i64_in _ (by omega)
  go_wp2_with (first
    | (go_at_call 40; refine (CC.out _).mono ?_; rintro y w9 ⟨rfl, rfl⟩))
  have z4 : (k : Int) ≤ 64 := by omega
  have z5 : (k : Int) + 1 ≤ 64 := by omega
  have hcv : (convert 83 9 (.slice (some ⟨W8.heap.size, 0, none⟩) 1 1)).run Tryd.prog (W8.alloc (.cells #[.int .u8 (c.toNat : Int)] 5)).drew = .ok (.string (strOf [c])) (W8.alloc (.cells #[.int .u8 (c.toNat : Int)] 5)).drew :=
    Dk.convert_range (P := Tryd.prog) (w := (W8.alloc (.cells #[.int .u8 (c.toNat : Int)] 5)).drew) (src := 83) (dst := 9) W8.heap.size 0 1 1 [c] Tryd.underlying83 Tryd.underlying5 Tryd.underlying9 rfl (fun i v hv => (World.cell?_of_block (a := ⟨W8.heap.size, 0 + i, none⟩) (w := W8.alloc (.cells #[.int .u8 (c.toNat : Int)] 5)) rfl).trans (range_new W8 (bv [c]) _ i v hv))
  have hm : min k 64 = k := by omega
  have hc1 : (strOf [c]).size = 1 := strOf_size _
  generalize hC1 : strOf [c] = C1 at *
  have HC1 := Lib.hid hC1
  clear hC1
  go_region
  have HX : Hid (B.extract 0 k ++ C1 ++ B.extract (k + 1) 64 = strOf (turned bl k c)) := Lib.hid (by
    rw [← HBB.out, ← HC1.out]
    apply ByteArray.ext
    simp [strOf, turned, ByteArray.data_extract, List.extract_eq_take_drop]
    try (rw [List.take_of_length_le (by simp; omega)]))
  rw [HX.out]
  have HB10 : Hid (Below w.heap.size w (W8.alloc (.cells #[.int .u8 (c.toNat : Int)] 5)).drew) := Lib.hid (HB8.out.alloc HB8.out.size _).drew
  generalize (W8.alloc (.cells #[.int .u8 (c.toNat : Int)] 5)).drew = W10 at HB10 hcv ⊢
  generalize turned bl k c = l'
  clear hcv hm hc1 HC1 HX HB8 z0 z1 z2 z3 z4 z5 zw HBB
  have hpa := parse_any l'
  have hba := build_any (parsed l')
  obtain ⟨d, hd⟩ : ∃ d, ((strOf l').toList == B.toList) = d := ⟨_, rfl⟩
  have hd2 : (!((strOf l').toList == B.toList)) = !d := by rw [hd]
  cases hp : parse l' with
  | none =>
    have e1 : parsed l' = Ent.zero := by unfold parsed; rw [hp]; rfl
    rw [hp, e1] at hpa
    rw [e1, if_neg (by decide +kernel), if_neg (by decide +kernel)] at hba
    have CP2 := Lib.hid hpa
    have CB2 := Lib.hid hba
    clear hpa hba e1 hp
    generalize strOf l' = X at *
    have HI0 := Lib.hid (e_info Ent.zero)
    cases d
    all_goals
      go_wp2_with (first
        | (go_at_call 19; refine (CP2.out _ (HHK.out.later HB10.out)).mono ?_; rintro y W11 ⟨rfl, hb⟩; have HB11 := Lib.hid (chain2 HB10.out hb); clear hb HB10; have HZ11 := Lib.hid (ebt_zero W11 39); have HP11 := Lib.hid (ebt_put W11 39 Ent.zero))
        | (refine wpList_store_mid rfl 39 (.tmp 13) (.tmp 70) rfl W11.heap.size 0 Ent.zero.cells.toArray rfl rfl HZ11.out.room (e_infoA _) (e_all _) ?_; generalize World.setCells _ _ _ _ = W12 at HP11 ⊢; have HB12 := Lib.hid (chain2 HB11.out HP11.out.2); have Y12 := Lib.hid HP11.out.1; clear HP11 HZ11 HB11)
        | (refine wpList_load_mid rfl 39 (.tmp 13) rfl W11.heap.size 0 rfl Ent.zero.cells _ Y12.out.cells Tryd.underlying39 rfl HI0.out ?_)
        | (go_at_call 16; refine (CB2.out _ (HHK.out.later HB12.out)).mono ?_; rintro y W13 ⟨rfl, hb⟩; have HB13 := Lib.hid (chain2 HB12.out hb); clear hb HB12)
        | (go_at_call 15; refine (known5 _ (HHK.out.later HB13.out)).mono ?_; rintro y W14 ⟨rfl, hb⟩; have HB14 := Lib.hid (chain2 HB13.out hb); clear hb HB13))
      go_ret
      exact ⟨rfl, HB14.out⟩
  | some y =>
    obtain ⟨-, -, y3, y4⟩ := parse_some hp
    have e1 : parsed l' = y := by unfold parsed; rw [hp]; rfl
    rw [hp, e1] at hpa
    rw [e1, if_pos y3, if_pos y3, y4] at hba
    have CP2 := Lib.hid hpa
    have CB2 := Lib.hid hba
    clear hpa hba e1 hp y3 y4
    generalize strOf l' = X at *
    have HI0 := Lib.hid (e_info y)
    cases d
    all_goals
      go_wp2_with (first
        | (go_at_call 19; refine (CP2.out _ (HHK.out.later HB10.out)).mono ?_; rintro y1 W11 ⟨rfl, hb⟩; have HB11 := Lib.hid (chain2 HB10.out hb); clear hb HB10; have HZ11 := Lib.hid (ebt_zero W11 39); have HP11 := Lib.hid (ebt_put W11 39 y))
        | (refine wpList_store_mid rfl 39 (.tmp 13) (.tmp 70) rfl W11.heap.size 0 y.cells.toArray rfl rfl HZ11.out.room (e_infoA _) (e_all _) ?_; generalize World.setCells _ _ _ _ = W12 at HP11 ⊢; have HB12 := Lib.hid (chain2 HB11.out HP11.out.2); have Y12 := Lib.hid HP11.out.1; clear HP11 HZ11 HB11)
        | (refine wpList_load_mid rfl 39 (.tmp 13) rfl W11.heap.size 0 rfl y.cells _ Y12.out.cells Tryd.underlying39 rfl HI0.out ?_)
        | (go_at_call 16; refine (CB2.out _ (HHK.out.later HB12.out)).mono ?_; rintro y1 W13 ⟨rfl, hb⟩; have HB13 := Lib.hid (chain2 HB12.out hb); clear hb HB12)
        | (go_at_call 15; refine (known5 _ (HHK.out.later HB13.out)).mono ?_; rintro y1 W14 ⟨rfl, hb⟩; have HB14 := Lib.hid (chain2 HB13.out hb); clear hb HB13))
      go_ret
      exact ⟨rfl, HB14.out⟩

theorem ringBack_law (e : Ent) (p : Int) (hp : (Lit.int .i64 p).wf = true) (c : UInt8) (w : World) (HK : HasK w) :
    Calls Tryd.prog 6 #[.agg e.cells.toArray, .int .i64 p, .int .u8 (c.toNat : Int)] w fun x w' => x = .returned (.bool true) ∧ Below w.heap.size w w' := by
  by_cases hl : 1000 < e.sum.length
  · exact ringBack_long e p c hl w HK
  · cases hv : e.valid with
    | false => exact ringBack_bad e p c hl hv w HK
    | true => exact ringBack_good e p hp c hv w HK

/-- A byte, as it was read. -/
theorem u8_open {z : Int} (h : (Lit.int .u8 z).wf = true) : ∃ c : UInt8, z = (c.toNat : Int) := by
  have := u8_nat h
  refine ⟨UInt8.ofNat z.toNat, ?_⟩
  rw [UInt8.toNat_ofNat_of_lt' (by show z.toNat < 256; omega)]
  omega

section
variable {H : Type} {enc : TypeId × Value → H} {w : World} {base : Nat} {spare : Nat → Bool} {held : Bool}
open Go.ChangeShapes Go.WideShapes Go.Deep
set_option maxRecDepth 100000 in
theorem ringBack_raw {b0 : Nat} {v : Value} {d : DataW H} {p : List MemPlace}
    (hv : Value.okWide Tryd.prog w .any b0 35 v) (h : DataW.Trod enc Tryd.prog w base spare held 35 v d p)
    (a : Int) (ha : (Lit.int .i64 a).wf = true) (z : Int) (hz : (Lit.int .u8 z).wf = true) (HK : HasK w) :
    Calls Tryd.prog 6 #[v, .int .i64 a, .int .u8 z] w fun x w' => x = .returned (.bool true) ∧ Below w.heap.size w w' := by
  obtain ⟨e, rfl, -⟩ := open_entry hv h
  obtain ⟨c, rfl⟩ := u8_open hz
  exact ringBack_law e a ha c w HK
end

end Go.Proofs.YtmnbkopfmhdijaaDoor.Rg
