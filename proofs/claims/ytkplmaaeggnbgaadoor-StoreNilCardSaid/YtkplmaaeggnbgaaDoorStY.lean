/- The walks of Prepare, Commit and Drop: their contracts. The walk of store.Open: its contracts. The calls of a store, beside blocks that are none of its own; what is opened over a disk that says something. The walk of chrysalislaw07.known: it returns true. No condition but those that each states. -/
import Derived.Test.YtkplmaaeggnbgaaDoorStX
import Derived.Test.YtkplmaaeggnbgaaDoorSlX
namespace Go.Proofs.YtkplmaaeggnbgaaDoor.St
open Go.RowKit Dk Rg Sl

/-- A store and its disk, whatever block what is pending lies in. -/
def Sto (w0 w : World) (P : Nat → Prop) (s g : Nat) (S : DS) (X : StS) : Prop := ∃ p, StoP w0 w P s g p S X

theorem StoAt.room3 {w : World} {s g p : Nat} {X : StS} (h : StoAt w s g p X) : w.there s 0 3 := fun j hj => h.room j (Nat.lt_trans hj (by decide))

section
variable {w0 : World} {P : Nat → Prop} {s g p : Nat} {S : DS} {X : StS}

set_option maxHeartbeats 1000000 in
set_option maxRecDepth 100000 in
theorem drop_none (w : World) (h : StoP w0 w P s g p S X) (hp : X.pend = none) :
    Calls Tryd.prog 39 #[.pointer (some ⟨s, 0, none⟩)] w fun e w' => e = .returned (.int .i64 8) ∧ StoP w0 w' P s g p S X ∧ Only (fun k => ¬P k) w w' := by
  have HT := Lib.hid (take_none w h hp)
  have HP := Lib.hid (fun W => vb_put W Sv.zero)
  have HR := Lib.hid vb_room
  have HH := Lib.hid h
  clear h hp
  go_enter Tryd.func39, Tryd.ntmps39
  go_wp2_with fail
  refine HT.out.mono ?_
  rintro e w1 ⟨rfl, hb⟩
  have HB1 := Lib.hid hb
  have HP1 := Lib.hid (HP.out w1)
  have HR1 := Lib.hid (HR.out w1)
  clear hb HT HP HR
  go_wp2_with (first
    | (refine wpList_store_mid rfl 88 (.tmp 3) (.tmp 8) rfl w1.heap.size 0 Sv.zero.cells.toArray rfl rfl HR1.out (v_infoA _) (v_all _) ?_; generalize World.setCells _ _ _ _ = W2 at HP1 ⊢))
  go_ret
  have hb2 := chain2 HB1.out HP1.out.2
  exact ⟨rfl, HH.out.later hb2, Only.of_below hb2⟩

set_option maxHeartbeats 2000000 in
set_option maxRecDepth 100000 in
theorem drop_some (w : World) (h : StoP w0 w P s g p S X) (HK : HasK w0) (q : Sv) (hp : X.pend = some q) (hc : S.c < 2 ^ 40) (ho : S.ops < 2 ^ 40) (hz : X.sv.text.size ≤ 2 ^ 40) :
    Calls Tryd.prog 39 #[.pointer (some ⟨s, 0, none⟩)] w fun e w' => e = .returned (.int .i64 (DS.app S (X.sv.ent 3)).2.2) ∧ StoP w0 w' P s g p (DS.app S (X.sv.ent 3)).1 X.give ∧ Only (fun k => ¬P k) w w' := by
  have HT := Lib.hid (take_some w h q hp)
  have HP := Lib.hid (fun W => vb_put W q)
  have HR := Lib.hid vb_room
  have HI := Lib.hid (v_info X.sv)
  have HA := Lib.hid (v_all q)
  have HL := Lib.hid (fun W (hs : StoP w0 W P s g p S X.give) => log_any W hs HK 3 X.sv hc ho hz)
  clear h hp hc ho hz
  obtain ⟨R, hR⟩ : ∃ R, DS.app S (X.sv.ent 3) = R := ⟨_, rfl⟩
  rw [hR] at HL ⊢
  clear hR
  go_enter Tryd.func39, Tryd.ntmps39
  go_wp2_with fail
  refine HT.out.mono ?_
  rintro e w1 ⟨rfl, h1, o1⟩
  have HS1 := Lib.hid h1
  have HO1 := Lib.hid o1
  have HP1 := Lib.hid (HP.out w1)
  have HR1 := Lib.hid (HR.out w1)
  clear HT HP HR h1 o1
  go_wp2_with (first
    | (refine wpList_store_mid rfl 88 (.tmp 3) (.tmp 8) rfl w1.heap.size 0 q.cells.toArray rfl rfl HR1.out (v_infoA _) HA.out ?_
       generalize World.setCells _ _ _ _ = W2 at HP1 ⊢
       have HS2 := Lib.hid (HS1.out.later HP1.out.2)
       have HO2 := Lib.hid (HO1.out.trans (Only.of_below (F := fun k => ¬P k) HP1.out.2) (fun _ _ e => e))
       have HV2 := Lib.hid (rangeAt_left (ys := (scells s g p X.give).drop 3) HS2.out.sto.row)
       clear HP1 HS1 HO1 HR1)
    | (refine wpList_load_mid rfl 88 (.tmp 16) rfl s 0 rfl X.sv.cells _ HV2.out Tryd.underlying88 rfl HI.out ?_)
    | (go_at_call 77; refine (HL.out W2 HS2.out).mono ?_; rintro e w3 ⟨rfl, h3, o3⟩; have HF := Lib.hid (And.intro h3 (HO2.out.trans o3 (fun _ _ e => e))); clear h3 o3))
  go_ret
  exact ⟨rfl, HF.out⟩

set_option maxHeartbeats 1000000 in
set_option maxRecDepth 100000 in
theorem comm_none (w : World) (h : StoP w0 w P s g p S X) (hp : X.pend = none) :
    Calls Tryd.prog 40 #[.pointer (some ⟨s, 0, none⟩)] w fun e w' => e = .returned (.int .i64 8) ∧ StoP w0 w' P s g p S X ∧ Only (fun k => ¬P k) w w' := by
  have HT := Lib.hid (take_none w h hp)
  have HP := Lib.hid (fun W => vb_put W Sv.zero)
  have HR := Lib.hid vb_room
  have HH := Lib.hid h
  clear h hp
  go_enter Tryd.func40, Tryd.ntmps40
  go_wp2_with fail
  refine HT.out.mono ?_
  rintro e w1 ⟨rfl, hb⟩
  have HB1 := Lib.hid hb
  have HP1 := Lib.hid (HP.out w1)
  have HR1 := Lib.hid (HR.out w1)
  clear hb HT HP HR
  go_wp2_with (first
    | (refine wpList_store_mid rfl 88 (.tmp 3) (.tmp 9) rfl w1.heap.size 0 Sv.zero.cells.toArray rfl rfl HR1.out (v_infoA _) (v_all _) ?_; generalize World.setCells _ _ _ _ = W2 at HP1 ⊢))
  go_ret
  have hb2 := chain2 HB1.out HP1.out.2
  exact ⟨rfl, HH.out.later hb2, Only.of_below hb2⟩

theorem give_calm (X : StS) (r : Sv) : { { X.give with sv := r } with odd := false } = (⟨r, none, false⟩ : StS) := rfl

set_option maxHeartbeats 4000000 in
set_option maxRecDepth 100000 in
theorem comm_some (w : World) (h : StoP w0 w P s g p S X) (HK : HasK w0) (r : Sv) (hp : X.pend = some r) (hc : S.c < 2 ^ 40) (ho : S.ops < 2 ^ 40) (hz : r.text.size ≤ 2 ^ 40) :
    Calls Tryd.prog 40 #[.pointer (some ⟨s, 0, none⟩)] w fun e w' => e = .returned (.int .i64 (comm S X).2.2) ∧ StoP w0 w' P s g p (comm S X).1 (comm S X).2.1 ∧ Only (fun k => ¬P k) w w' := by
  have HT := Lib.hid (take_some w h r hp)
  have HP := Lib.hid (fun W => vb_put W r)
  have HR := Lib.hid vb_room
  have HI := Lib.hid (v_info r)
  have HA := Lib.hid (v_all r)
  have HL := Lib.hid (fun W PP (hs : StoP w0 W PP s g p S X.give) => log_any W hs HK 2 r hc ho hz)
  have hPl := h.lt
  have hsl := h.sto.lt
  have hcm : comm S X = if (DS.app S (r.ent 2)).2.2 ≠ 0 then ((DS.app S (r.ent 2)).1, X.give, (DS.app S (r.ent 2)).2.2) else ((DS.app S (r.ent 2)).1, ⟨r, none, false⟩, 0) := by unfold comm; rw [hp]
  rw [hcm]
  clear h hp hc ho hz hcm
  obtain ⟨f, hf⟩ : ∃ f, (DS.app S (r.ent 2)).2.2 = f := ⟨_, rfl⟩
  obtain ⟨T, hT⟩ : ∃ T, (DS.app S (r.ent 2)).1 = T := ⟨_, rfl⟩
  rw [hf, hT] at HL ⊢
  clear hf hT
  by_cases hf0 : f = 0
  · subst hf0
    rw [if_neg (fun e => e rfl)]
    go_enter Tryd.func40, Tryd.ntmps40
    go_wp2_with fail
    refine HT.out.mono ?_
    rintro e w1 ⟨rfl, h1, o1⟩
    have HO1 := Lib.hid o1
    have HP1 := Lib.hid (HP.out w1)
    have HR1 := Lib.hid (HR.out w1)
    have HNE : Hid (¬w1.heap.size = s) := Lib.hid (fun e => absurd h1.sto.lt (Nat.not_lt.2 (Nat.le_of_eq e)))
    have HF1 := Lib.hid (fun W (hb : Below w1.heap.size w1 W) (hl : w1.heap.size < W.heap.size) => h1.fresh (D := fun i => i = w1.heap.size) hb (fun i hi => by subst hi; exact ⟨Nat.le_refl _, hl⟩))
    clear HT HP HR h1 o1
    go_wp2_with (first
      | (refine wpList_store_mid rfl 88 (.tmp 3) (.tmp 9) rfl w1.heap.size 0 r.cells.toArray rfl rfl HR1.out (v_infoA _) HA.out ?_
         generalize World.setCells _ _ _ _ = W2 at HP1 ⊢
         have HS2 := Lib.hid (HF1.out W2 HP1.out.2 HP1.out.1.lt)
         have HO2 := Lib.hid (HO1.out.trans (Only.of_below (F := fun k => ¬P k) HP1.out.2) (fun _ _ e => e))
         have HV2 := Lib.hid HP1.out.1
         clear HP1 HO1 HR1 HF1)
      | (refine wpList_load_mid rfl 88 (.tmp 3) rfl w1.heap.size 0 rfl r.cells _ HV2.out.cells Tryd.underlying88 rfl HI.out ?_)
      | (go_at_call 77; refine (HL.out W2 _ HS2.out).mono ?_; rintro e w3 ⟨rfl, h3, o3⟩
         have HS3 := Lib.hid h3
         have HV3 := Lib.hid (HV2.out.only o3 (fun e => e (.inr rfl)))
         have HO3 := Lib.hid (HO2.out.trans o3 (fun i _ e hp => e (.inl hp)))
         clear h3 o3 HS2 HO2 HV2)
      | (refine wpList_load_mid rfl 88 (.tmp 3) rfl w1.heap.size 0 rfl r.cells _ HV3.out.cells Tryd.underlying88 rfl HI.out ?_)
      | (refine wpList_store_mid rfl 88 (.tmp 23) (.tmp 21) rfl s 0 r.cells.toArray rfl rfl HS3.out.sto.room3 (v_infoA _) HA.out ?_
         have HS4 := Lib.hid (HS3.out.saved r)
         have HO4 := Lib.hid (HO3.out.trans (Only.setCells (F := fun k => k = s) s rfl r.cells.toArray.toList 0 _ (Only.refl _ _)) (fun i _ e hp => HS3.out.ns (.inl (e ▸ hp))))
         generalize World.setCells _ _ _ _ = W4 at HS4 HO4 ⊢
         have c4 : W4.cell? ⟨s, 4, none⟩ = some (.bool X.odd) := HS4.out.sto.cell (i := 4) rfl
         have f4 : W4.frozen? ⟨s, 4, none⟩ = false := HS4.out.sto.free 4 (by decide)
         clear HS3 HO3))
    go_ret
    have h5 := HS4.out.calm
    rw [give_calm] at h5
    exact ⟨rfl, h5.less (fun k hk => .inl hk), HO4.out.trans (only_at W4 s 4 (.bool false)) (fun i _ e hp => HS4.out.ns (.inl (e ▸ hp)))⟩
  · rw [if_pos hf0]
    have t0 : (f != 0) = true := by simpa using hf0
    have t1 : (f == 0) = false := by simpa using hf0
    have t2 : decide (f = 0) = false := decide_eq_false hf0
    go_enter Tryd.func40, Tryd.ntmps40
    go_wp2_with fail
    refine HT.out.mono ?_
    rintro e w1 ⟨rfl, h1, o1⟩
    have HO1 := Lib.hid o1
    have HS1 := Lib.hid h1
    have HP1 := Lib.hid (HP.out w1)
    have HR1 := Lib.hid (HR.out w1)
    clear HT HP HR h1 o1
    go_wp2_with (first
      | (refine wpList_store_mid rfl 88 (.tmp 3) (.tmp 9) rfl w1.heap.size 0 r.cells.toArray rfl rfl HR1.out (v_infoA _) HA.out ?_
         generalize World.setCells _ _ _ _ = W2 at HP1 ⊢
         have HS2 := Lib.hid (HS1.out.later HP1.out.2)
         have HO2 := Lib.hid (HO1.out.trans (Only.of_below (F := fun k => ¬P k) HP1.out.2) (fun _ _ e => e))
         have HV2 := Lib.hid HP1.out.1
         clear HP1 HO1 HR1 HS1)
      | (refine wpList_load_mid rfl 88 (.tmp 3) rfl w1.heap.size 0 rfl r.cells _ HV2.out.cells Tryd.underlying88 rfl HI.out ?_)
      | (go_at_call 77; refine (HL.out W2 _ HS2.out).mono ?_; rintro e w3 ⟨rfl, h3, o3⟩
         have HF := Lib.hid (And.intro h3 (HO2.out.trans o3 (fun i _ e => e)))
         clear h3 o3 HS2 HO2 HV2))
    go_ret
    exact ⟨rfl, HF.out⟩

/-! Prepare -/
theorem StoP.sw (w : World) (h : StoP w0 w P s g p S X) (slot : Int) (t : ByteArray) (hc : S.c + 1000 ≤ 2 ^ 40) (ho : S.ops + 1000 ≤ 2 ^ 40) :
    Calls Tryd.prog 76 #[.pointer (some ⟨g, 0, none⟩), .int .i64 slot, .string t] w fun e w' => e = .returned (.int .i64 (DS.sw S slot t).2) ∧ StoP w0 w' P s g p (DS.sw S slot t).1 X ∧ Only (fun k => ¬P k) w w' :=
  h.step (Ans := fun e => e = .returned (.int .i64 (DS.sw S slot t).2)) (fun _ hd _ => d_sw slot t w hd hc ho)

theorem StoP.ok {w : World} (h : StoP w0 w P s g p S X) : S.Ok := by obtain ⟨F, hd, _⟩ := h.solo.disk; exact hd.ok
theorem StoP.hasK {w : World} (h : StoP w0 w P s g p S X) (HK : HasK w0) : HasK w := HK.later h.below

set_option maxHeartbeats 4000000 in
set_option maxRecDepth 100000 in
theorem prep_any (w : World) (h : StoP w0 w P s g p S X) (HK : HasK w0) (t : ByteArray) (hc : S.c + 2000 ≤ 2 ^ 40) (ho : S.ops + 2000 ≤ 2 ^ 40) (hz : X.sv.text.size ≤ 2 ^ 40) (ht : t.size ≤ 900000) :
    Calls Tryd.prog 38 #[.pointer (some ⟨s, 0, none⟩), .string t] w fun e w' => e = .returned (.int .i64 (prep S X t).2.2) ∧ Sto w0 w' P s g (prep S X t).1 (prep S X t).2.1 ∧ Only (fun k => ¬P k) w w' := by
  have HN := Lib.hid h.sto.self
  have c3 := h.sto.cell (i := 3) rfl
  have f3 := h.sto.free 3 (by decide)
  have HG := Lib.hid h.give
  have HO1 := Lib.hid (only_at w s 3 (.pointer none))
  have HNS := Lib.hid h.ns
  have c5 : (w.setCell ⟨s, 3, none⟩ (.pointer none)).cell? ⟨s, 5, none⟩ = some (.pointer (some ⟨g, 0, none⟩)) := h.give.sto.cell (i := 5) rfl
  have HW := Lib.hid (fun W (hs : StoP w0 W P s g p S X.give) => hs.sw W X.sv.other t (by omega) (by omega))
  have hfew := sw_few S X.sv.other t h.ok
  have HL := Lib.hid (fun W (hs : StoP w0 W P s g p (DS.sw S X.sv.other t).1 X.give) => log_any W hs HK 1 X.sv (by omega) (by omega) hz)
  have HI := Lib.hid (v_info X.sv)
  have HOF : Hid (∀ W, HasK W → Calls Tryd.prog 51 #[.string t] W fun e w' => e = .returned (.string (strOf (sha t.data.toList))) ∧ Below W.heap.size W w') := Lib.hid (fun W hk => of_any t W hk ht)
  have HBX := Lib.hid (fun W => vb_new W (Sv.of X.sv.other t) 88)
  have HSV : Hid (Sv.cells (Sv.of X.sv.other t) = [.int .i64 X.sv.other, .string t, .string (strOf (sha t.data.toList))]) := Lib.hid rfl
  have HHK := Lib.hid HK
  clear h hc ho hz ht hfew HK
  unfold prep
  generalize Sv.of X.sv.other t = q at *
  generalize hslot : X.sv.other = slot at *
  have HOT : Hid (∀ W, StoAt W s g p X.give → Calls Tryd.prog 75 #[.pointer (some ⟨s, 0, none⟩)] W fun e w' => e = .returned (.int .i64 slot) ∧ W = w') := Lib.hid (fun W hs => by have := other_any W hs; rw [← hslot]; exact this)
  clear hslot
  generalize strOf (sha t.data.toList) = m at *
  have HB5 : Hid (∀ W, VB (W.alloc (.cells #[.int .i64 slot, .string t, .string m] 88)) W.heap.size q ∧ Below W.heap.size W (W.alloc (.cells #[.int .i64 slot, .string t, .string m] 88))) := Lib.hid (fun W => by
    have h5 := HBX.out W
    rw [HSV.out] at h5
    exact ⟨h5, (Below.refl _ _).alloc (Nat.le_refl _) _⟩)
  clear HBX HSV
  obtain ⟨f1, hf1⟩ : ∃ f, (DS.sw S slot t).2 = f := ⟨_, rfl⟩
  obtain ⟨T1, hT1⟩ : ∃ T, (DS.sw S slot t).1 = T := ⟨_, rfl⟩
  rw [hf1, hT1] at HW ⊢
  rw [hT1] at HL
  clear hf1 hT1
  obtain ⟨f2, hf2⟩ : ∃ f, (DS.app T1 (X.sv.ent 1)).2.2 = f := ⟨_, rfl⟩
  obtain ⟨T2, hT2⟩ : ∃ T, (DS.app T1 (X.sv.ent 1)).1 = T := ⟨_, rfl⟩
  rw [hf2, hT2] at HL ⊢
  clear hf2 hT2
  by_cases h1 : f1 = 0
  · subst h1
    rw [if_neg (fun e => e rfl)]
    by_cases h2 : f2 = 0
    · subst h2
      rw [if_neg (fun e => e rfl)]
      go_enter Tryd.func38, Tryd.ntmps38
      go_wp2_with (first
        | (go_at_call 74; refine (valid_yes _ _ HN.out).mono ?_; rintro e w' ⟨rfl, rfl⟩)
        | (go_at_call 75; refine (HOT.out _ HG.out.sto).mono ?_; rintro e w' ⟨rfl, rfl⟩)
        | (go_at_call 76; refine (HW.out _ HG.out).mono ?_; rintro e w2 ⟨rfl, hs2, o2⟩
           have HS2 := Lib.hid hs2
           have HO2 := Lib.hid ((HO1.out.mono (G := fun k => ¬P k) (fun i e => e ▸ HNS.out)).trans o2 (fun _ _ e => e))
           have HV2 := Lib.hid (rangeAt_left (ys := (scells s g p X.give).drop 3) hs2.sto.row)
           clear hs2 o2 HG HO1)
        | (refine wpList_load_mid rfl 88 (.tmp 29) rfl s 0 rfl X.sv.cells _ HV2.out Tryd.underlying88 rfl HI.out ?_)
        | (go_at_call 77; refine (HL.out w2 HS2.out).mono ?_; rintro e w3 ⟨rfl, hs3, o3⟩
           have HS3 := Lib.hid hs3
           have HO3 := Lib.hid (HO2.out.trans o3 (fun _ _ e => e))
           clear hs3 o3 HS2 HO2 HV2)
        | (go_at_call 51; refine (HOF.out w3 (HS3.out.hasK HHK.out)).mono ?_; rintro e w4 ⟨rfl, hb4⟩
           have HB4 := Lib.hid hb4
           have HN5 := Lib.hid (HB5.out w4)
           have HS5 := Lib.hid (HS3.out.later (chain2 hb4 HN5.out.2))
           have c3' := HS5.out.sto.cell (i := 3) rfl
           have f3' := HS5.out.sto.free 3 (by decide)
           have HF := Lib.hid (HS3.out.pending (chain2 hb4 HN5.out.2) hb4.size HN5.out.1)
           have HO5 := Lib.hid (HO3.out.trans (Only.of_below (F := fun k => ¬P k) (chain2 hb4 HN5.out.2)) (fun _ _ e => e))))
      go_ret
      exact ⟨rfl, ⟨_, HF.out⟩, HO5.out.trans (only_at _ s 3 _) (fun i _ e => e ▸ HNS.out)⟩
    · rw [if_pos h2]
      have t0 : (f2 != 0) = true := by simpa using h2
      have t1 : (f2 == 0) = false := by simpa using h2
      have t2 : decide (f2 = 0) = false := decide_eq_false h2
      go_enter Tryd.func38, Tryd.ntmps38
      go_wp2_with (first
        | (go_at_call 74; refine (valid_yes _ _ HN.out).mono ?_; rintro e w' ⟨rfl, rfl⟩)
        | (go_at_call 75; refine (HOT.out _ HG.out.sto).mono ?_; rintro e w' ⟨rfl, rfl⟩)
        | (go_at_call 76; refine (HW.out _ HG.out).mono ?_; rintro e w2 ⟨rfl, hs2, o2⟩
           have HS2 := Lib.hid hs2
           have HO2 := Lib.hid ((HO1.out.mono (G := fun k => ¬P k) (fun i e => e ▸ HNS.out)).trans o2 (fun _ _ e => e))
           have HV2 := Lib.hid (rangeAt_left (ys := (scells s g p X.give).drop 3) hs2.sto.row)
           clear hs2 o2 HG HO1)
        | (refine wpList_load_mid rfl 88 (.tmp 29) rfl s 0 rfl X.sv.cells _ HV2.out Tryd.underlying88 rfl HI.out ?_)
        | (go_at_call 77; refine (HL.out w2 HS2.out).mono ?_; rintro e w3 ⟨rfl, hs3, o3⟩
           have HS3 := Lib.hid hs3
           have HO3 := Lib.hid (HO2.out.trans o3 (fun _ _ e => e))
           clear hs3 o3 HS2 HO2 HV2))
      go_ret
      exact ⟨rfl, ⟨_, HS3.out⟩, HO3.out⟩
  · rw [if_pos h1]
    have t0 : (f1 != 0) = true := by simpa using h1
    have t1 : (f1 == 0) = false := by simpa using h1
    have t2 : decide (f1 = 0) = false := decide_eq_false h1
    go_enter Tryd.func38, Tryd.ntmps38
    go_wp2_with (first
      | (go_at_call 74; refine (valid_yes _ _ HN.out).mono ?_; rintro e w' ⟨rfl, rfl⟩)
      | (go_at_call 75; refine (HOT.out _ HG.out.sto).mono ?_; rintro e w' ⟨rfl, rfl⟩)
      | (go_at_call 76; refine (HW.out _ HG.out).mono ?_; rintro e w2 ⟨rfl, hs2, o2⟩
         have HS2 := Lib.hid hs2
         have HO2 := Lib.hid ((HO1.out.mono (G := fun k => ¬P k) (fun i e => e ▸ HNS.out)).trans o2 (fun _ _ e => e))
         clear hs2 o2 HG HO1))
    go_ret
    exact ⟨rfl, ⟨_, HS2.out⟩, HO2.out⟩

end
end Go.Proofs.YtkplmaaeggnbgaaDoor.St
namespace Go.Proofs.YtkplmaaeggnbgaaDoor.St
open Go.RowKit Dk Rg Sl

/-- Block B holds these cells. -/
structure CB (W : World) (B : Nat) (cs : List Value) : Prop where
  cells : W.rangeAt B 0 cs
  room : W.there B 0 cs.length
  lt : B < W.heap.size

section
variable {W W' : World} {B : Nat} {cs : List Value}
theorem CB.cell (h : CB W B cs) {i : Nat} {v : Value} (hv : cs[i]? = some v) : W.cell? ⟨B, i, none⟩ = some v := by have := h.cells i v hv; rwa [Nat.zero_add] at this
theorem CB.free (h : CB W B cs) (i : Nat) (hi : i < cs.length) : W.frozen? ⟨B, i, none⟩ = false := by have := (h.room i hi).2; rwa [Nat.zero_add] at this
theorem CB.of_block (h : CB W B cs) (hb : W'.heap[B]? = W.heap[B]?) (hs : W.heap.size ≤ W'.heap.size) : CB W' B cs := ⟨rangeAt_block h.cells hb, there_block h.room hb, Nat.lt_of_lt_of_le h.lt hs⟩
theorem CB.later (h : CB W B cs) (k : Below W.heap.size W W') : CB W' B cs := h.of_block (k.block B h.lt) k.size
theorem cb_new (W : World) (cs : List Value) (t : TypeId) : CB (W.alloc (.cells cs.toArray t)) W.heap.size cs := ⟨range_new W cs t, there_new W cs.toArray t, by simp⟩
theorem CB.put (h : CB W B cs) (i : Nat) (hi : i < cs.length) (v : Value) : CB (W.setCell ⟨B, i, none⟩ v) B (cs.set i v) := by
  refine ⟨fun j u hu => ?_, by rw [List.length_set]; exact there_setCell h.room _ _, by simpa using h.lt⟩
  rw [Nat.zero_add]
  by_cases e : j = i
  · subst e
    rw [List.getElem?_set_self hi] at hu
    cases hu
    exact World.cell?_setCell_same _ _ _ (h.cell (List.getElem?_eq_getElem hi))
  · rw [World.cell?_setCell_other _ _ _ _ (by intro e'; simp at e'; first | done | exact e e'.symm)]
    rw [List.getElem?_set_ne (fun x => e x.symm)] at hu
    exact h.cell hu
end

/-- A store under way: its seven cells in block s, which came behind w. -/
structure Half (w W : World) (s : Nat) (cs : List Value) : Prop where
  cb : CB W s cs
  below : Below w.heap.size w W
  lo : w.heap.size ≤ s

section
variable {w W W' : World} {s : Nat} {cs : List Value}
theorem Half.later (h : Half w W s cs) (k : Below W.heap.size W W') : Half w W' s cs := ⟨h.cb.later k, chain2 h.below k, h.lo⟩
theorem half_new (h : Below w.heap.size w W) (cs : List Value) (t : TypeId) : Half w (W.alloc (.cells cs.toArray t)) W.heap.size cs :=
  ⟨cb_new W cs t, chain2 h ((Below.refl _ _).alloc (Nat.le_refl _) _), h.size⟩
theorem Half.put (h : Half w W s cs) (i : Nat) (hi : i < cs.length) (v : Value) : Half w (W.setCell ⟨s, i, none⟩ v) s (cs.set i v) := ⟨h.cb.put i hi v, h.below.setCell h.lo _, h.lo⟩
theorem Half.saved (h : Half w W s cs) {q r : Sv} {rest : List Value} (hc : cs = r.cells ++ rest) : Half w (W.setCells s 0 q.cells.toArray.toList) s (q.cells ++ rest) := by
  subst hc
  refine ⟨⟨rangeAt_add (World.rangeAt_setCells_same _ _ _ _ (fun j hj => h.cb.room j (Nat.lt_of_lt_of_le hj (by rw [List.length_append]; exact Nat.le_add_right _ _)))) (World.rangeAt_setCells_apart (rangeAt_right (xs := r.cells) (n := 3) h.cb.cells rfl) _ _ _ (.inr (.inr (Nat.le_refl _)))), World.there_setCells h.cb.room _ _ _, by rw [Dk.size_setCells]; exact h.cb.lt⟩, below_setCells h.below _ h.lo _ _ _ h.below, h.lo⟩
end

/-- What an Open hands back. -/
structure OpenR (w w' : World) (s g : Nat) (X : StS) : Prop where
  below : Below w.heap.size w w'
  lo : w.heap.size ≤ s
  sto : StoAt w' s g 0 X

/-- The cells of a store that knows nothing yet. -/
def hcells (g : Nat) : List Value := [.int .i64 2, .string ⟨#[]⟩, .string (strOf (List.replicate 32 0)), .pointer none, .bool false, .pointer (some ⟨g, 0, none⟩), .pointer none]

theorem hcells_self (s g : Nat) : (hcells g).set 6 (.pointer (some ⟨s, 0, none⟩)) = scells s g 0 ⟨Sv.no, none, false⟩ := rfl

theorem Half.sto {w W : World} {s g : Nat} {X : StS} (h : Half w W s (scells s g 0 X)) (hp : X.pend = none) : OpenR w W s g X :=
  ⟨h.below, h.lo, h.cb.cells, h.cb.room, h.cb.lt, fun q hq => by rw [hp] at hq; cases hq⟩

/-- A disk with a store that was opened over it. -/
theorem OpenR.at {w0 w w' : World} {P : Nat → Prop} {s g : Nat} {S : DS} {X : StS} (h : OpenR w w' s g X) (hp : X.pend = none) (hs : Solo w0 w P g S) : StoP w0 w' P s g 0 S X := by
  have hlt : ∀ k, P k → k < w.heap.size := by obtain ⟨F, -, -, -, h⟩ := hs; exact fun k hk => (h k hk).1
  refine ⟨(hs.fresh (D := fun i => i = s) h.below (fun i hi => by subst hi; exact ⟨h.lo, h.sto.lt⟩)).less (fun i hi => by
    rcases hi with e | e | ⟨e, _⟩
    · exact .inl e
    · exact .inr e
    · rw [hp] at e; cases e), h.sto, Nat.le_trans hs.below.size h.lo, fun e => absurd (hlt s e) (Nat.not_lt.2 h.lo), fun e => by rw [hp] at e; cases e⟩

section
variable {F : Nat → Prop} {g : Nat} {S : DS}

set_option maxHeartbeats 2000000 in
set_option maxRecDepth 100000 in
theorem open_no (p : Option Addr) (w : World) (h : NoDisk w p) (hp : ∀ a, p = some a → a.block < w.heap.size) :
    Calls Tryd.prog 35 #[.pointer p] w fun e w' => e = .returned (.tuple #[.pointer none, .int .i64 16]) ∧ Below w.heap.size w w' := by
  have CL := Lib.hid (last_no p w h hp)
  clear h hp
  go_enter Tryd.func35, Tryd.ntmps35
  go_wp2_with fail
  refine CL.out.mono ?_
  rintro e w1 ⟨rfl, hb⟩
  have HB1 := Lib.hid hb
  have HZ1 := Lib.hid (ebt_zero w1 47)
  have HP1 := Lib.hid (ebt_put w1 47 Ent.zero)
  clear hb CL
  go_wp2_with (first
    | (refine wpList_store_mid rfl 47 (.tmp 4) (.tmp 12) rfl w1.heap.size 0 Ent.zero.cells.toArray rfl rfl HZ1.out.room (e_infoA _) (e_all _) ?_; generalize World.setCells _ _ _ _ = W2 at HP1 ⊢; have HB2 := Lib.hid (chain2 HB1.out HP1.out.2); clear HP1 HZ1 HB1))
  go_ret2
  exact ⟨rfl, HB2.out⟩

set_option maxHeartbeats 2000000 in
set_option maxRecDepth 100000 in
theorem open_none (w : World) (hD : DiskAt w F g S) (hon : S.on = true) (hc : S.c ≤ 2 ^ 40) (HK : HasK w) (h : lastE S = none ∨ ∃ e, lastE S = some e ∧ e.slot = 2) :
    Calls Tryd.prog 35 #[.pointer (some ⟨g, 0, none⟩)] w fun e w' => ∃ s, e = .returned (.tuple #[.pointer (some ⟨s, 0, none⟩), .int .i64 0]) ∧ OpenR w w' s g ⟨Sv.no, none, false⟩ := by
  have CL := last_on F g S w hD hon hc HK
  obtain ⟨y, is, hy, his⟩ : ∃ y is, (lastE S).getD Ent.zero = y ∧ (lastE S).isSome = is := ⟨_, _, rfl, rfl⟩
  rw [hy, his] at CL
  have hcase : is = false ∨ is = true ∧ y.slot = 2 := by
    rcases h with e | ⟨x, e, e2⟩
    · rw [e] at his; exact .inl his.symm
    · rw [e] at his hy; exact .inr ⟨his.symm, by rw [← hy]; exact e2⟩
  have HCL := Lib.hid CL
  clear hD hon hc HK h CL hy his
  have HEP := Lib.hid (fun W => ebt_put W 47 y)
  have HEZ := Lib.hid (fun W => ebt_zero W 47)
  have HA := Lib.hid (e_all y)
  have HNC : Hid (Sv.no.cells = [.int .i64 2, .string ⟨#[]⟩, .string (strOf (List.replicate 32 0))]) := Lib.hid rfl
  have HHC : Hid (∀ g, hcells g = [.int .i64 2, .string ⟨#[]⟩, .string (strOf (List.replicate 32 0)), .pointer none, .bool false, .pointer (some ⟨g, 0, none⟩), .pointer none]) := Lib.hid (fun _ => rfl)
  rcases hcase with rfl | ⟨rfl, hsl⟩
  · go_enter Tryd.func35, Tryd.ntmps35
    go_wp2_with fail
    refine HCL.out.mono ?_
    rintro e w1 ⟨rfl, hb⟩
    have HB1 := Lib.hid hb
    have HZ1 := Lib.hid (HEZ.out w1)
    have HP1 := Lib.hid (HEP.out w1)
    clear hb HCL HEZ HEP
    go_wp2_with (first
      | (refine wpList_store_mid rfl 47 (.tmp 4) (.tmp 12) rfl w1.heap.size 0 y.cells.toArray rfl rfl HZ1.out.room (e_infoA _) HA.out ?_; generalize World.setCells _ _ _ _ = W2 at HP1 ⊢; have HB2 := Lib.hid (chain2 HB1.out HP1.out.2); clear HP1 HZ1 HB1)
      | (go_at_call 72; refine (nothing_any _).mono ?_; rintro e w3 ⟨rfl, hb3⟩; have HB3 := Lib.hid (chain2 HB2.out hb3); clear hb3 HB2; rw [HNC.out]))
    go_ret2
    exact ⟨w3.heap.size, rfl, (half_new HB3.out (scells w3.heap.size g 0 ⟨Sv.no, none, false⟩) 91).sto rfl⟩
  · go_enter Tryd.func35, Tryd.ntmps35
    go_wp2_with fail
    refine HCL.out.mono ?_
    rintro e w1 ⟨rfl, hb⟩
    have HB1 := Lib.hid hb
    have HZ1 := Lib.hid (HEZ.out w1)
    have HP1 := Lib.hid (HEP.out w1)
    clear hb HCL HEZ HEP
    go_wp2_with (first
      | (refine wpList_store_mid rfl 47 (.tmp 4) (.tmp 12) rfl w1.heap.size 0 y.cells.toArray rfl rfl HZ1.out.room (e_infoA _) HA.out ?_; generalize World.setCells _ _ _ _ = W2 at HP1 ⊢; have HB2 := Lib.hid (chain2 HB1.out HP1.out.2); have HE2 := Lib.hid HP1.out.1; clear HP1 HZ1 HB1)
      | (go_at_call 72; refine (nothing_any _).mono ?_; rintro e w3 ⟨rfl, hb3⟩; have HB3 := Lib.hid (chain2 HB2.out hb3)
         have hc2 : ∀ o, (w3.alloc o).cell? ⟨w1.heap.size, 2, none⟩ = some (.int .i64 2) := fun o => by
           have := ((HE2.out.later hb3).later ((Below.refl _ _).alloc (Nat.le_refl _) o)).cells 2 _ rfl
           rwa [Nat.zero_add, hsl] at this
         clear hb3 HB2 HE2; rw [HNC.out]))
    go_ret2
    exact ⟨w3.heap.size, rfl, (half_new HB3.out (scells w3.heap.size g 0 ⟨Sv.no, none, false⟩) 91).sto rfl⟩

set_option maxHeartbeats 4000000 in
set_option maxRecDepth 100000 in
theorem open_some (w : World) (hD : DiskAt w F g S) (hon : S.on = true) (hc : S.c ≤ 2 ^ 40) (HK : HasK w) (y : Ent) (h : lastE S = some y) (hs : y.slot ≠ 2) (t : ByteArray) (ht : t.size ≤ 900000) (hr : DS.sr S y.slot y.size = (t, 0)) (hd : y.sum = sha t.data.toList) :
    Calls Tryd.prog 35 #[.pointer (some ⟨g, 0, none⟩)] w fun e w' => ∃ s, e = .returned (.tuple #[.pointer (some ⟨s, 0, none⟩), .int .i64 0]) ∧ OpenR w w' s g ⟨⟨y.slot, t, y.sum⟩, none, false⟩ := by
  have CL := last_on F g S w hD hon hc HK
  rw [h] at CL
  have HCL := Lib.hid (show Calls Tryd.prog 31 #[.pointer (some ⟨g, 0, none⟩)] w fun x w' => x = .returned (.tuple #[.agg y.cells.toArray, .bool true, .int .i64 0]) ∧ Below w.heap.size w w' from CL)
  have HSR := Lib.hid (fun W (hb : Below w.heap.size w W) => by
    have := d_sr y.slot y.size W (hD.below hb) hc
    rwa [hr] at this)
  have HOF : Hid (∀ W, Below w.heap.size w W → Calls Tryd.prog 51 #[.string t] W fun e w' => e = .returned (.string (strOf y.sum)) ∧ Below W.heap.size W w') := Lib.hid (fun W hb => by
    rw [hd]
    exact of_any t W (HK.later hb) ht)
  have HEP := Lib.hid (fun W => ebt_put W 47 y)
  have HEZ := Lib.hid (fun W => ebt_zero W 47)
  have HA := Lib.hid (e_all y)
  have HNC : Hid (Sv.no.cells = [.int .i64 2, .string ⟨#[]⟩, .string (strOf (List.replicate 32 0))]) := Lib.hid rfl
  have t1 : (y.slot == 2) = false := by simpa using hs
  have t2 : decide (y.slot = 2) = false := decide_eq_false hs
  have HY2 : Hid (∀ W B, EB W B y → W.cell? ⟨B, 2, none⟩ = some (.int .i64 y.slot) ∧ W.cell? ⟨B, 3, none⟩ = some (.int .i64 y.size) ∧ W.cell? ⟨B, 4, none⟩ = some (.string (strOf y.sum))) := Lib.hid (fun W B he => by
    have h2 := he.cells 2 _ rfl
    have h3 := he.cells 3 _ rfl
    have h4 := he.cells 4 _ rfl
    rw [Nat.zero_add] at h2 h3 h4
    exact ⟨h2, h3, h4⟩)
  clear hD hon hc HK h CL hs hr hd
  go_enter Tryd.func35, Tryd.ntmps35
  go_wp2_with fail
  refine HCL.out.mono ?_
  rintro e w1 ⟨rfl, hb⟩
  have HB1 := Lib.hid hb
  have HZ1 := Lib.hid (HEZ.out w1)
  have HP1 := Lib.hid (HEP.out w1)
  clear hb HCL HEZ HEP
  go_wp2_with (first
    | (refine wpList_store_mid rfl 47 (.tmp 4) (.tmp 12) rfl w1.heap.size 0 y.cells.toArray rfl rfl HZ1.out.room (e_infoA _) HA.out ?_; generalize World.setCells _ _ _ _ = W2 at HP1 ⊢; have HB2 := Lib.hid (chain2 HB1.out HP1.out.2); have HE2 := Lib.hid HP1.out.1; clear HP1 HZ1 HB1)
    | (go_at_call 72; refine (nothing_any _).mono ?_; rintro e w3 ⟨rfl, hb3⟩; have HB3 := Lib.hid (chain2 HB2.out hb3)
       have HE3 := Lib.hid (HE2.out.later hb3)
       have hc2 : ∀ o, (w3.alloc o).cell? ⟨w1.heap.size, 2, none⟩ = some (.int .i64 y.slot) := fun o => (HY2.out _ _ (HE3.out.later ((Below.refl _ _).alloc (Nat.le_refl _) o))).1
       have hc3 : ∀ o, (w3.alloc o).cell? ⟨w1.heap.size, 3, none⟩ = some (.int .i64 y.size) := fun o => (HY2.out _ _ (HE3.out.later ((Below.refl _ _).alloc (Nat.le_refl _) o))).2.1
       clear hb3 HB2 HE2; rw [HNC.out]))
  generalize hW4 : World.alloc w3 _ = W4
  have HH4 : Hid (Half w W4 w3.heap.size (scells w3.heap.size g 0 ⟨Sv.no, none, false⟩)) := Lib.hid (by rw [← hW4]; exact half_new HB3.out (scells w3.heap.size g 0 ⟨Sv.no, none, false⟩) 91)
  have HE4 : Hid (EB W4 w1.heap.size y) := Lib.hid (by rw [← hW4]; exact HE3.out.later ((Below.refl _ _).alloc (Nat.le_refl _) _))
  have HNE : Hid (¬w1.heap.size = w3.heap.size) := Lib.hid (fun e => absurd HE3.out.lt (by omega))
  have HC := Lib.hid (scells_length w3.heap.size g 0 ⟨Sv.no, none, false⟩)
  have HC4 : Hid ((scells w3.heap.size g 0 ⟨Sv.no, none, false⟩)[4]? = some (.bool false)) := Lib.hid rfl
  have HCS : Hid ((scells w3.heap.size g 0 ⟨Sv.no, none, false⟩).set 4 (.bool false) = scells w3.heap.size g 0 ⟨Sv.no, none, false⟩) := Lib.hid rfl
  have HFIN : Hid (∀ W, Half w W w3.heap.size (scells w3.heap.size g 0 ⟨Sv.no, none, false⟩) → Half w (W.setCells w3.heap.size 0 (Sv.mk y.slot t y.sum).cells.toArray.toList) w3.heap.size (scells w3.heap.size g 0 ⟨⟨y.slot, t, y.sum⟩, none, false⟩)) := Lib.hid (fun W h => h.saved (q := ⟨y.slot, t, y.sum⟩) (r := Sv.no) rfl)
  have HAV := Lib.hid (v_all ⟨y.slot, t, y.sum⟩)
  clear hc2 hc3 HB3 HE3 hW4
  generalize scells w3.heap.size g 0 ⟨Sv.no, none, false⟩ = cs at *
  generalize w3.heap.size = s0 at *
  refine (HSR.out W4 HH4.out.below).mono ?_
  rintro e w5 ⟨rfl, hb5⟩
  have HH5 := Lib.hid (HH4.out.later hb5)
  have HE5 := Lib.hid (HE4.out.later hb5)
  clear hb5 HH4 HE4 HSR
  go_wp2_with fail
  have hbd : Below w5.heap.size w5 w5.drew := ⟨rfl, rfl, rfl, Nat.le_refl _, fun _ _ => rfl⟩
  have HSE : Hid (∀ W, Half w W s0 cs → EB W w1.heap.size y → W.cell? ⟨w1.heap.size, 4, none⟩ = some (.string (strOf y.sum)) ∧ Half w W s0 cs ∧ EB W w1.heap.size y) := Lib.hid (fun W h1 h2 => ⟨(HY2.out W _ h2).2.2, h1, h2⟩)
  have hS0 := HSE.out _ (HH5.out.later hbd) (HE5.out.later hbd)
  clear hbd HH5 HE5
  apply region_at (F := fun _ W3 => Half w W3 s0 cs ∧ EB W3 w1.heap.size y)
  case h =>
    refine wp_region_noPanic (wp_region_held_drew (S := fun W => W.cell? ⟨w1.heap.size, 4, none⟩ = some (.string (strOf y.sum)) ∧ Half w W s0 cs ∧ EB W w1.heap.size y) (by kernel_rfl) hS0 (fun hHeld => ?_))
    refine wpAnyH_take (i := 0) (v := ?_) rfl (by kernel_rfl) (by kernel_rfl) (by kernel_rfl) (fun _ _ _ h => h) (Or.inl ⟨by rfl, ?_⟩) (by assumption) ?_
    rotate_left
    · intro w' hSw
      obtain ⟨hs4, -⟩ := hSw
      go_simp
      first | done | with_reducible rfl
    simp only [Act.put, List.getElem_toArray, List.getElem_cons_zero, List.setIfInBounds_toArray, List.set_cons_zero, List.set_cons_succ]
    refine wpAnyH_take (i := 1) (v := ?_) rfl (by kernel_rfl) (by kernel_rfl) (by kernel_rfl) (fun _ _ _ h => h) (Or.inl ⟨by rfl, ?_⟩) (by assumption) ?_
    rotate_left
    · intro w' hSw
      obtain ⟨hs4, -⟩ := hSw
      go_simp
      first | done | with_reducible rfl
    simp only [Act.put, List.getElem_toArray, List.getElem_cons_succ, List.getElem_cons_zero, List.setIfInBounds_toArray, List.set_cons_zero, List.set_cons_succ]
    refine wpAnyH_take (i := 2) (v := ?_) rfl (by kernel_rfl) (by kernel_rfl) (by kernel_rfl) (fun _ _ _ h => h) (Or.inl ⟨by rfl, ?_⟩) (by assumption) ?_
    rotate_left
    · intro w' hSw
      obtain ⟨hs4, -⟩ := hSw
      go_simp
      first | done | with_reducible rfl
    simp only [Act.put, List.getElem_toArray, List.getElem_cons_succ, List.getElem_cons_zero, List.setIfInBounds_toArray, List.set_cons_zero, List.set_cons_succ]
    refine wpAnyH_take (i := 3) (v := ?_) rfl (by kernel_rfl) (by kernel_rfl) (by kernel_rfl) (fun _ _ _ h => h) (Or.inl ⟨by rfl, ?_⟩) (by assumption) ?_
    rotate_left
    · intro w' hSw
      obtain ⟨hs4, -⟩ := hSw
      go_simp
      first | done | with_reducible rfl
    simp only [Act.put, List.getElem_toArray, List.getElem_cons_succ, List.getElem_cons_zero, List.setIfInBounds_toArray, List.set_cons_zero, List.set_cons_succ]
    refine wpAnyH_take (i := 4) (v := ?_) rfl (by kernel_rfl) (by kernel_rfl) (by kernel_rfl) (fun _ _ _ h => h) (Or.inl ⟨by rfl, ?_⟩) (by assumption) ?_
    rotate_left
    · intro w' hSw
      obtain ⟨hs4, -⟩ := hSw
      go_simp
      first | done | with_reducible rfl
    simp only [Act.put, List.getElem_toArray, List.getElem_cons_succ, List.getElem_cons_zero, List.setIfInBounds_toArray, List.set_cons_zero, List.set_cons_succ]
    refine wpAnyH_take (i := 6) (v := ?_) rfl (by kernel_rfl) (by kernel_rfl) (by kernel_rfl) (fun _ _ _ h => h) (Or.inl ⟨by rfl, ?_⟩) (by assumption) ?_
    rotate_left
    · intro w' hSw
      obtain ⟨hs4, -⟩ := hSw
      go_simp
      first | done | with_reducible rfl
    simp only [Act.put, List.getElem_toArray, List.getElem_cons_succ, List.getElem_cons_zero, List.setIfInBounds_toArray, List.set_cons_zero, List.set_cons_succ]
    refine wpAnyH_take (i := 7) (v := ?_) rfl (by kernel_rfl) (by kernel_rfl) (by kernel_rfl) (fun _ _ _ h => h) (Or.inl ⟨by rfl, ?_⟩) (by assumption) ?_
    rotate_left
    · intro w' hSw
      obtain ⟨hs4, -⟩ := hSw
      go_simp
      first | done | with_reducible rfl
    simp only [Act.put, List.getElem_toArray, List.getElem_cons_succ, List.getElem_cons_zero, List.setIfInBounds_toArray, List.set_cons_zero, List.set_cons_succ]
    refine wpAnyH_all (rs := [5]) (by kernel_rfl) (by simp) (fun q' hq => ?_)
    obtain rfl := List.mem_singleton.1 hq
    clear hq
    refine wpOp_wp rfl (by rfl) (fun K' hK => ?_)
    go_simp
    refine (HOF.out _ hS0.2.1.below).mono ?_
    rintro e W6 ⟨rfl, hb6⟩
    have hS6 := HSE.out _ (hS0.2.1.later hb6) (hS0.2.2.later hb6)
    refine hK.out _ _ ⟨hS6, ?_⟩
    clear hK K'
    try simp only [Act.put, List.getElem_toArray, List.getElem_cons_succ, List.getElem_cons_zero, List.setIfInBounds_toArray, List.set_cons_zero, List.set_cons_succ]
    refine wpAnyH_take (i := 8) (v := ?_) rfl (by kernel_rfl) (by kernel_rfl) (by kernel_rfl) (fun _ _ _ h => h) (Or.inl ⟨by rfl, ?_⟩) (by assumption) ?_
    rotate_left
    · intro w' hSw
      obtain ⟨hs4, -⟩ := hSw
      go_simp
      first | done | with_reducible rfl
    simp only [Act.put, List.getElem_toArray, List.getElem_cons_succ, List.getElem_cons_zero, List.setIfInBounds_toArray, List.set_cons_zero, List.set_cons_succ]
    refine wpAnyH_take (i := 9) (v := ?_) rfl (by kernel_rfl) (by kernel_rfl) (by kernel_rfl) (fun _ _ _ h => h) (Or.inl ⟨by rfl, ?_⟩) (by assumption) ?_
    rotate_left
    · intro w' hSw
      obtain ⟨hs4, -⟩ := hSw
      go_simp
      first | done | with_reducible rfl
    simp only [Act.put, List.getElem_toArray, List.getElem_cons_succ, List.getElem_cons_zero, List.setIfInBounds_toArray, List.set_cons_zero, List.set_cons_succ]
    refine wpAnyH_take (i := 10) (v := ?_) rfl (by kernel_rfl) (by kernel_rfl) (by kernel_rfl) (fun _ _ _ h => h) (Or.inl ⟨by rfl, ?_⟩) (by assumption) ?_
    rotate_left
    · intro w' hSw
      obtain ⟨hs4, -⟩ := hSw
      go_simp
      first | done | with_reducible rfl
    simp only [Act.put, List.getElem_toArray, List.getElem_cons_succ, List.getElem_cons_zero, List.setIfInBounds_toArray, List.set_cons_zero, List.set_cons_succ]
    refine wpAnyH_take (i := 11) (v := ?_) rfl (by kernel_rfl) (by kernel_rfl) (by kernel_rfl) (fun _ _ _ h => h) (Or.inl ⟨by rfl, ?_⟩) (by assumption) ?_
    rotate_left
    · intro w' hSw
      obtain ⟨hs4, -⟩ := hSw
      go_simp
      first | done | with_reducible rfl
    simp only [Act.put, List.getElem_toArray, List.getElem_cons_succ, List.getElem_cons_zero, List.setIfInBounds_toArray, List.set_cons_zero, List.set_cons_succ]
    refine wpAnyH_all (rs := [12]) (by kernel_rfl) (by simp) (fun q' hq => ?_)
    obtain rfl := List.mem_singleton.1 hq
    clear hq
    have c4 : W6.cell? ⟨s0, 4, none⟩ = some (.bool false) := hS6.2.1.cb.cell HC4.out
    have f4 : W6.frozen? ⟨s0, 4, none⟩ = false := hS6.2.1.cb.free 4 (by rw [HC.out]; decide)
    have hp := hS6.2.1.put 4 (by rw [HC.out]; decide) (.bool false)
    rw [HCS.out] at hp
    have hE7 : EB (W6.setCell ⟨s0, 4, none⟩ (.bool false)) w1.heap.size y := hS6.2.2.only (only_at W6 s0 4 (.bool false)) (fun e => absurd e HNE.out)
    have hS7 := HSE.out _ hp hE7
    refine wpOp_wp rfl (by rfl) (fun K' hK => ?_)
    go_simp
    refine hK.out _ _ ⟨hS7, ?_⟩
    clear hK K'
    try simp only [Act.put, List.getElem_toArray, List.getElem_cons_succ, List.getElem_cons_zero]
    refine wpAnyH_done (by kernel_rfl) (NoPanic.normal ?_) _
    obtain ⟨B9, -⟩ : ∃ B : Nat, B = 0 := ⟨0, rfl⟩
    exact ⟨rfl, B9, rfl, hp, hE7⟩
  case k =>
    intro B9 W7 HF
    have HH7 := Lib.hid HF.1
    have c4 : W7.cell? ⟨s0, 4, none⟩ = some (.bool false) := HF.1.cb.cell HC4.out
    have c2b := (HY2.out _ _ HF.2).1
    have c4b := (HY2.out _ _ HF.2).2.2
    have HRM : Hid (W7.there s0 0 3) := Lib.hid (fun j hj => HF.1.cb.room j (by rw [HC.out]; exact Nat.lt_trans hj (by decide)))
    clear HF
    go_wp2_with (first
      | (refine wpList_store_mid rfl 88 (.tmp 71) (.tmp 69) rfl s0 0 (Sv.mk y.slot t y.sum).cells.toArray rfl rfl HRM.out (v_infoA _) HAV.out ?_; have HF8 := Lib.hid (HFIN.out W7 HH7.out); generalize World.setCells _ _ _ _ = W8 at HF8 ⊢))
    go_ret2
    exact ⟨s0, rfl, HF8.out.sto rfl⟩
end
end Go.Proofs.YtkplmaaeggnbgaaDoor.St
namespace Go.Proofs.YtkplmaaeggnbgaaDoor.St
open Go.RowKit Dk Rg Sl

section
variable {w0 w w' : World} {P D : Nat → Prop} {s g : Nat} {S S' : DS} {X : StS}

theorem Sto.solo (h : Sto w0 w P s g S X) : Solo w0 w P g S := by obtain ⟨p, h⟩ := h; exact h.solo.less (fun k hk => .inl hk)
theorem Sto.below (h : Sto w0 w P s g S X) : Below w0.heap.size w0 w := h.solo.below
theorem Sto.later (h : Sto w0 w P s g S X) (k : Below w.heap.size w w') : Sto w0 w' P s g S X := by obtain ⟨p, h⟩ := h; exact ⟨p, h.later k⟩
theorem Sto.less (h : Sto w0 w P s g S X) (hPD : ∀ k, D k → P k) : Sto w0 w D s g S X := by obtain ⟨p, h⟩ := h; exact ⟨p, h.less hPD⟩
theorem Sto.fresh (h : Sto w0 w P s g S X) (k : Below w.heap.size w w') (hD : ∀ i, D i → w.heap.size ≤ i ∧ i < w'.heap.size) : Sto w0 w' (fun i => P i ∨ D i) s g S X := by obtain ⟨p, h⟩ := h; exact ⟨p, h.fresh k hD⟩
theorem Sto.wrote {G : Nat → Prop} (h : Sto w0 w P s g S X) (k : Only G w w') (hG : ∀ i, G i → P i ∧ w0.heap.size ≤ i) : Sto w0 w' P s g S X := by obtain ⟨p, h⟩ := h; exact ⟨p, h.wrote k hG⟩
theorem Sto.lt (h : Sto w0 w P s g S X) : ∀ k, P k → k < w.heap.size := by obtain ⟨p, h⟩ := h; exact h.lt
theorem Sto.step {f : Nat} {args : Array Value} {Ans : Ending → Prop} (h : Sto w0 w P s g S X) (C : ∀ F, DiskAt w F g S → (∀ k, F k → w0.heap.size ≤ k) → Calls Tryd.prog f args w fun e w' => Ans e ∧ DiskAt w' (More F w) g S' ∧ Only F w w') :
    Calls Tryd.prog f args w fun e w' => Ans e ∧ Sto w0 w' P s g S' X ∧ Only (fun k => ¬P k) w w' := by
  obtain ⟨p, h⟩ := h
  exact (h.step C).mono fun _ _ ⟨a, b, c⟩ => ⟨a, ⟨p, b⟩, c⟩

theorem Sto.text (h : Sto w0 w P s g S X) : Calls Tryd.prog 42 #[.pointer (some ⟨s, 0, none⟩)] w fun e w' => e = .returned (.tuple #[.string X.sv.view.1, .bool X.sv.view.2]) ∧ w = w' := by obtain ⟨p, h⟩ := h; exact text_yes w h.sto
theorem Sto.odd (h : Sto w0 w P s g S X) : Calls Tryd.prog 41 #[.pointer (some ⟨s, 0, none⟩)] w fun e w' => e = .returned (.bool X.odd) ∧ w = w' := by obtain ⟨p, h⟩ := h; exact odd_yes w h.sto
theorem Sto.waits (h : Sto w0 w P s g S X) : Calls Tryd.prog 43 #[.pointer (some ⟨s, 0, none⟩)] w fun e w' => e = .returned (.bool X.pend.isSome) ∧ w = w' := by obtain ⟨p, h⟩ := h; exact waits_yes w h.sto

theorem Sto.prep (h : Sto w0 w P s g S X) (HK : HasK w0) (t : ByteArray) (hc : S.c + 2000 ≤ 2 ^ 40) (ho : S.ops + 2000 ≤ 2 ^ 40) (hz : X.sv.text.size ≤ 2 ^ 40) (ht : t.size ≤ 900000) :
    Calls Tryd.prog 38 #[.pointer (some ⟨s, 0, none⟩), .string t] w fun e w' => e = .returned (.int .i64 (St.prep S X t).2.2) ∧ Sto w0 w' P s g (St.prep S X t).1 (St.prep S X t).2.1 ∧ Only (fun k => ¬P k) w w' := by
  obtain ⟨p, h⟩ := h; exact prep_any w h HK t hc ho hz ht

theorem Sto.comm (h : Sto w0 w P s g S X) (HK : HasK w0) (hc : S.c < 2 ^ 40) (ho : S.ops < 2 ^ 40) (hz : ∀ r, X.pend = some r → r.text.size ≤ 2 ^ 40) :
    Calls Tryd.prog 40 #[.pointer (some ⟨s, 0, none⟩)] w fun e w' => e = .returned (.int .i64 (St.comm S X).2.2) ∧ Sto w0 w' P s g (St.comm S X).1 (St.comm S X).2.1 ∧ Only (fun k => ¬P k) w w' := by
  obtain ⟨p, h⟩ := h
  cases hp : X.pend with
  | none =>
    have e : St.comm S X = (S, X, 8) := by unfold St.comm; rw [hp]
    rw [e]
    exact (comm_none w h hp).mono fun _ _ ⟨a, b, c⟩ => ⟨a, ⟨p, b⟩, c⟩
  | some r => exact (comm_some w h HK r hp hc ho (hz r hp)).mono fun _ _ ⟨a, b, c⟩ => ⟨a, ⟨p, b⟩, c⟩

theorem Sto.drop (h : Sto w0 w P s g S X) (HK : HasK w0) (hc : S.c < 2 ^ 40) (ho : S.ops < 2 ^ 40) (hz : X.sv.text.size ≤ 2 ^ 40) :
    Calls Tryd.prog 39 #[.pointer (some ⟨s, 0, none⟩)] w fun e w' => e = .returned (.int .i64 (St.drop S X).2.2) ∧ Sto w0 w' P s g (St.drop S X).1 (St.drop S X).2.1 ∧ Only (fun k => ¬P k) w w' := by
  obtain ⟨p, h⟩ := h
  cases hp : X.pend with
  | none =>
    have e : St.drop S X = (S, X, 8) := by unfold St.drop; rw [hp]
    rw [e]
    exact (drop_none w h hp).mono fun _ _ ⟨a, b, c⟩ => ⟨a, ⟨p, b⟩, c⟩
  | some r =>
    have e : St.drop S X = ((DS.app S (X.sv.ent 3)).1, X.give, (DS.app S (X.sv.ent 3)).2.2) := by unfold St.drop; rw [hp]
    rw [e]
    exact (drop_some w h HK r hp hc ho hz).mono fun _ _ ⟨a, b, c⟩ => ⟨a, ⟨p, b⟩, c⟩

theorem Sto.cut (h : Sto w0 w P s g S X) (k m : Nat) (hk : k < 2 ^ 63) (hm : m < 2 ^ 64) :
    Calls Tryd.prog 24 #[.pointer (some ⟨g, 0, none⟩), .int .i64 (k : Int), .int .u64 (m : Int)] w fun e w' => e = .returned (.int .i64 0) ∧ Sto w0 w' P s g (S.plan k m) X ∧ Only (fun k => ¬P k) w w' :=
  h.step (Ans := fun e => e = .returned (.int .i64 0)) (fun F hd _ => (cut_ok F g S k m w hd hk hm).mono fun _ _ ⟨a, b, c⟩ => ⟨a, b.mono (fun _ e => .inl e), c⟩)
theorem Sto.fail (h : Sto w0 w P s g S X) (m : Nat) (hm : m < 2 ^ 64) (hc : S.c ≤ 2 ^ 40) :
    Calls Tryd.prog 26 #[.pointer (some ⟨g, 0, none⟩), .int .u64 (m : Int)] w fun e w' => e = .returned (.tuple #[]) ∧ Sto w0 w' P s g (S.fail m) X ∧ Only (fun k => ¬P k) w w' :=
  h.step (Ans := fun e => e = .returned (.tuple #[])) (fun F hd _ => (fail_any F g m S w hd hm hc).mono fun _ _ ⟨a, b, c⟩ => ⟨a, b.mono (fun _ e => .inl e), c⟩)
theorem Sto.start (h : Sto w0 w P s g S X) :
    Calls Tryd.prog 28 #[.pointer (some ⟨g, 0, none⟩)] w fun e w' => e = .returned (.tuple #[]) ∧ Sto w0 w' P s g S.start X ∧ Only (fun k => ¬P k) w w' :=
  h.step (Ans := fun e => e = .returned (.tuple #[])) (fun F hd _ => (start_any F g S w hd).mono fun _ _ ⟨a, b, c⟩ => ⟨a, b.mono (fun _ e => .inl e), c⟩)
end

/-- What is opened over a disk that says q. -/
theorem open_says {w0 w : World} {P : Nat → Prop} {g n m : Nat} {S : DS} {q : Sv} (h : Solo w0 w P g S) (HK : HasK w0) (hf : Fine n m S) (hon : S.on = true) (hq : Says S q) (hm : m ≤ 900000) :
    Calls Tryd.prog 35 #[.pointer (some ⟨g, 0, none⟩)] w fun e w' => ∃ s, e = .returned (.tuple #[.pointer (some ⟨s, 0, none⟩), .int .i64 0]) ∧ Sto w0 w' P s g S ⟨q, none, false⟩ ∧ Below w.heap.size w w' ∧ w.heap.size ≤ s := by
  obtain ⟨F, hd, -⟩ := h.disk
  have hc : S.c ≤ 2 ^ 40 := by have := hf.few; omega
  have hk : HasK w := HK.later h.below
  rcases hq with ⟨rfl, hl⟩ | ⟨hl, y, hy, h1, h2, h3⟩
  · exact (open_none w hd hon hc hk hl).mono fun _ _ ⟨s, a, b⟩ => ⟨s, a, ⟨0, b.at rfl h⟩, b.below, b.lo⟩
  · have he := each_le' hf.ok
    have hfit := hl.fit
    have hs := lies_slot hl
    have := open_some w hd hon hc hk y hy (by omega) q.text (by omega) (by rw [h1, h2]; exact sr_text hon hl.slot hl.fit hl.blk) (by rw [h3]; exact hl.sum)
    rw [h1, h3] at this
    exact this.mono fun _ _ ⟨s, a, b⟩ => ⟨s, a, ⟨0, b.at rfl h⟩, b.below, b.lo⟩

/-! over states: a text is prepared and committed, while nothing fails -/
theorem chain_st {n m : Nat} {S : DS} {q : Sv} {t : ByteArray} (h : Fine n m S) (hon : S.on = true) (hx : S.next = none) (hq : Says S q) (hf : t.size ≤ 64 * each S) (hm : m ≤ 800000) :
    ∃ S1 S2, prep S ⟨q, none, false⟩ t = (S1, ⟨q, some (Sv.of q.other t), false⟩, 0) ∧ comm S1 ⟨q, some (Sv.of q.other t), false⟩ = (S2, ⟨Sv.of q.other t, none, false⟩, 0) ∧
      Fine n (m + 255) S1 ∧ Fine n (m + 257) S2 ∧ S2.on = true ∧ S2.next = none ∧ Says S2 (Sv.of q.other t) := by
  obtain ⟨a1, a2, a3⟩ := prep_st (X := ⟨q, none, false⟩) h hon hq hf (by omega)
  obtain ⟨c1, c2⟩ := prep_calm (X := ⟨q, none, false⟩) h hon hx hq hf (by omega)
  rcases a3 with ⟨e1, e2, e3⟩ | ⟨e1, e2⟩
  · obtain ⟨b1, b2⟩ := comm_st (X := ⟨q, some (Sv.of q.other t), false⟩) (r := Sv.of q.other t) a1 e2 a2 rfl e3 (by omega)
    obtain ⟨d1, d2⟩ := comm_calm (X := ⟨q, some (Sv.of q.other t), false⟩) (r := Sv.of q.other t) a1 e2 c2 a2 rfl e3 (by omega)
    rcases b2 with ⟨f1, f2, f3⟩ | ⟨f1, f2, f3⟩
    · exact ⟨_, _, Prod.ext rfl e1, Prod.ext rfl f1, a1, b1, f2, d2, f3⟩
    · rw [f1] at d1; cases d1
  · rw [e1] at c1; cases c1

end Go.Proofs.YtkplmaaeggnbgaaDoor.St
namespace Go.Proofs.YtkplmaaeggnbgaaDoor.St
open Go.RowKit Dk Rg Sl

def tA : ByteArray := ⟨#[97]⟩
def tB : ByteArray := ⟨#[98]⟩

theorem view_of {slot : Int} {t : ByteArray} (h : slot ≠ 2) : (Sv.of slot t).view = (t, true) := if_neg h

theorem k7 : ∃ S1 S2 S3 q3 c3, prep (new 16) ⟨Sv.no, none, false⟩ tA = (S1, ⟨Sv.no, some (Sv.of 0 tA), false⟩, 0) ∧ comm S1 ⟨Sv.no, some (Sv.of 0 tA), false⟩ = (S2, ⟨Sv.of 0 tA, none, false⟩, 0) ∧
    prep S2 ⟨Sv.of 0 tA, none, false⟩ tB = (S3, ⟨q3, c3, false⟩, 0) ∧ Fine 16 1000 S1 ∧ Fine 16 1000 S2 ∧ Fine 16 1000 S3 ∧ Says S3 (Sv.of 0 tA) := by
  obtain ⟨f0, s0⟩ := fine_new (n := 16) (by decide) (by decide)
  obtain ⟨S1, S2, a1, a2, a3, a4, a5, a6, a7⟩ := chain_st (t := tA) f0 rfl rfl s0 (by decide) (by decide)
  have hf : tB.size ≤ 64 * each S2 := by
    unfold each; rw [a4.len]; decide
  obtain ⟨S3, S4, b1, b2, b3, b4, b5, b6, b7⟩ := chain_st (t := tB) a4 a5 a6 a7 hf (by decide)
  obtain ⟨c1, c2, c3⟩ := prep_st (X := ⟨Sv.of Sv.no.other tA, none, false⟩) a4 a5 a7 hf (by decide)
  rw [b1] at c2
  exact ⟨S1, S2, S3, _, _, a1, a2, b1, a3.more (by decide), a4.more (by decide), b3.more (by decide), c2⟩

set_option maxHeartbeats 4000000 in
set_option maxRecDepth 100000 in
theorem known7 (w : World) (HK : HasK w) : Calls Tryd.prog 36 #[] w fun e w' => e = .returned (.bool true) ∧ Below w.heap.size w w' := by
  obtain ⟨S1, S2, S3, q3, c3, e1, e2, e3, f1, f2, f3, s3⟩ := k7
  obtain ⟨f4, o4, k4⟩ := fail_st f3 0
  have s4 := k4 _ s3
  obtain ⟨f0, s0⟩ := fine_new (n := 16) (by decide) (by decide)
  have g1 := f1.few
  have g2 := f2.few
  have g3 := f3.few
  have hno : (new 16).c = 0 ∧ (new 16).ops = 0 := ⟨rfl, rfl⟩
  obtain ⟨g, hg⟩ : ∃ g, w.heap.size + 2 = g := ⟨_, rfl⟩
  have CN : Hid (Calls Tryd.prog 14 #[.int .i64 16] w fun e w' => e = .returned (.tuple #[.pointer (some ⟨g, 0, none⟩), .int .i64 0]) ∧ Solo w w' (fun _ => False) g (new 16)) := Lib.hid (by
    rw [← hg]
    exact (new_dk 16 (by decide) (by decide) w).mono fun _ _ ⟨a, b⟩ => ⟨a, solo_new b⟩)
  have CO1 := Lib.hid (fun W (h : Solo w W (fun _ => False) g (new 16)) => open_says h HK f0 rfl s0 (by decide))
  have CT1 : Hid (∀ W s, Sto w W (fun _ => False) s g (new 16) ⟨Sv.no, none, false⟩ → Calls Tryd.prog 42 #[.pointer (some ⟨s, 0, none⟩)] W fun e w' => e = .returned (.tuple #[.string ⟨#[]⟩, .bool false]) ∧ W = w') := Lib.hid (fun W s h => h.text)
  have CP1 : Hid (∀ W s, Sto w W (fun _ => False) s g (new 16) ⟨Sv.no, none, false⟩ → Calls Tryd.prog 38 #[.pointer (some ⟨s, 0, none⟩), .string ⟨#[97]⟩] W fun e w' => e = .returned (.int .i64 0) ∧ Sto w w' (fun _ => False) s g S1 ⟨Sv.no, some (Sv.of 0 tA), false⟩) := Lib.hid (fun W s h => by
    have := h.prep HK tA (by decide) (by decide) (by decide) (by decide)
    rw [e1] at this
    exact this.mono fun _ _ ⟨a, b, _⟩ => ⟨a, b⟩)
  have CW : Hid (∀ W s, Sto w W (fun _ => False) s g S1 ⟨Sv.no, some (Sv.of 0 tA), false⟩ → Calls Tryd.prog 43 #[.pointer (some ⟨s, 0, none⟩)] W fun e w' => e = .returned (.bool true) ∧ W = w') := Lib.hid (fun W s h => h.waits)
  have CC1 : Hid (∀ W s, Sto w W (fun _ => False) s g S1 ⟨Sv.no, some (Sv.of 0 tA), false⟩ → Calls Tryd.prog 40 #[.pointer (some ⟨s, 0, none⟩)] W fun e w' => e = .returned (.int .i64 0) ∧ Sto w w' (fun _ => False) s g S2 ⟨Sv.of 0 tA, none, false⟩) := Lib.hid (fun W s h => by
    have := h.comm HK (by omega) (by omega) (fun r hr => by cases hr; show tA.size ≤ _; decide)
    rw [e2] at this
    exact this.mono fun _ _ ⟨a, b, _⟩ => ⟨a, b⟩)
  have CP2 : Hid (∀ W s, Sto w W (fun _ => False) s g S2 ⟨Sv.of 0 tA, none, false⟩ → Calls Tryd.prog 38 #[.pointer (some ⟨s, 0, none⟩), .string ⟨#[98]⟩] W fun e w' => e = .returned (.int .i64 0) ∧ Sto w w' (fun _ => False) s g S3 ⟨q3, c3, false⟩) := Lib.hid (fun W s h => by
    have := h.prep HK tB (by omega) (by omega) (by show tA.size ≤ _; decide) (by decide)
    rw [e3] at this
    exact this.mono fun _ _ ⟨a, b, _⟩ => ⟨a, b⟩)
  have CF : Hid (∀ W s, Sto w W (fun _ => False) s g S3 ⟨q3, c3, false⟩ → Calls Tryd.prog 26 #[.pointer (some ⟨g, 0, none⟩), .int .u64 0] W fun e w' => e = .returned (.tuple #[]) ∧ Sto w w' (fun _ => False) s g (S3.fail 0) ⟨q3, c3, false⟩) := Lib.hid (fun W s h => (h.fail 0 (by decide) (by omega)).mono fun _ _ ⟨a, b, _⟩ => ⟨a, b⟩)
  have CS : Hid (∀ W s, Sto w W (fun _ => False) s g (S3.fail 0) ⟨q3, c3, false⟩ → Calls Tryd.prog 28 #[.pointer (some ⟨g, 0, none⟩)] W fun e w' => e = .returned (.tuple #[]) ∧ Solo w w' (fun _ => False) g (S3.fail 0).start) := Lib.hid (fun W s h => h.start.mono fun _ _ ⟨a, b, _⟩ => ⟨a, b.solo⟩)
  have CO2 := Lib.hid (fun W (h : Solo w W (fun _ => False) g (S3.fail 0).start) => open_says h HK f4 o4 s4 (by decide))
  generalize (S3.fail 0).start = S4 at *
  have CT2 : Hid (∀ W s, Sto w W (fun _ => False) s g S4 ⟨Sv.of 0 tA, none, false⟩ → Calls Tryd.prog 42 #[.pointer (some ⟨s, 0, none⟩)] W fun e w' => e = .returned (.tuple #[.string ⟨#[97]⟩, .bool true]) ∧ W = w') := Lib.hid (fun W s h => h.text)
  have CC2 : Hid (∀ W s, Sto w W (fun _ => False) s g S4 ⟨Sv.of 0 tA, none, false⟩ → Calls Tryd.prog 40 #[.pointer (some ⟨s, 0, none⟩)] W fun e w' => e = .returned (.int .i64 8) ∧ Sto w w' (fun _ => False) s g S4 ⟨Sv.of 0 tA, none, false⟩) := Lib.hid (fun W s h => by
    have g4 := f4.few
    exact (h.comm HK (by omega) (by omega) (fun r hr => by cases hr)).mono fun _ _ ⟨a, b, _⟩ => ⟨a, b⟩)
  have COD : Hid (∀ W s, Sto w W (fun _ => False) s g S4 ⟨Sv.of 0 tA, none, false⟩ → Calls Tryd.prog 41 #[.pointer (some ⟨s, 0, none⟩)] W fun e w' => e = .returned (.bool false) ∧ W = w') := Lib.hid (fun W s h => h.odd)
  clear e1 e2 e3 f1 f2 f3 s3 f4 o4 k4 s4 f0 s0 g1 g2 g3 hno hg HK
  generalize Sv.of 0 tA = q1 at *
  generalize Sv.no = q0 at *
  generalize new 16 = S0 at *
  go_enter Tryd.func36, Tryd.ntmps36
  go_wp2_with fail
  refine CN.out.mono ?_
  rintro e w1 ⟨rfl, h1⟩
  have H1 := Lib.hid h1
  clear h1 CN
  go_wp2_with fail
  refine (CO1.out w1 H1.out).mono ?_
  rintro e w2 ⟨s, rfl, h2, -, -⟩
  have H2 := Lib.hid h2
  clear h2 H1 CO1
  go_wp2_with (first
    | (go_at_call 42; refine (CT1.out w2 _ H2.out).mono ?_; rintro e w' ⟨rfl, rfl⟩)
    | (go_at_call 38; refine (CP1.out w2 _ H2.out).mono ?_; rintro e w3 ⟨rfl, h3⟩; have H3 := Lib.hid h3; clear h3 H2)
    | (go_at_call 43; refine (CW.out w3 _ H3.out).mono ?_; rintro e w' ⟨rfl, rfl⟩)
    | (go_at_call 40; refine (CC1.out w3 _ H3.out).mono ?_; rintro e w4 ⟨rfl, h4⟩; have H4 := Lib.hid h4; clear h4 H3)
    | (go_at_call 38; refine (CP2.out w4 _ H4.out).mono ?_; rintro e w5 ⟨rfl, h5⟩; have H5 := Lib.hid h5; clear h5 H4)
    | (go_at_call 26; refine (CF.out w5 _ H5.out).mono ?_; rintro e w6 ⟨rfl, h6⟩; have H6 := Lib.hid h6; clear h6 H5)
    | (go_at_call 28; refine (CS.out w6 _ H6.out).mono ?_; rintro e w7 ⟨rfl, h7⟩; have H7 := Lib.hid h7; clear h7 H6)
    | (go_at_call 35; refine (CO2.out w7 H7.out).mono ?_; rintro e w8 ⟨s2, rfl, h8, -, -⟩; have H8 := Lib.hid h8; clear h8 H7)
    | (go_at_call 42; refine (CT2.out w8 _ H8.out).mono ?_; rintro e w' ⟨rfl, rfl⟩)
    | (go_at_call 40; refine (CC2.out w8 _ H8.out).mono ?_; rintro e w9 ⟨rfl, h9⟩; have H9 := Lib.hid h9; clear h9 H8)
    | (go_at_call 41; refine (COD.out w9 _ H9.out).mono ?_; rintro e w' ⟨rfl, rfl⟩))
  go_ret
  exact ⟨rfl, H9.out.below⟩

end Go.Proofs.YtkplmaaeggnbgaaDoor.St
