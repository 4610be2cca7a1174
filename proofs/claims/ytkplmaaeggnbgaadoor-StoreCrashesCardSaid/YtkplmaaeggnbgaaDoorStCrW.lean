/- The walk of StoreCrashes: it returns true. No condition but those that each states. -/
import Derived.Test.YtkplmaaeggnbgaaDoorStLaW
import Derived.Test.YtkplmaaeggnbgaaDoorDkCn
import Derived.Deep.RegionHeld3
namespace Go.Proofs.YtkplmaaeggnbgaaDoor.St
open Go.RowKit Dk Rg Sl

/-- At a round's beginning: the disk is on, and says q. -/
structure CkOk (i : Nat) (S : DS) (q : Sv) : Prop where
  fine : Fine 40 (300 * i) S
  on : S.on = true
  says : Says S q

theorem ckOk_new : CkOk 0 (new 40) Sv.no := by
  obtain ⟨f0, s0⟩ := fine_new (n := 40) (by decide) (by decide)
  exact ⟨f0, rfl, s0⟩

section
variable {w w' W : World} {b0 s g i n m : Nat} {S S' : DS} {X : StS} {q r : Sv} {o : OpT}
theorem each40 (h : Fine 40 m S) : each S = 16 := by unfold Sl.each; rw [h.len]; decide
theorem says_size (h : Fine 40 m S) (hq : Says S q) : q.text.size ≤ 2000 := by
  rcases says_view hq with ⟨_, e⟩ | ⟨_, e⟩
  · rw [e]; decide
  · have := e.fit; rw [each40 h] at this; omega

theorem ck_prep (hO : CkOk i S q) (hi : i ≤ 30) {t : ByteArray} (ht : t.size ≤ 1000) :
    ∃ S1, Fine 40 (300 * i + 255) S1 ∧ Says S1 q ∧ (St.prep S ⟨q, none, false⟩ t = (S1, ⟨q, some (Sv.of q.other t), false⟩, 0) ∧ S1.on = true ∧ Lies S1 (Sv.of q.other t) ∨ St.prep S ⟨q, none, false⟩ t = (S1, ⟨q, none, false⟩, 7)) := by
  obtain ⟨a1, a2, a3⟩ := prep_st (X := ⟨q, none, false⟩) (t := t) hO.fine hO.on hO.says (by rw [each40 hO.fine]; omega) (by omega)
  refine ⟨_, a1, a2, ?_⟩
  rcases a3 with ⟨e1, e2, e3⟩ | ⟨e1, _⟩
  · exact .inl ⟨Prod.ext rfl e1, e2, e3⟩
  · exact .inr (Prod.ext rfl e1)

theorem ck_drop (h : Fine 40 m S) (hon : S.on = true) (hq : Says S q) (hm : m ≤ 800000) :
    ∃ S1 f, Fine 40 (m + 2) S1 ∧ Says S1 q ∧ St.drop S ⟨q, some r, false⟩ = (S1, ⟨q, none, false⟩, f) := by
  obtain ⟨b1, b2, _, _⟩ := app_same (k := 3) h hon hq (by decide) (by omega)
  exact ⟨_, _, b1, b2, rfl⟩

theorem ck_comm (h : Fine 40 m S) (hon : S.on = true) (hq : Says S q) (hr : Lies S r) (hm : m ≤ 800000) :
    ∃ S1, Fine 40 (m + 2) S1 ∧ (St.comm S ⟨q, some r, false⟩ = (S1, ⟨r, none, false⟩, 0) ∧ Says S1 r ∨ St.comm S ⟨q, some r, false⟩ = (S1, ⟨q, none, false⟩, 7) ∧ (Says S1 q ∨ Says S1 r)) := by
  obtain ⟨a1, a2⟩ := comm_st (X := ⟨q, some r, false⟩) h hon hq rfl hr (by omega)
  refine ⟨_, a1, ?_⟩
  rcases a2 with ⟨e1, _, e3⟩ | ⟨e1, _, e3⟩
  · exact .inl ⟨Prod.ext rfl e1, e3⟩
  · exact .inr ⟨Prod.ext rfl e1, e3⟩

theorem LaX.fail (h : LaX w W b0 s g S X o) {m : Nat} (hm : m < 2 ^ 64) (hc : S.c ≤ 2 ^ 40) :
    Calls Tryd.prog 26 #[.pointer (some ⟨g, 0, none⟩), .int .u64 (m : Int)] W fun e w' => e = .returned (.tuple #[]) ∧ LaX w w' b0 s g (S.fail m) X o :=
  (h.sto.fail m hm hc).mono fun _ _ ⟨a, b, c⟩ => ⟨a, h.next b c⟩
theorem LaX.start (h : LaX w W b0 s g S X o) :
    Calls Tryd.prog 28 #[.pointer (some ⟨g, 0, none⟩)] W fun e w' => e = .returned (.tuple #[]) ∧ LaX w w' b0 s g S.start X o :=
  h.sto.start.mono fun _ _ ⟨a, b, c⟩ => ⟨a, h.next b c⟩
theorem LaX.later (h : LaX w W b0 s g S X o) (k : Below W.heap.size W w') : LaX w w' b0 s g S X o := ⟨h.sto.later k, h.op.later k⟩
theorem CkOk.plan (h : CkOk i S q) {k j : Nat} (hk : k < 2 ^ 63) (hj : j < 2 ^ 64) : CkOk (i + 1) (S.plan k j) q :=
  ⟨(h.fine.plan hk hj).more (by omega), h.on, h.says.of (T := S.plan k j) rfl (fun _ _ _ _ => rfl) rfl⟩
end

-- THE WALK
set_option maxHeartbeats 8000000 in
set_option maxRecDepth 100000 in
theorem crash_law (pa : Option Addr) (len cap : Nat) (hl : len ≤ maxLen) (w : World) (HK : HasK w) (hc : ∀ j, j < len → ∃ (b off : Nat) (o : OpT), pa = some ⟨b, off, none⟩ ∧ b < w.heap.size ∧ o.Ok ∧ w.rangeAt b (off + j * 4) o.cells) :
    Calls Tryd.prog 5 #[.slice pa len cap] w fun e w' => e = .returned (.bool true) ∧ Below w.heap.size w w' := by
  unfold maxLen at hl
  have HC := Lib.hid hc
  have HHK := Lib.hid HK
  clear hc HK
  obtain ⟨f0, s0⟩ := fine_new (n := 40) (by decide) (by decide)
  obtain ⟨g, hg⟩ : ∃ g, w.heap.size + 2 = g := ⟨_, rfl⟩
  have CN : Hid (Calls Tryd.prog 14 #[.int .i64 40] w fun e w' => e = .returned (.tuple #[.pointer (some ⟨g, 0, none⟩), .int .i64 0]) ∧ Solo w w' (fun _ => False) g (new 40)) := Lib.hid (by
    rw [← hg]
    exact (new_dk 40 (by decide) (by decide) w).mono fun _ _ ⟨a, b⟩ => ⟨a, solo_new b⟩)
  have CO1 := Lib.hid (fun W (h : Solo w W (fun _ => False) g (new 40)) => open_says h HHK.out f0 rfl s0 (by decide))
  clear f0 s0 hg
  go_enter Tryd.func5, Tryd.ntmps5
  go_wp2_with fail
  refine CN.out.mono ?_
  rintro e w1 ⟨rfl, h1⟩
  have H1 := Lib.hid h1
  clear h1 CN
  go_wp2_with fail
  refine (CO1.out w1 H1.out).mono ?_
  rintro e w2 ⟨sA, rfl, h2, -, -⟩
  have H2 := Lib.hid h2
  clear h2 H1 CO1
  go_wp2
  go_loopw [5, 7, 8, 9] (fun vs vt vh vi wr => ∃ (i : Nat) (S : DS) (q : Sv) (s : Nat), i ≤ 30 ∧ vs = .pointer (some ⟨s, 0, none⟩) ∧ vt = .string q.view.1 ∧ vh = .bool q.view.2 ∧ vi = .int .i64 i ∧ CkOk i S q ∧ Hid (Sto w wr (fun _ => False) s g S ⟨q, none, false⟩)) (fun _ _ _ vi _ => 30 - (intOf vi).toNat)
  case atStart => exact ⟨0, new 40, Sv.no, sA, Nat.zero_le _, rfl, rfl, rfl, rfl, ckOk_new, H2⟩
  case round =>
    clear H2
    obtain ⟨i, S, q, s, hi, rfl, rfl, rfl, rfl, hO, hI⟩ := hrel
    have z0 : (0 : Int) ≤ (i : Int) := by omega
    have HO := Lib.hid hO
    have hfew := hO.fine.few
    by_cases hgo : i < len ∧ i < 30
    · obtain ⟨hlen, h30⟩ := hgo
      have z1 : (i : Int) < (len : Int) := by omega
      have z2 : (i : Int) < 30 := by omega
      obtain ⟨b, off, o, rfl, hb, ho, hr⟩ := HC.out i hlen
      have HRO : Hid (wr.rangeAt b (off + i * 4) o.cells) := Lib.hid (rangeAt_block hr (hI.out.below.block b hb))
      have HOI := Lib.hid (ot_info o)
      have HPUT := Lib.hid (ot_put wr o)
      have HROOM := Lib.hid (ot_room wr)
      obtain ⟨vt, ht⟩ : ∃ vt, q.view.1 = vt := ⟨_, rfl⟩
      obtain ⟨vh, hh⟩ : ∃ vh, q.view.2 = vh := ⟨_, rfl⟩
      rw [ht, hh]
      have HT := Lib.hid ht
      have HH := Lib.hid hh
      have hqv : q.view.1 = vt ∧ q.view.2 = vh := ⟨ht, hh⟩
      clear hr hb ht hh hO
      go_wp2_with (first
        | (refine wpList_load_mid rfl 79 _ rfl b (off + i * 4) rfl o.cells _ HRO.out Tryd.underlying79 rfl HOI.out ?_)
        | (refine wpList_store_mid rfl 79 (.tmp 10) (.tmp 60) rfl wr.heap.size 0 o.cells.toArray rfl rfl HROOM.out (ot_infoA o) (ot_all o) ?_
           generalize World.setCells _ _ _ _ = W2 at HPUT ⊢
           have hop := HPUT.out.1
           have c0 := hop.c0
           have c1 := hop.c1
           have c2 := hop.c2
           have c3 := hop.c3
           have HX := Lib.hid (LaX.mk (hI.out.withOp HPUT.out.2 hop) hop)
           clear hop HPUT HROOM HRO hI HOI
           generalize wr.heap.size = b0 at c0 c1 c2 c3 HX ⊢))
      · -- too long
        refine (known7 _ (HHK.out.later HX.out.sto.below)).mono ?_
        rintro e w3 ⟨rfl, hb3⟩
        have HB3 := Lib.hid (chain2 HX.out.sto.below hb3)
        clear hb3 HX
        go_wp2
        go_ret
        exact ⟨rfl, HB3.out⟩
      · -- Cut
        have b40 := cnt_lt o.i 40 (by decide)
        obtain ⟨kk, hkk⟩ : ∃ kk : Nat, cnt o.i 40 = (kk : Int) := ⟨(cnt o.i 40).toNat, by omega⟩
        have CC : Hid (∀ W, Calls Tryd.prog 37 #[.int .i64 o.i, .int .i64 40] W fun e w' => e = .returned (.int .i64 (kk : Int)) ∧ W = w') := Lib.hid (fun W => by
          have := count_any o.i 40 W ho.i (by decide) (by decide)
          rwa [hkk] at this)
        have cd := Lib.hid (fun (W : World) (h : Sto w W (fun k => k = b0) s g S ⟨q, none, false⟩) => h.cut kk o.mask (by omega) ho.mask)
        clear c0 c1 c2 c3
        have hS0 : W2.drew.cell? ⟨b0, 2, none⟩ = some (.int .i64 o.i) ∧ W2.drew.cell? ⟨b0, 3, none⟩ = some (.int .u64 (o.mask : Int)) ∧ OT W2.drew b0 o := by
          have h := HX.out.op.of_block (W' := W2.drew) rfl (Nat.le_refl _)
          exact ⟨h.c2, h.c3, h⟩
        have hK2 : Hid (∀ W1 W2, Only (fun k => ¬(k = b0)) W1 W2 → (W1.cell? ⟨b0, 2, none⟩ = some (.int .i64 o.i) ∧ W1.cell? ⟨b0, 3, none⟩ = some (.int .u64 (o.mask : Int)) ∧ OT W1 b0 o) → (W2.cell? ⟨b0, 2, none⟩ = some (.int .i64 o.i) ∧ W2.cell? ⟨b0, 3, none⟩ = some (.int .u64 (o.mask : Int)) ∧ OT W2 b0 o)) := Lib.hid (fun W1 W2 hb h => by
          have h2 := h.2.2.only hb (fun e => e rfl)
          exact ⟨h2.c2, h2.c3, h2⟩)
        have hD0 : Sto w W2.drew (fun k => k = b0) s g S ⟨q, none, false⟩ := HX.out.sto.later ⟨rfl, rfl, rfl, Nat.le_refl _, fun _ _ => rfl⟩
        clear HX
        go_region_held3 (fun W => W.cell? ⟨b0, 2, none⟩ = some (.int .i64 o.i) ∧ W.cell? ⟨b0, 3, none⟩ = some (.int .u64 (o.mask : Int)) ∧ OT W b0 o) (first | assumption | exact hK2.out _ _ (by assumption) (by assumption)) (first
          | (go_at_call 37; (with_reducible refine (CC.out _).mono ?_); rintro e W4 ⟨rfl, rfl⟩)
          | (go_at_call 24; (with_reducible refine (cd.out _ (by assumption)).mono ?_); rintro e W4 ⟨rfl, hd, ho2⟩))
        have hz := ‹Sto w _ (fun k => k = b0) s g (S.plan kk o.mask) _›
        have HZ := Lib.hid (hz.less (D := fun _ => False) (fun _ e => e.elim))
        have HE : Hid (Value.string vt = .string q.view.1 ∧ Value.bool vh = .bool q.view.2) := Lib.hid (by rw [hqv.1, hqv.2]; exact ⟨rfl, rfl⟩)
        have HOP : Hid (CkOk (i + 1) (S.plan kk o.mask) q) := Lib.hid (HO.out.plan (by omega) ho.mask)
        clear hz hS0 hK2 hD0 cd hd ho2 CC hqv
        go_wp2
        go_roundw
        case rel => exact ⟨i + 1, S.plan kk o.mask, q, s, by omega, rfl, HE.out.1, HE.out.2, by go_num, HOP.out, HZ⟩
        case measure => simp [intOf]; omega
      · -- Prepare
        rename_i hsz _
        have hqs := says_size HO.out.fine HO.out.says
        obtain ⟨S1, hf1, hs1, hp⟩ := ck_prep HO.out hi (t := o.s) (by omega)
        have hprep := HX.out.sto.prep HHK.out o.s (by omega) (by omega) (by show q.text.size ≤ _; omega) (by omega)
        rcases hp with ⟨e1, hon1, hl1⟩ | e1
        · rw [e1] at hprep
          obtain ⟨r, hr⟩ : ∃ r, Sv.of q.other o.s = r := ⟨_, rfl⟩
          have hrt : r.text = o.s := by rw [← hr]; rfl
          rw [hr] at hprep hl1
          have hg1 := hf1.few
          refine hprep.mono ?_
          rintro e w3 ⟨rfl, hst3, ho3⟩
          have HXP := Lib.hid (HX.out.next hst3 ho3)
          have c0 := HXP.out.op.c0
          have c3 := HXP.out.op.c3
          clear hst3 ho3 HX hprep e1 hr c1 c2
          by_cases hk : o.kind = 2
          · have t1 : decide (o.kind = 2) = true := decide_eq_true hk
            have t2 : (o.kind == 2) = true := by simpa using hk
            have t3 : (o.kind != 2) = false := by simpa using hk
            obtain ⟨S2, fd, hf2, hs2, e2⟩ := ck_drop (r := r) hf1 hon1 hs1 (by omega)
            have hdrop := fun W (h : LaX w W b0 s g S1 ⟨q, some r, false⟩ o) => h.sto.drop HHK.out (by omega) (by omega) (by show q.text.size ≤ _; omega)
            rw [e2] at hdrop
            go_wp2_with fail
            refine (hdrop _ HXP.out).mono ?_
            rintro e w8 ⟨rfl, hst8, ho8⟩
            have HX3 := Lib.hid (HXP.out.next hst8 ho8)
            have c0 := HX3.out.op.c0
            have c3 := HX3.out.op.c3
            clear hst8 ho8 HXP hdrop e2
            obtain ⟨f3, o3, k3⟩ := fail_st hf2 o.mask
            have s3 := k3 _ hs2
            have hc2 := (hf2).few
            have CF := Lib.hid (fun W (h : LaX w W b0 s g S2 ⟨q, none, false⟩ o) => h.fail ho.mask (by omega))
            have CS := Lib.hid (fun W (h : LaX w W b0 s g (S2.fail o.mask) ⟨q, none, false⟩ o) => h.start)
            have hO3 : CkOk (i + 1) (S2.fail o.mask).start q := ⟨f3.more (by omega), o3, s3⟩
            have HO3 := Lib.hid hO3
            have CO := Lib.hid (fun W b1 (h : Solo w W (fun k => k = b1) g (S2.fail o.mask).start) => open_says h HHK.out hO3.fine hO3.on hO3.says (by omega))
            generalize S2.fail o.mask = S7 at *
            generalize S7.start = S8 at *
            have hq1 : (q).view.1 = vt ∧ (q).view.2 = vh := hqv
            have HEQ := Lib.hid (show Value.string vt = .string (q).view.1 ∧ Value.bool vh = .bool (q).view.2 by rw [hq1.1, hq1.2]; exact ⟨rfl, rfl⟩)
            have CT : Hid (∀ W n, Sto w W (fun k => k = b0) n g S8 ⟨q, none, false⟩ → Calls Tryd.prog 42 #[.pointer (some ⟨n, 0, none⟩)] W fun e w' => e = .returned (.tuple #[.string vt, .bool vh]) ∧ W = w') := Lib.hid (fun W n h => by have := h.text; rwa [hq1.1, hq1.2] at this)
            have COD : Hid (∀ W n, Sto w W (fun k => k = b0) n g S8 ⟨q, none, false⟩ → Calls Tryd.prog 41 #[.pointer (some ⟨n, 0, none⟩)] W fun e w' => e = .returned (.bool false) ∧ W = w') := Lib.hid (fun W n h => h.odd)
            clear f3 o3 k3 s3 hc2 hq1 hO3
            go_wp2_with (first
              | (go_at_call 26; (with_reducible refine (CF.out _ HX3.out).mono ?_); rintro e w4 ⟨rfl, hx4⟩; have HX4 := Lib.hid hx4; have c1 := hx4.op.c1; clear hx4 HX3 CF)
              | (go_at_call 28; (with_reducible refine (CS.out _ HX4.out).mono ?_); rintro e w5 ⟨rfl, hx5⟩; have HX5 := Lib.hid hx5; have c1 := hx5.op.c1; clear hx5 HX4 CS)
              | (go_at_call 35; (with_reducible refine (CO.out w5 _ HX5.out.sto.solo).mono ?_); rintro e w6 ⟨n, rfl, h6, hb6, -⟩; have HN6 := Lib.hid h6; have c1 := (HX5.out.op.later hb6).c1; have HP6 := Lib.hid (HX5.out.op.later hb6); clear h6 hb6 HX5)
              | (go_at_call 35; (with_reducible refine (CO.out w6 _ HN6.out.solo).mono ?_); rintro e w7 ⟨m, rfl, h7, hb7, -⟩; have HM7 := Lib.hid h7; have HN7 := Lib.hid (HN6.out.later hb7); have c1 := (HP6.out.later hb7).c1; clear h7 hb7 HN6 HP6 CO)
              | (go_at_call 41; (with_reducible refine (COD.out w7 _ HN7.out).mono ?_); rintro e w' ⟨rfl, rfl⟩)
              | (go_at_call 42; (with_reducible refine (CT.out w7 n HN7.out).mono ?_); rintro e w' ⟨rfl, rfl⟩)
              | (go_at_call 42; (with_reducible refine (CT.out w7 m HM7.out).mono ?_); rintro e w' ⟨rfl, rfl⟩))
            all_goals
              go_roundw
              case rel => exact ⟨i + 1, S8, q, n, by omega, rfl, HEQ.out.1, HEQ.out.2, by go_num, HO3.out, Lib.hid (HN7.out.less (fun _ e => e.elim))⟩
              case measure => simp [intOf]; omega
          · have t1 : decide (o.kind = 2) = false := decide_eq_false hk
            have t2 : (o.kind == 2) = false := by simpa using hk
            have t3 : (o.kind != 2) = true := by simpa using hk
            have hrv : r.view.1 = o.s ∧ r.view.2 = true := by
              have := view_lies hl1
              rw [hrt] at this
              exact ⟨congrArg Prod.fst this, congrArg Prod.snd this⟩
            have hrz : r.text.size ≤ 2000 := by rw [hrt]; omega
            obtain ⟨S2, hf2, hc⟩ := ck_comm hf1 hon1 hs1 hl1 (by omega)
            have hcomm := fun W (h : LaX w W b0 s g S1 ⟨q, some r, false⟩ o) => h.sto.comm HHK.out (by omega) (by omega) (fun r' hr' => by cases hr'; omega)
            go_wp2_with fail
            rcases hc with ⟨e2, hs2⟩ | ⟨e2, hs2 | hs2⟩
            all_goals
              rw [e2] at hcomm
              refine (hcomm _ HXP.out).mono ?_
              rintro e w8 ⟨rfl, hst8, ho8⟩
              have HX3 := Lib.hid (HXP.out.next hst8 ho8)
              have c0 := HX3.out.op.c0
              have c3 := HX3.out.op.c3
              clear hst8 ho8 HXP hcomm e2
            · -- committed
              obtain ⟨f3, o3, k3⟩ := fail_st hf2 o.mask
              have s3 := k3 _ hs2
              have hc2 := (hf2).few
              have CF := Lib.hid (fun W (h : LaX w W b0 s g S2 ⟨r, none, false⟩ o) => h.fail ho.mask (by omega))
              have CS := Lib.hid (fun W (h : LaX w W b0 s g (S2.fail o.mask) ⟨r, none, false⟩ o) => h.start)
              have hO3 : CkOk (i + 1) (S2.fail o.mask).start r := ⟨f3.more (by omega), o3, s3⟩
              have HO3 := Lib.hid hO3
              have CO := Lib.hid (fun W b1 (h : Solo w W (fun k => k = b1) g (S2.fail o.mask).start) => open_says h HHK.out hO3.fine hO3.on hO3.says (by omega))
              generalize S2.fail o.mask = S7 at *
              generalize S7.start = S8 at *
              have hq1 : (r).view.1 = o.s ∧ (r).view.2 = true := hrv
              have HEQ := Lib.hid (show Value.string o.s = .string (r).view.1 ∧ Value.bool true = .bool (r).view.2 by rw [hq1.1, hq1.2]; exact ⟨rfl, rfl⟩)
              have CT : Hid (∀ W n, Sto w W (fun k => k = b0) n g S8 ⟨r, none, false⟩ → Calls Tryd.prog 42 #[.pointer (some ⟨n, 0, none⟩)] W fun e w' => e = .returned (.tuple #[.string o.s, .bool true]) ∧ W = w') := Lib.hid (fun W n h => by have := h.text; rwa [hq1.1, hq1.2] at this)
              have COD : Hid (∀ W n, Sto w W (fun k => k = b0) n g S8 ⟨r, none, false⟩ → Calls Tryd.prog 41 #[.pointer (some ⟨n, 0, none⟩)] W fun e w' => e = .returned (.bool false) ∧ W = w') := Lib.hid (fun W n h => h.odd)
              clear f3 o3 k3 s3 hc2 hq1 hO3
              go_wp2_with (first
                | (go_at_call 26; (with_reducible refine (CF.out _ HX3.out).mono ?_); rintro e w4 ⟨rfl, hx4⟩; have HX4 := Lib.hid hx4; have c1 := hx4.op.c1; clear hx4 HX3 CF)
                | (go_at_call 28; (with_reducible refine (CS.out _ HX4.out).mono ?_); rintro e w5 ⟨rfl, hx5⟩; have HX5 := Lib.hid hx5; have c1 := hx5.op.c1; clear hx5 HX4 CS)
                | (go_at_call 35; (with_reducible refine (CO.out w5 _ HX5.out.sto.solo).mono ?_); rintro e w6 ⟨n, rfl, h6, hb6, -⟩; have HN6 := Lib.hid h6; have c1 := (HX5.out.op.later hb6).c1; have HP6 := Lib.hid (HX5.out.op.later hb6); clear h6 hb6 HX5)
                | (go_at_call 35; (with_reducible refine (CO.out w6 _ HN6.out.solo).mono ?_); rintro e w7 ⟨m, rfl, h7, hb7, -⟩; have HM7 := Lib.hid h7; have HN7 := Lib.hid (HN6.out.later hb7); have c1 := (HP6.out.later hb7).c1; clear h7 hb7 HN6 HP6 CO)
                | (go_at_call 41; (with_reducible refine (COD.out w7 _ HN7.out).mono ?_); rintro e w' ⟨rfl, rfl⟩)
                | (go_at_call 42; (with_reducible refine (CT.out w7 n HN7.out).mono ?_); rintro e w' ⟨rfl, rfl⟩)
                | (go_at_call 42; (with_reducible refine (CT.out w7 m HM7.out).mono ?_); rintro e w' ⟨rfl, rfl⟩))
              all_goals
                go_roundw
                case rel => exact ⟨i + 1, S8, r, n, by omega, rfl, HEQ.out.1, HEQ.out.2, by go_num, HO3.out, Lib.hid (HN7.out.less (fun _ e => e.elim))⟩
                case measure => simp [intOf]; omega
            · -- failed, and is not committed
              obtain ⟨f3, o3, k3⟩ := fail_st hf2 o.mask
              have s3 := k3 _ hs2
              have hc2 := (hf2).few
              have CF := Lib.hid (fun W (h : LaX w W b0 s g S2 ⟨q, none, false⟩ o) => h.fail ho.mask (by omega))
              have CS := Lib.hid (fun W (h : LaX w W b0 s g (S2.fail o.mask) ⟨q, none, false⟩ o) => h.start)
              have hO3 : CkOk (i + 1) (S2.fail o.mask).start q := ⟨f3.more (by omega), o3, s3⟩
              have HO3 := Lib.hid hO3
              have CO := Lib.hid (fun W b1 (h : Solo w W (fun k => k = b1) g (S2.fail o.mask).start) => open_says h HHK.out hO3.fine hO3.on hO3.says (by omega))
              generalize S2.fail o.mask = S7 at *
              generalize S7.start = S8 at *
              have hq1 : (q).view.1 = vt ∧ (q).view.2 = vh := hqv
              have HEQ := Lib.hid (show Value.string vt = .string (q).view.1 ∧ Value.bool vh = .bool (q).view.2 by rw [hq1.1, hq1.2]; exact ⟨rfl, rfl⟩)
              have CT : Hid (∀ W n, Sto w W (fun k => k = b0) n g S8 ⟨q, none, false⟩ → Calls Tryd.prog 42 #[.pointer (some ⟨n, 0, none⟩)] W fun e w' => e = .returned (.tuple #[.string vt, .bool vh]) ∧ W = w') := Lib.hid (fun W n h => by have := h.text; rwa [hq1.1, hq1.2] at this)
              have COD : Hid (∀ W n, Sto w W (fun k => k = b0) n g S8 ⟨q, none, false⟩ → Calls Tryd.prog 41 #[.pointer (some ⟨n, 0, none⟩)] W fun e w' => e = .returned (.bool false) ∧ W = w') := Lib.hid (fun W n h => h.odd)
              clear f3 o3 k3 s3 hc2 hq1 hO3
              go_wp2_with (first
                | (go_at_call 26; (with_reducible refine (CF.out _ HX3.out).mono ?_); rintro e w4 ⟨rfl, hx4⟩; have HX4 := Lib.hid hx4; have c1 := hx4.op.c1; clear hx4 HX3 CF)
                | (go_at_call 28; (with_reducible refine (CS.out _ HX4.out).mono ?_); rintro e w5 ⟨rfl, hx5⟩; have HX5 := Lib.hid hx5; have c1 := hx5.op.c1; clear hx5 HX4 CS)
                | (go_at_call 35; (with_reducible refine (CO.out w5 _ HX5.out.sto.solo).mono ?_); rintro e w6 ⟨n, rfl, h6, hb6, -⟩; have HN6 := Lib.hid h6; have c1 := (HX5.out.op.later hb6).c1; have HP6 := Lib.hid (HX5.out.op.later hb6); clear h6 hb6 HX5)
                | (go_at_call 35; (with_reducible refine (CO.out w6 _ HN6.out.solo).mono ?_); rintro e w7 ⟨m, rfl, h7, hb7, -⟩; have HM7 := Lib.hid h7; have HN7 := Lib.hid (HN6.out.later hb7); have c1 := (HP6.out.later hb7).c1; clear h7 hb7 HN6 HP6 CO)
                | (go_at_call 41; (with_reducible refine (COD.out w7 _ HN7.out).mono ?_); rintro e w' ⟨rfl, rfl⟩)
                | (go_at_call 42; (with_reducible refine (CT.out w7 n HN7.out).mono ?_); rintro e w' ⟨rfl, rfl⟩)
                | (go_at_call 42; (with_reducible refine (CT.out w7 m HM7.out).mono ?_); rintro e w' ⟨rfl, rfl⟩))
              all_goals
                go_roundw
                case rel => exact ⟨i + 1, S8, q, n, by omega, rfl, HEQ.out.1, HEQ.out.2, by go_num, HO3.out, Lib.hid (HN7.out.less (fun _ e => e.elim))⟩
                case measure => simp [intOf]; omega
            · -- failed, and is committed
              obtain ⟨f3, o3, k3⟩ := fail_st hf2 o.mask
              have s3 := k3 _ hs2
              have hc2 := (hf2).few
              have CF := Lib.hid (fun W (h : LaX w W b0 s g S2 ⟨q, none, false⟩ o) => h.fail ho.mask (by omega))
              have CS := Lib.hid (fun W (h : LaX w W b0 s g (S2.fail o.mask) ⟨q, none, false⟩ o) => h.start)
              have hO3 : CkOk (i + 1) (S2.fail o.mask).start r := ⟨f3.more (by omega), o3, s3⟩
              have HO3 := Lib.hid hO3
              have CO := Lib.hid (fun W b1 (h : Solo w W (fun k => k = b1) g (S2.fail o.mask).start) => open_says h HHK.out hO3.fine hO3.on hO3.says (by omega))
              generalize S2.fail o.mask = S7 at *
              generalize S7.start = S8 at *
              have hq1 : (r).view.1 = o.s ∧ (r).view.2 = true := hrv
              have HEQ := Lib.hid (show Value.string o.s = .string (r).view.1 ∧ Value.bool true = .bool (r).view.2 by rw [hq1.1, hq1.2]; exact ⟨rfl, rfl⟩)
              have CT : Hid (∀ W n, Sto w W (fun k => k = b0) n g S8 ⟨r, none, false⟩ → Calls Tryd.prog 42 #[.pointer (some ⟨n, 0, none⟩)] W fun e w' => e = .returned (.tuple #[.string o.s, .bool true]) ∧ W = w') := Lib.hid (fun W n h => by have := h.text; rwa [hq1.1, hq1.2] at this)
              have COD : Hid (∀ W n, Sto w W (fun k => k = b0) n g S8 ⟨r, none, false⟩ → Calls Tryd.prog 41 #[.pointer (some ⟨n, 0, none⟩)] W fun e w' => e = .returned (.bool false) ∧ W = w') := Lib.hid (fun W n h => h.odd)
              clear f3 o3 k3 s3 hc2 hq1 hO3
              go_wp2_with (first
                | (go_at_call 26; (with_reducible refine (CF.out _ HX3.out).mono ?_); rintro e w4 ⟨rfl, hx4⟩; have HX4 := Lib.hid hx4; have c1 := hx4.op.c1; clear hx4 HX3 CF)
                | (go_at_call 28; (with_reducible refine (CS.out _ HX4.out).mono ?_); rintro e w5 ⟨rfl, hx5⟩; have HX5 := Lib.hid hx5; have c1 := hx5.op.c1; clear hx5 HX4 CS)
                | (go_at_call 35; (with_reducible refine (CO.out w5 _ HX5.out.sto.solo).mono ?_); rintro e w6 ⟨n, rfl, h6, hb6, -⟩; have HN6 := Lib.hid h6; have c1 := (HX5.out.op.later hb6).c1; have HP6 := Lib.hid (HX5.out.op.later hb6); clear h6 hb6 HX5)
                | (go_at_call 35; (with_reducible refine (CO.out w6 _ HN6.out.solo).mono ?_); rintro e w7 ⟨m, rfl, h7, hb7, -⟩; have HM7 := Lib.hid h7; have HN7 := Lib.hid (HN6.out.later hb7); have c1 := (HP6.out.later hb7).c1; clear h7 hb7 HN6 HP6 CO)
                | (go_at_call 41; (with_reducible refine (COD.out w7 _ HN7.out).mono ?_); rintro e w' ⟨rfl, rfl⟩)
                | (go_at_call 42; (with_reducible refine (CT.out w7 n HN7.out).mono ?_); rintro e w' ⟨rfl, rfl⟩)
                | (go_at_call 42; (with_reducible refine (CT.out w7 m HM7.out).mono ?_); rintro e w' ⟨rfl, rfl⟩))
              all_goals
                go_roundw
                case rel => exact ⟨i + 1, S8, r, n, by omega, rfl, HEQ.out.1, HEQ.out.2, by go_num, HO3.out, Lib.hid (HN7.out.less (fun _ e => e.elim))⟩
                case measure => simp [intOf]; omega
        · rw [e1] at hprep
          refine hprep.mono ?_
          rintro e w3 ⟨rfl, hst3, ho3⟩
          have HX3 := Lib.hid (HX.out.next hst3 ho3)
          have c0 := HX3.out.op.c0
          have c3 := HX3.out.op.c3
          clear hst3 ho3 HX hprep e1 c1 c2
          obtain ⟨f3, o3, k3⟩ := fail_st hf1 o.mask
          have s3 := k3 _ hs1
          have hc2 := (hf1).few
          have CF := Lib.hid (fun W (h : LaX w W b0 s g S1 ⟨q, none, false⟩ o) => h.fail ho.mask (by omega))
          have CS := Lib.hid (fun W (h : LaX w W b0 s g (S1.fail o.mask) ⟨q, none, false⟩ o) => h.start)
          have hO3 : CkOk (i + 1) (S1.fail o.mask).start q := ⟨f3.more (by omega), o3, s3⟩
          have HO3 := Lib.hid hO3
          have CO := Lib.hid (fun W b1 (h : Solo w W (fun k => k = b1) g (S1.fail o.mask).start) => open_says h HHK.out hO3.fine hO3.on hO3.says (by omega))
          generalize S1.fail o.mask = S7 at *
          generalize S7.start = S8 at *
          have hq1 : (q).view.1 = vt ∧ (q).view.2 = vh := hqv
          have HEQ := Lib.hid (show Value.string vt = .string (q).view.1 ∧ Value.bool vh = .bool (q).view.2 by rw [hq1.1, hq1.2]; exact ⟨rfl, rfl⟩)
          have CT : Hid (∀ W n, Sto w W (fun k => k = b0) n g S8 ⟨q, none, false⟩ → Calls Tryd.prog 42 #[.pointer (some ⟨n, 0, none⟩)] W fun e w' => e = .returned (.tuple #[.string vt, .bool vh]) ∧ W = w') := Lib.hid (fun W n h => by have := h.text; rwa [hq1.1, hq1.2] at this)
          have COD : Hid (∀ W n, Sto w W (fun k => k = b0) n g S8 ⟨q, none, false⟩ → Calls Tryd.prog 41 #[.pointer (some ⟨n, 0, none⟩)] W fun e w' => e = .returned (.bool false) ∧ W = w') := Lib.hid (fun W n h => h.odd)
          clear f3 o3 k3 s3 hc2 hq1 hO3
          go_wp2_with (first
            | (go_at_call 26; (with_reducible refine (CF.out _ HX3.out).mono ?_); rintro e w4 ⟨rfl, hx4⟩; have HX4 := Lib.hid hx4; have c1 := hx4.op.c1; clear hx4 HX3 CF)
            | (go_at_call 28; (with_reducible refine (CS.out _ HX4.out).mono ?_); rintro e w5 ⟨rfl, hx5⟩; have HX5 := Lib.hid hx5; have c1 := hx5.op.c1; clear hx5 HX4 CS)
            | (go_at_call 35; (with_reducible refine (CO.out w5 _ HX5.out.sto.solo).mono ?_); rintro e w6 ⟨n, rfl, h6, hb6, -⟩; have HN6 := Lib.hid h6; have c1 := (HX5.out.op.later hb6).c1; have HP6 := Lib.hid (HX5.out.op.later hb6); clear h6 hb6 HX5)
            | (go_at_call 35; (with_reducible refine (CO.out w6 _ HN6.out.solo).mono ?_); rintro e w7 ⟨m, rfl, h7, hb7, -⟩; have HM7 := Lib.hid h7; have HN7 := Lib.hid (HN6.out.later hb7); have c1 := (HP6.out.later hb7).c1; clear h7 hb7 HN6 HP6 CO)
            | (go_at_call 41; (with_reducible refine (COD.out w7 _ HN7.out).mono ?_); rintro e w' ⟨rfl, rfl⟩)
            | (go_at_call 42; (with_reducible refine (CT.out w7 n HN7.out).mono ?_); rintro e w' ⟨rfl, rfl⟩)
            | (go_at_call 42; (with_reducible refine (CT.out w7 m HM7.out).mono ?_); rintro e w' ⟨rfl, rfl⟩))
          all_goals
            go_roundw
            case rel => exact ⟨i + 1, S8, q, n, by omega, rfl, HEQ.out.1, HEQ.out.2, by go_num, HO3.out, Lib.hid (HN7.out.less (fun _ e => e.elim))⟩
            case measure => simp [intOf]; omega
    · by_cases hlen : i < len
      · obtain rfl : i = 30 := by omega
        rw [show ((30 : Nat) : Int) = 30 from rfl]
        have z1 : (30 : Int) < (len : Int) := by omega
        have HB := Lib.hid hI.out.below
        clear hI
        generalize q.view.1 = vt at *
        generalize q.view.2 = vh at *
        go_wp2_with (first
          | (go_at_call 36; refine (known7 _ (HHK.out.later HB.out)).mono ?_; rintro e w4 ⟨rfl, hb4⟩; have HB4 := Lib.hid (chain2 HB.out hb4); clear hb4 HB))
        go_ret
        exact ⟨rfl, HB4.out⟩
      · have t0 : decide ((i : Int) < (len : Int)) = false := decide_eq_false (by omega)
        have t1 : decide (i < len) = false := decide_eq_false hlen
        have HB := Lib.hid hI.out.below
        clear hI
        generalize q.view.1 = vt at *
        generalize q.view.2 = vh at *
        go_wp2_with (first
          | (go_at_call 36; refine (known7 _ (HHK.out.later HB.out)).mono ?_; rintro e w4 ⟨rfl, hb4⟩; have HB4 := Lib.hid (chain2 HB.out hb4); clear hb4 HB))
        go_ret
        exact ⟨rfl, HB4.out⟩

end Go.Proofs.YtkplmaaeggnbgaaDoor.St
