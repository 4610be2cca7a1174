/- The walk of StoreLast: it returns true. No condition but those that each states. -/
import Derived.Test.YtkplmaaeggnbgaaDoorStO
namespace Go.Proofs.YtkplmaaeggnbgaaDoor.St
open Go.RowKit Dk Rg Sl

/-- At a round's beginning: nothing failed, and what waits lies in its slot. -/
structure LaOk (i : Nat) (S : DS) (X : StS) (nx : ByteArray) : Prop where
  fine : Fine 40 (300 * i) S
  on : S.on = true
  calm : S.next = none
  says : Says S X.sv
  pend : ∀ r, X.pend = some r → Lies S r ∧ r.text = nx

theorem view_lies {S : DS} {r : Sv} (h : Lies S r) : r.view = (r.text, true) := if_neg (by rcases lies_slot h with e | e <;> omega)

section
variable {i n : Nat} {S : DS} {X : StS} {nx : ByteArray}
theorem LaOk.each (h : LaOk i S X nx) : each S = 16 := by unfold Sl.each; rw [h.fine.len]; decide
theorem LaOk.few (h : LaOk i S X nx) (hi : i ≤ 40) : S.c ≤ 12000 ∧ S.ops ≤ 12000 := by have := h.fine.few; omega
theorem LaOk.size (h : LaOk i S X nx) : X.sv.text.size ≤ 2000 := by
  rcases says_view h.says with ⟨_, e⟩ | ⟨_, e⟩
  · rw [e]; decide
  · have := e.fit; rw [h.each] at this; omega
theorem LaOk.sizeP (h : LaOk i S X nx) : ∀ r, X.pend = some r → r.text.size ≤ 2000 := fun r hr => by
  have := (h.pend r hr).1.fit; rw [h.each] at this; omega
theorem LaOk.up (h : LaOk i S X nx) : LaOk (i + 1) S X nx := ⟨h.fine.more (by omega), h.on, h.calm, h.says, h.pend⟩

theorem LaOk.prep (h : LaOk i S X nx) (hi : i ≤ 40) {t : ByteArray} (ht : t.size ≤ 1000) :
    ∃ S', St.prep S X t = (S', { X with pend := some (Sv.of X.sv.other t) }, 0) ∧ LaOk (i + 1) S' { X with pend := some (Sv.of X.sv.other t) } t := by
  have hf : t.size ≤ 64 * Sl.each S := by rw [h.each]; omega
  obtain ⟨a1, a2, a3⟩ := prep_st (X := X) h.fine h.on h.says hf (by omega)
  obtain ⟨c1, c2⟩ := prep_calm (X := X) h.fine h.on h.calm h.says hf (by omega)
  rcases a3 with ⟨e1, e2, e3⟩ | ⟨e1, e2⟩
  · exact ⟨_, Prod.ext rfl e1, a1.more (by omega), e2, c2, a2, fun r hr => by cases hr; exact ⟨e3, rfl⟩⟩
  · rw [e1] at c1; cases c1

theorem LaOk.comm (h : LaOk i S X nx) (hi : i ≤ 40) {r : Sv} (hr : X.pend = some r) :
    ∃ S', St.comm S X = (S', ⟨r, none, false⟩, 0) ∧ LaOk (i + 1) S' ⟨r, none, false⟩ nx := by
  obtain ⟨a1, a2⟩ := comm_st (X := X) h.fine h.on h.says hr (h.pend r hr).1 (by omega)
  obtain ⟨c1, c2⟩ := comm_calm (X := X) h.fine h.on h.calm h.says hr (h.pend r hr).1 (by omega)
  rcases a2 with ⟨e1, e2, e3⟩ | ⟨e1, e2⟩
  · exact ⟨_, Prod.ext rfl e1, a1.more (by omega), e2, c2, e3, fun r hr => by cases hr⟩
  · rw [e1] at c1; cases c1

theorem LaOk.drop (h : LaOk i S X nx) (hi : i ≤ 40) {r : Sv} (hr : X.pend = some r) :
    ∃ S', St.drop S X = (S', X.give, 0) ∧ LaOk (i + 1) S' X.give nx := by
  obtain ⟨b1, b2, _, b4⟩ := app_same (k := 3) h.fine h.on h.says (by decide) (by omega)
  obtain ⟨c1, c2⟩ := drop_calm (X := X) h.fine h.on h.calm h.says hr (by omega)
  have e : St.drop S X = ((DS.app S (X.sv.ent 3)).1, X.give, (DS.app S (X.sv.ent 3)).2.2) := by unfold St.drop; rw [hr]
  rw [e] at c1 c2 ⊢
  rcases b4 with ⟨e1, e2⟩ | ⟨e1, e2⟩
  · exact ⟨_, by rw [e1], b1.more (by omega), e2, c2, b2, fun r hr => by cases hr⟩
  · dsimp only at c1; rw [e1] at c1; cases c1
end

theorem laOk_new : LaOk 0 (new 40) ⟨Sv.no, none, false⟩ ⟨#[]⟩ := by
  obtain ⟨f0, s0⟩ := fine_new (n := 40) (by decide) (by decide)
  exact ⟨f0, rfl, rfl, s0, fun r hr => by cases hr⟩

/-- A round of StoreLast, within: the operation lies in block b0. -/
structure LaX (w W : World) (b0 s g : Nat) (S : DS) (X : StS) (o : OpT) : Prop where
  sto : Sto w W (fun k => k = b0) s g S X
  op : OT W b0 o
theorem LaX.next {w W W' : World} {b0 s g : Nat} {S S' : DS} {X X' : StS} {o : OpT} (h : LaX w W b0 s g S X o) (h2 : Sto w W' (fun k => k = b0) s g S' X') (k : Only (fun k => ¬(k = b0)) W W') : LaX w W' b0 s g S' X' o := ⟨h2, h.op.only k (fun e => e rfl)⟩
theorem LaX.less {w W : World} {b0 s g : Nat} {S : DS} {X : StS} {o : OpT} (h : LaX w W b0 s g S X o) : Sto w W (fun _ => False) s g S X := h.sto.less (fun _ e => e.elim)

section
variable {w : World} {b0 s g i : Nat} {S : DS} {X : StS} {nx : ByteArray} {o : OpT}
theorem la_prep (HK : HasK w) (hO : LaOk i S X nx) (hi : i ≤ 40) (ht : o.s.size ≤ 1000) :
    ∃ S', LaOk (i + 1) S' { X with pend := some (Sv.of X.sv.other o.s) } o.s ∧ ∀ W, LaX w W b0 s g S X o →
      Calls Tryd.prog 38 #[.pointer (some ⟨s, 0, none⟩), .string o.s] W fun e w' => e = .returned (.int .i64 0) ∧ LaX w w' b0 s g S' { X with pend := some (Sv.of X.sv.other o.s) } o := by
  obtain ⟨S', e, h'⟩ := hO.prep hi ht
  have hf := hO.few hi
  have hz := hO.size
  refine ⟨S', h', fun W h => ?_⟩
  have := h.sto.prep HK o.s (by omega) (by omega) (by omega) (by omega)
  rw [e] at this
  exact this.mono fun _ _ ⟨a, b, c⟩ => ⟨a, h.next b c⟩
theorem la_comm (HK : HasK w) (hO : LaOk i S X nx) (hi : i ≤ 40) {r : Sv} (hr : X.pend = some r) :
    ∃ S', LaOk (i + 1) S' ⟨r, none, false⟩ nx ∧ ∀ W, LaX w W b0 s g S X o →
      Calls Tryd.prog 40 #[.pointer (some ⟨s, 0, none⟩)] W fun e w' => e = .returned (.int .i64 0) ∧ LaX w w' b0 s g S' ⟨r, none, false⟩ o := by
  obtain ⟨S', e, h'⟩ := hO.comm hi hr
  have hf := hO.few hi
  refine ⟨S', h', fun W h => ?_⟩
  have := h.sto.comm HK (by omega) (by omega) (fun r hr => by have := hO.sizeP r hr; omega)
  rw [e] at this
  exact this.mono fun _ _ ⟨a, b, c⟩ => ⟨a, h.next b c⟩
theorem la_drop (HK : HasK w) (hO : LaOk i S X nx) (hi : i ≤ 40) {r : Sv} (hr : X.pend = some r) :
    ∃ S', LaOk (i + 1) S' X.give nx ∧ ∀ W, LaX w W b0 s g S X o →
      Calls Tryd.prog 39 #[.pointer (some ⟨s, 0, none⟩)] W fun e w' => e = .returned (.int .i64 0) ∧ LaX w w' b0 s g S' X.give o := by
  obtain ⟨S', e, h'⟩ := hO.drop hi hr
  have hf := hO.few hi
  have hz := hO.size
  refine ⟨S', h', fun W h => ?_⟩
  have := h.sto.drop HK (by omega) (by omega) (by omega)
  rw [e] at this
  exact this.mono fun _ _ ⟨a, b, c⟩ => ⟨a, h.next b c⟩
theorem la_comm_none (HK : HasK w) (hO : LaOk i S X nx) (hi : i ≤ 40) (hr : X.pend = none) (W : World) (h : LaX w W b0 s g S X o) :
    Calls Tryd.prog 40 #[.pointer (some ⟨s, 0, none⟩)] W fun e w' => e = .returned (.int .i64 8) ∧ LaX w w' b0 s g S X o := by
  have hf := hO.few hi
  have := h.sto.comm HK (by omega) (by omega) (fun r hr => by have := hO.sizeP r hr; omega)
  have e : St.comm S X = (S, X, 8) := by unfold St.comm; rw [hr]
  rw [e] at this
  exact this.mono fun _ _ ⟨a, b, c⟩ => ⟨a, h.next b c⟩
theorem la_drop_none (HK : HasK w) (hO : LaOk i S X nx) (hi : i ≤ 40) (hr : X.pend = none) (W : World) (h : LaX w W b0 s g S X o) :
    Calls Tryd.prog 39 #[.pointer (some ⟨s, 0, none⟩)] W fun e w' => e = .returned (.int .i64 8) ∧ LaX w w' b0 s g S X o := by
  have hf := hO.few hi
  have hz := hO.size
  have := h.sto.drop HK (by omega) (by omega) (by omega)
  have e : St.drop S X = (S, X, 8) := by unfold St.drop; rw [hr]
  rw [e] at this
  exact this.mono fun _ _ ⟨a, b, c⟩ => ⟨a, h.next b c⟩
end

-- THE WALK
set_option maxHeartbeats 8000000 in
set_option maxRecDepth 100000 in
theorem last_law (pa : Option Addr) (len cap : Nat) (hl : len ≤ maxLen) (w : World) (HK : HasK w) (hc : ∀ j, j < len → ∃ (b off : Nat) (o : OpT), pa = some ⟨b, off, none⟩ ∧ b < w.heap.size ∧ o.Ok ∧ w.rangeAt b (off + j * 4) o.cells) :
    Calls Tryd.prog 8 #[.slice pa len cap] w fun e w' => e = .returned (.bool true) ∧ Below w.heap.size w w' := by
  unfold maxLen at hl
  have HC := Lib.hid hc
  have HHK := Lib.hid HK
  clear hc HK
  obtain ⟨f0, s0⟩ := fine_new (n := 40) (by decide) (by decide)
  obtain ⟨g, hg⟩ : ∃ g, w.heap.size + 2 = g := ⟨_, rfl⟩
  have CN : Hid (Calls Tryd.prog 14 #[.int .i64 40] w fun e w' => e = .returned (.tuple #[.pointer (some ⟨g, 0, none⟩), .int .i64 0]) ∧ Solo w w' (fun _ => False) g (new 40)) := Lib.hid (by
    rw [← hg]
    exact (new_dk 40 (by decide) (by decide) w).mono fun _ _ ⟨a, b⟩ => ⟨a, solo_new b⟩)
  have CO1 := Lib.hid (fun W (h : Solo w W (fun _ => False) g (new 40)) => open_says h HHK.out f0 rfl s0 (by decide))
  clear f0 s0 hg
  go_enter Tryd.func8, Tryd.ntmps8
  go_wp2_with fail
  refine CN.out.mono ?_
  rintro e w1 ⟨rfl, h1⟩
  have H1 := Lib.hid h1
  clear h1 CN
  go_wp2_with fail
  refine (CO1.out w1 H1.out).mono ?_
  rintro e w2 ⟨s, rfl, h2, -, -⟩
  have H2 := Lib.hid h2
  clear h2 H1 CO1
  go_wp2
  go_loopw [7, 8, 9, 10, 11] (fun vt vh vn vw vi wr => ∃ (i : Nat) (S : DS) (X : StS) (nx : ByteArray), i ≤ 40 ∧ vt = .string X.sv.view.1 ∧ vh = .bool X.sv.view.2 ∧ vn = .string nx ∧ vw = .bool X.pend.isSome ∧ vi = .int .i64 i ∧ LaOk i S X nx ∧ Hid (Sto w wr (fun _ => False) s g S X)) (fun _ _ _ _ vi _ => 40 - (intOf vi).toNat)
  case atStart => exact ⟨0, new 40, ⟨Sv.no, none, false⟩, ⟨#[]⟩, Nat.zero_le _, rfl, rfl, rfl, rfl, rfl, laOk_new, H2⟩
  case round =>
    clear H2
    obtain ⟨i, S, X, nx, hi, rfl, rfl, rfl, rfl, rfl, hO, hI⟩ := hrel
    have z0 : (0 : Int) ≤ (i : Int) := by omega
    have HO := Lib.hid hO
    have hfew := hO.few hi
    by_cases hgo : i < len ∧ i < 40
    · obtain ⟨hlen, h40⟩ := hgo
      have z1 : (i : Int) < (len : Int) := by omega
      have z2 : (i : Int) < 40 := by omega
      obtain ⟨b, off, o, rfl, hb, ho, hr⟩ := HC.out i hlen
      have HRO : Hid (wr.rangeAt b (off + i * 4) o.cells) := Lib.hid (rangeAt_block hr (hI.out.below.block b hb))
      have HOI := Lib.hid (ot_info o)
      have HPUT := Lib.hid (ot_put wr o)
      have HROOM := Lib.hid (ot_room wr)
      obtain ⟨vt, ht⟩ : ∃ vt, X.sv.view.1 = vt := ⟨_, rfl⟩
      obtain ⟨vh, hh⟩ : ∃ vh, X.sv.view.2 = vh := ⟨_, rfl⟩
      obtain ⟨vw, hw⟩ : ∃ vw, X.pend.isSome = vw := ⟨_, rfl⟩
      rw [ht, hh, hw]
      have HT := Lib.hid ht
      have HH := Lib.hid hh
      have HW := Lib.hid hw
      clear hr hb ht hh hw hO
      go_wp2_with (first
        | (refine wpList_load_mid rfl 79 _ rfl b (off + i * 4) rfl o.cells _ HRO.out Tryd.underlying79 rfl HOI.out ?_)
        | (refine wpList_store_mid rfl 79 (.tmp 12) (.tmp 55) rfl wr.heap.size 0 o.cells.toArray rfl rfl HROOM.out (ot_infoA o) (ot_all o) ?_
           generalize World.setCells _ _ _ _ = W2 at HPUT ⊢
           have hop := HPUT.out.1
           have c1 := hop.c1
           have c0 := hop.c0
           have HX := Lib.hid (LaX.mk (hI.out.withOp HPUT.out.2 hop) hop)
           clear hop HPUT HROOM HRO hI HOI
           generalize wr.heap.size = b0 at c1 c0 HX ⊢))
      · -- too long
        refine (known7 _ (HHK.out.later HX.out.sto.below)).mono ?_
        rintro e w3 ⟨rfl, hb3⟩
        have HB3 := Lib.hid (chain2 HX.out.sto.below hb3)
        clear hb3 HX
        go_wp2
        go_ret
        exact ⟨rfl, HB3.out⟩
      · -- Prepare
        rename_i hsz _
        obtain ⟨S', hO', cp⟩ := la_prep (w := w) (b0 := b0) (s := s) (g := g) (o := o) HHK.out HO.out hi (by omega)
        have HO' := Lib.hid hO'
        have CP := Lib.hid cp
        clear hO' cp
        have HEQ : Hid (({ X with pend := some (Sv.of X.sv.other o.s) } : StS).sv.view.1 = vt ∧ ({ X with pend := some (Sv.of X.sv.other o.s) } : StS).sv.view.2 = vh ∧ ({ X with pend := some (Sv.of X.sv.other o.s) } : StS).pend.isSome = true) := Lib.hid ⟨HT.out, HH.out, rfl⟩
        have HE : Hid (Value.string vt = .string ({ X with pend := some (Sv.of X.sv.other o.s) } : StS).sv.view.1 ∧ Value.bool vh = .bool ({ X with pend := some (Sv.of X.sv.other o.s) } : StS).sv.view.2 ∧ Value.bool true = .bool ({ X with pend := some (Sv.of X.sv.other o.s) } : StS).pend.isSome) := Lib.hid (by rw [HEQ.out.1, HEQ.out.2.1, HEQ.out.2.2]; exact ⟨rfl, rfl, rfl⟩)
        generalize ({ X with pend := some (Sv.of X.sv.other o.s) } : StS) = X' at *
        have CT : Hid (∀ W, Sto w W (fun k => k = b0) s g S' X' → Calls Tryd.prog 42 #[.pointer (some ⟨s, 0, none⟩)] W fun e w' => e = .returned (.tuple #[.string vt, .bool vh]) ∧ W = w') := Lib.hid (fun W h => by have := h.text; rwa [HEQ.out.1, HEQ.out.2.1] at this)
        have CW : Hid (∀ W, Sto w W (fun k => k = b0) s g S' X' → Calls Tryd.prog 43 #[.pointer (some ⟨s, 0, none⟩)] W fun e w' => e = .returned (.bool true) ∧ W = w') := Lib.hid (fun W h => by have := h.waits; rwa [HEQ.out.2.2] at this)
        have HX2 := HX
        refine (CP.out _ HX.out).mono ?_
        rintro e w3 ⟨rfl, hx3⟩
        have HX3 := Lib.hid hx3
        have c1 := hx3.op.c1
        clear hx3 HX HX2 CP
        go_wp2_with (first
          | (go_at_call 42; (with_reducible refine (CT.out _ HX3.out.sto).mono ?_); rintro e w' ⟨rfl, rfl⟩)
          | (go_at_call 43; (with_reducible refine (CW.out _ HX3.out.sto).mono ?_); rintro e w' ⟨rfl, rfl⟩))
        go_roundw
        case rel => exact ⟨i + 1, S', X', o.s, by omega, HE.out.1, HE.out.2.1, rfl, HE.out.2.2, by go_num, HO'.out, Lib.hid HX3.out.less⟩
        case measure => simp [intOf]; omega
      · -- Commit
        cases hp : X.pend with
        | some r =>
        obtain ⟨S', hO', cp⟩ := la_comm (w := w) (b0 := b0) (s := s) (g := g) (o := o) HHK.out HO.out hi hp
        have HO' := Lib.hid hO'
        have CP := Lib.hid cp
        obtain ⟨hr1, hr2⟩ := HO.out.pend r hp
        have hv := view_lies hr1
        rw [hr2] at hv
        have HV := Lib.hid hv
        clear hO' cp hr1 hr2 hv
        have HEQ : Hid ((⟨r, none, false⟩ : StS).sv.view.1 = nx ∧ (⟨r, none, false⟩ : StS).sv.view.2 = true ∧ (⟨r, none, false⟩ : StS).pend.isSome = false) := Lib.hid ⟨congrArg Prod.fst HV.out, congrArg Prod.snd HV.out, rfl⟩
        have HE : Hid (Value.string nx = .string (⟨r, none, false⟩ : StS).sv.view.1 ∧ Value.bool true = .bool (⟨r, none, false⟩ : StS).sv.view.2 ∧ Value.bool false = .bool (⟨r, none, false⟩ : StS).pend.isSome) := Lib.hid (by rw [HEQ.out.1, HEQ.out.2.1, HEQ.out.2.2]; exact ⟨rfl, rfl, rfl⟩)
        have hw2 : vw = true := by rw [← HW.out, hp]; rfl
        subst hw2
        generalize (⟨r, none, false⟩ : StS) = X' at *
        have CT : Hid (∀ W, Sto w W (fun k => k = b0) s g S' X' → Calls Tryd.prog 42 #[.pointer (some ⟨s, 0, none⟩)] W fun e w' => e = .returned (.tuple #[.string nx, .bool true]) ∧ W = w') := Lib.hid (fun W h => by have := h.text; rwa [HEQ.out.1, HEQ.out.2.1] at this)
        have CW : Hid (∀ W, Sto w W (fun k => k = b0) s g S' X' → Calls Tryd.prog 43 #[.pointer (some ⟨s, 0, none⟩)] W fun e w' => e = .returned (.bool false) ∧ W = w') := Lib.hid (fun W h => by have := h.waits; rwa [HEQ.out.2.2] at this)
        refine (CP.out _ HX.out).mono ?_
        rintro e w3 ⟨rfl, hx3⟩
        have HX3 := Lib.hid hx3
        clear hx3 HX CP
        go_wp2_with (first
          | (go_at_call 42; (with_reducible refine (CT.out _ HX3.out.sto).mono ?_); rintro e w' ⟨rfl, rfl⟩)
          | (go_at_call 43; (with_reducible refine (CW.out _ HX3.out.sto).mono ?_); rintro e w' ⟨rfl, rfl⟩))
        go_roundw
        case rel => exact ⟨i + 1, S', X', nx, by omega, HE.out.1, HE.out.2.1, rfl, HE.out.2.2, by go_num, HO'.out, Lib.hid HX3.out.less⟩
        case measure => simp [intOf]; omega
        | none =>
        have hw2 : vw = false := by rw [← HW.out, hp]; rfl
        subst hw2
        have HEQ : Hid ((X : StS).sv.view.1 = vt ∧ (X : StS).sv.view.2 = vh ∧ (X : StS).pend.isSome = false) := Lib.hid ⟨HT.out, HH.out, HW.out⟩
        have HE : Hid (Value.string vt = .string (X : StS).sv.view.1 ∧ Value.bool vh = .bool (X : StS).sv.view.2 ∧ Value.bool false = .bool (X : StS).pend.isSome) := Lib.hid (by rw [HEQ.out.1, HEQ.out.2.1, HEQ.out.2.2]; exact ⟨rfl, rfl, rfl⟩)
        have CT : Hid (∀ W, Sto w W (fun k => k = b0) s g S X → Calls Tryd.prog 42 #[.pointer (some ⟨s, 0, none⟩)] W fun e w' => e = .returned (.tuple #[.string vt, .bool vh]) ∧ W = w') := Lib.hid (fun W h => by have := h.text; rwa [HEQ.out.1, HEQ.out.2.1] at this)
        have CW : Hid (∀ W, Sto w W (fun k => k = b0) s g S X → Calls Tryd.prog 43 #[.pointer (some ⟨s, 0, none⟩)] W fun e w' => e = .returned (.bool false) ∧ W = w') := Lib.hid (fun W h => by have := h.waits; rwa [HEQ.out.2.2] at this)
        refine (la_comm_none HHK.out HO.out hi hp _ HX.out).mono ?_
        rintro e w3 ⟨rfl, hx3⟩
        have HX3 := Lib.hid hx3
        clear hx3 HX
        go_wp2_with (first
          | (go_at_call 42; (with_reducible refine (CT.out _ HX3.out.sto).mono ?_); rintro e w' ⟨rfl, rfl⟩)
          | (go_at_call 43; (with_reducible refine (CW.out _ HX3.out.sto).mono ?_); rintro e w' ⟨rfl, rfl⟩))
        go_roundw
        case rel => exact ⟨i + 1, S, X, nx, by omega, HE.out.1, HE.out.2.1, rfl, HE.out.2.2, by go_num, HO.out.up, Lib.hid HX3.out.less⟩
        case measure => simp [intOf]; omega
      · -- Drop
        cases hp : X.pend with
        | some r =>
        obtain ⟨S', hO', cp⟩ := la_drop (w := w) (b0 := b0) (s := s) (g := g) (o := o) HHK.out HO.out hi hp
        have HO' := Lib.hid hO'
        have CP := Lib.hid cp
        clear hO' cp
        have HEQ : Hid ((X.give : StS).sv.view.1 = vt ∧ (X.give : StS).sv.view.2 = vh ∧ (X.give : StS).pend.isSome = false) := Lib.hid ⟨HT.out, HH.out, rfl⟩
        have HE : Hid (Value.string vt = .string (X.give : StS).sv.view.1 ∧ Value.bool vh = .bool (X.give : StS).sv.view.2 ∧ Value.bool false = .bool (X.give : StS).pend.isSome) := Lib.hid (by rw [HEQ.out.1, HEQ.out.2.1, HEQ.out.2.2]; exact ⟨rfl, rfl, rfl⟩)
        have hw2 : vw = true := by rw [← HW.out, hp]; rfl
        subst hw2
        generalize X.give = X' at *
        have CT : Hid (∀ W, Sto w W (fun k => k = b0) s g S' X' → Calls Tryd.prog 42 #[.pointer (some ⟨s, 0, none⟩)] W fun e w' => e = .returned (.tuple #[.string vt, .bool vh]) ∧ W = w') := Lib.hid (fun W h => by have := h.text; rwa [HEQ.out.1, HEQ.out.2.1] at this)
        have CW : Hid (∀ W, Sto w W (fun k => k = b0) s g S' X' → Calls Tryd.prog 43 #[.pointer (some ⟨s, 0, none⟩)] W fun e w' => e = .returned (.bool false) ∧ W = w') := Lib.hid (fun W h => by have := h.waits; rwa [HEQ.out.2.2] at this)
        refine (CP.out _ HX.out).mono ?_
        rintro e w3 ⟨rfl, hx3⟩
        have HX3 := Lib.hid hx3
        clear hx3 HX CP
        go_wp2_with (first
          | (go_at_call 42; (with_reducible refine (CT.out _ HX3.out.sto).mono ?_); rintro e w' ⟨rfl, rfl⟩)
          | (go_at_call 43; (with_reducible refine (CW.out _ HX3.out.sto).mono ?_); rintro e w' ⟨rfl, rfl⟩))
        go_roundw
        case rel => exact ⟨i + 1, S', X', nx, by omega, HE.out.1, HE.out.2.1, rfl, HE.out.2.2, by go_num, HO'.out, Lib.hid HX3.out.less⟩
        case measure => simp [intOf]; omega
        | none =>
        have hw2 : vw = false := by rw [← HW.out, hp]; rfl
        subst hw2
        have HEQ : Hid ((X : StS).sv.view.1 = vt ∧ (X : StS).sv.view.2 = vh ∧ (X : StS).pend.isSome = false) := Lib.hid ⟨HT.out, HH.out, HW.out⟩
        have HE : Hid (Value.string vt = .string (X : StS).sv.view.1 ∧ Value.bool vh = .bool (X : StS).sv.view.2 ∧ Value.bool false = .bool (X : StS).pend.isSome) := Lib.hid (by rw [HEQ.out.1, HEQ.out.2.1, HEQ.out.2.2]; exact ⟨rfl, rfl, rfl⟩)
        have CT : Hid (∀ W, Sto w W (fun k => k = b0) s g S X → Calls Tryd.prog 42 #[.pointer (some ⟨s, 0, none⟩)] W fun e w' => e = .returned (.tuple #[.string vt, .bool vh]) ∧ W = w') := Lib.hid (fun W h => by have := h.text; rwa [HEQ.out.1, HEQ.out.2.1] at this)
        have CW : Hid (∀ W, Sto w W (fun k => k = b0) s g S X → Calls Tryd.prog 43 #[.pointer (some ⟨s, 0, none⟩)] W fun e w' => e = .returned (.bool false) ∧ W = w') := Lib.hid (fun W h => by have := h.waits; rwa [HEQ.out.2.2] at this)
        refine (la_drop_none HHK.out HO.out hi hp _ HX.out).mono ?_
        rintro e w3 ⟨rfl, hx3⟩
        have HX3 := Lib.hid hx3
        clear hx3 HX
        go_wp2_with (first
          | (go_at_call 42; (with_reducible refine (CT.out _ HX3.out.sto).mono ?_); rintro e w' ⟨rfl, rfl⟩)
          | (go_at_call 43; (with_reducible refine (CW.out _ HX3.out.sto).mono ?_); rintro e w' ⟨rfl, rfl⟩))
        go_roundw
        case rel => exact ⟨i + 1, S, X, nx, by omega, HE.out.1, HE.out.2.1, rfl, HE.out.2.2, by go_num, HO.out.up, Lib.hid HX3.out.less⟩
        case measure => simp [intOf]; omega
      · -- nothing
        have HEQ : Hid ((X : StS).sv.view.1 = vt ∧ (X : StS).sv.view.2 = vh ∧ (X : StS).pend.isSome = vw) := Lib.hid ⟨HT.out, HH.out, HW.out⟩
        have HE : Hid (Value.string vt = .string (X : StS).sv.view.1 ∧ Value.bool vh = .bool (X : StS).sv.view.2 ∧ Value.bool vw = .bool (X : StS).pend.isSome) := Lib.hid (by rw [HEQ.out.1, HEQ.out.2.1, HEQ.out.2.2]; exact ⟨rfl, rfl, rfl⟩)
        have CT : Hid (∀ W, Sto w W (fun k => k = b0) s g S X → Calls Tryd.prog 42 #[.pointer (some ⟨s, 0, none⟩)] W fun e w' => e = .returned (.tuple #[.string vt, .bool vh]) ∧ W = w') := Lib.hid (fun W h => by have := h.text; rwa [HEQ.out.1, HEQ.out.2.1] at this)
        have CW : Hid (∀ W, Sto w W (fun k => k = b0) s g S X → Calls Tryd.prog 43 #[.pointer (some ⟨s, 0, none⟩)] W fun e w' => e = .returned (.bool vw) ∧ W = w') := Lib.hid (fun W h => by have := h.waits; rwa [HEQ.out.2.2] at this)
        have HX3 := HX
        clear HX
        refine (CT.out _ HX3.out.sto).mono ?_
        rintro e w' ⟨rfl, rfl⟩
        go_wp2_with (first
          | (go_at_call 42; (with_reducible refine (CT.out _ HX3.out.sto).mono ?_); rintro e w' ⟨rfl, rfl⟩)
          | (go_at_call 43; (with_reducible refine (CW.out _ HX3.out.sto).mono ?_); rintro e w' ⟨rfl, rfl⟩))
        go_roundw
        case rel => exact ⟨i + 1, S, X, nx, by omega, HE.out.1, HE.out.2.1, rfl, HE.out.2.2, by go_num, HO.out.up, Lib.hid HX3.out.less⟩
        case measure => simp [intOf]; omega
    · by_cases hlen : i < len
      · obtain rfl : i = 40 := by omega
        rw [show ((40 : Nat) : Int) = 40 from rfl]
        have z1 : (40 : Int) < (len : Int) := by omega
        have CO := Lib.hid (fun W (h : Solo w W (fun _ => False) g S) => open_says h HHK.out HO.out.fine HO.out.on HO.out.says (by omega))
        have CT : Hid (∀ W n, Sto w W (fun _ => False) n g S ⟨X.sv, none, false⟩ → Calls Tryd.prog 42 #[.pointer (some ⟨n, 0, none⟩)] W fun e w' => e = .returned (.tuple #[.string X.sv.view.1, .bool X.sv.view.2]) ∧ W = w') := Lib.hid (fun W n h => h.text)
        generalize X.sv.view.1 = vt at *
        generalize X.sv.view.2 = vh at *
        generalize X.pend.isSome = vw at *
        go_wp2_with fail
        refine (CO.out wr hI.out.solo).mono ?_
        rintro e w3 ⟨n, rfl, h3, -, -⟩
        have H3 := Lib.hid h3
        clear h3 hI CO
        go_wp2_with (first
          | (go_at_call 42; (with_reducible refine (CT.out _ _ H3.out).mono ?_); rintro e w' ⟨rfl, rfl⟩)
          | (go_at_call 36; refine (known7 _ (HHK.out.later H3.out.below)).mono ?_; rintro e w4 ⟨rfl, hb4⟩; have HB4 := Lib.hid (chain2 H3.out.below hb4); clear hb4 H3))
        go_ret
        exact ⟨rfl, HB4.out⟩
      · have t0 : decide ((i : Int) < (len : Int)) = false := decide_eq_false (by omega)
        have t1 : decide (i < len) = false := decide_eq_false hlen
        have CO := Lib.hid (fun W (h : Solo w W (fun _ => False) g S) => open_says h HHK.out HO.out.fine HO.out.on HO.out.says (by omega))
        have CT : Hid (∀ W n, Sto w W (fun _ => False) n g S ⟨X.sv, none, false⟩ → Calls Tryd.prog 42 #[.pointer (some ⟨n, 0, none⟩)] W fun e w' => e = .returned (.tuple #[.string X.sv.view.1, .bool X.sv.view.2]) ∧ W = w') := Lib.hid (fun W n h => h.text)
        generalize X.sv.view.1 = vt at *
        generalize X.sv.view.2 = vh at *
        generalize X.pend.isSome = vw at *
        go_wp2_with fail
        refine (CO.out wr hI.out.solo).mono ?_
        rintro e w3 ⟨n, rfl, h3, -, -⟩
        have H3 := Lib.hid h3
        clear h3 hI CO
        go_wp2_with (first
          | (go_at_call 42; (with_reducible refine (CT.out _ _ H3.out).mono ?_); rintro e w' ⟨rfl, rfl⟩)
          | (go_at_call 36; refine (known7 _ (HHK.out.later H3.out.below)).mono ?_; rintro e w4 ⟨rfl, hb4⟩; have HB4 := Lib.hid (chain2 H3.out.below hb4); clear hb4 H3))
        go_ret
        exact ⟨rfl, HB4.out⟩

end Go.Proofs.YtkplmaaeggnbgaaDoor.St
