/- The walk of the document's cut, and of Fail without power: their contracts. No condition but those that each states. -/
import Derived.Test.YthddiijnomhpfaaDkRc
namespace Go.Proofs.Ythddiijnomhpfaa.Dk
open Go.RowKit

set_option maxHeartbeats 1000000 in
theorem ref_fail_off (r : Nat) (S : DS) (q : Int) (F : Nat → Prop) (w : World) (h : RefAt w F r S) (hon : S.on = false) :
    Calls Try.prog 28 #[.pointer (some ⟨r, 0, none⟩), .int .u64 q] w fun e w' => e = .returned (.tuple #[]) ∧ w = w' := by
  obtain ⟨vl, vw, a, m, hR, -⟩ := h
  have c2 := hR.cell (i := 2) rfl
  rw [hon] at c2
  clear hR
  go_enter Try.func28, Try.ntmps28
  go_wp2
  exact bodyPost_ret (results_none rfl _ _ _) rfl ⟨rfl, rfl⟩

set_option maxHeartbeats 1000000 in
set_option maxRecDepth 100000 in
theorem ref_cut (r : Nat) (S : DS) (F : Nat → Prop) (w : World) (h : RefAt w F r S) (hon : S.on = true) (hc : S.c ≤ 2 ^ 40) (hops : S.ops ≤ 2 ^ 40) :
    Calls Try.prog 51 #[.pointer (some ⟨r, 0, none⟩)] w fun e w' => e = .returned (.bool (!S.step.2)) ∧ RefAt w' (More F w) r S.step.1 ∧ Only F w w' := by
  obtain ⟨vl, vw, a, m, hR, hF1, hF2, hF3⟩ := h
  have y0 : (0 : Int) ≤ (S.ops : Int) := by omega
  have y1 : (S.ops : Int) ≤ 1099511627776 := by omega
  have h1 := hR.put 3 (by decide) (.int .i64 ((S.ops : Int) + 1)) (a' := a) (m' := m) (T := S.tick) (by unfold rcells DS.tick; simp) rfl rfl hR.ok.tick hR.plan hR.size
  have c3 := hR.cell (i := 3) rfl
  have f3 := hR.free 3 (by decide)
  have c4 := hR.cell (i := 4) rfl
  have c5 := hR.cell (i := 5) rfl
  have c6 := hR.cell (i := 6) rfl
  have f4 := hR.free 4 (by decide)
  have f5 := hR.free 5 (by decide)
  have hOK := hR.ok
  have HF := Lib.hid (And.intro hF1 (And.intro hF2 hF3))
  have o1 : Only F w (w.setCell ⟨r, 3, none⟩ (.int .i64 ((S.ops : Int) + 1))) := (Only.refl F w).setCell ⟨r, 3, none⟩ hF1 _
  have HO := Lib.hid o1
  have H1 := Lib.hid h1
  have hsz := hR.size
  have hpl := hR.plan
  clear h1 hR hF1 hF2 hF3 o1
  cases hn : S.next with
  | none =>
    have e : S.step = (S.tick, true) := step_none hn
    rw [e]
    rw [hn] at c4
    have HZ : Hid (RefAt _ (More F w) r S.tick ∧ Only F w _) := Lib.hid ⟨⟨vl, vw, a, m, H1.out, .inl HF.out.1, fun b hb => .inl (HF.out.2.1 b hb), fun b hb => .inl (HF.out.2.2 b hb)⟩, HO.out⟩
    clear H1 HF HO
    go_enter Try.func51, Try.ntmps51
    go_wp2
    go_ret
    exact ⟨rfl, HZ.out⟩
  | some p =>
    obtain ⟨k, q⟩ := p
    obtain ⟨rfl, rfl⟩ := hpl k q hn
    rw [hn] at c4
    cases a with
    | zero =>
      have e : S.step = (({ S.tick with next := none } : DS).lose m, false) := by unfold DS.step; rw [hn]
      rw [e]
      have h2 := H1.out.put 4 (by decide) (.bool false) (a' := 0) (m' := m) (T := { S.tick with next := none }) (by unfold rcells DS.tick; simp) rfl rfl ⟨H1.out.ok.lo, H1.out.ok.hi, H1.out.ok.blk, H1.out.ok.wat, H1.out.ok.few, fun _ _ e => by cases e⟩ (fun _ _ e => by cases e) hsz
      have o2 := HO.out.setCell ⟨r, 4, none⟩ HF.out.1 (.bool false)
      have HR2 : Hid (RefAt _ F r { S.tick with next := none } ∧ Only F w _) := Lib.hid ⟨⟨vl, vw, 0, m, h2, HF.out.1, HF.out.2.1, HF.out.2.2⟩, o2⟩
      have hb2 := o2.size
      have hm64 := hsz.2
      clear h2 o2 H1 HO HF hpl hsz
      rw [show ((0 : Nat) : Int) = 0 from rfl] at c5
      go_enter Try.func51, Try.ntmps51
      go_wp2_with fail
      refine (ref_fail_on r { S.tick with next := none } m hm64 F _ HR2.out.1 hon hc).mono ?_
      rintro e3 w3 ⟨rfl, hr3, ho3⟩
      have ef : ({ S.tick with next := none } : DS).fail m = ({ S.tick with next := none } : DS).lose m := by unfold DS.fail; rw [show ({ S.tick with next := none } : DS).on = true from hon]; rfl
      rw [ef] at hr3
      have HZ : Hid (RefAt w3 (More F w) r (({ S.tick with next := none } : DS).lose m) ∧ Only F w w3) := Lib.hid ⟨hr3.mono (fun i hi => hi.imp id (fun hi => Nat.le_trans hb2 hi)), HR2.out.2.trans ho3 (fun _ _ e => e)⟩
      clear hr3 ho3 HR2 ef
      go_wp2
      go_ret
      exact ⟨rfl, HZ.out⟩
    | succ k =>
      have e : S.step = (S.tick.plan k m, true) := by unfold DS.step; rw [hn]
      rw [e]
      have h2 := H1.out.put 5 (by decide) (.int .i64 (k : Int)) (a' := k) (m' := m) (T := S.tick.plan k m) (by unfold rcells DS.tick DS.plan; simp [hn]) rfl rfl (hOK.tick.plan (by omega) hsz.2) (fun k' q' e => by cases e; exact ⟨rfl, rfl⟩) ⟨by omega, hsz.2⟩
      have HZ : Hid (RefAt _ (More F w) r (S.tick.plan k m) ∧ Only F w _) := Lib.hid ⟨⟨vl, vw, k, m, h2, .inl HF.out.1, fun b hb => .inl (HF.out.2.1 b hb), fun b hb => .inl (HF.out.2.2 b hb)⟩, HO.out.setCell ⟨r, 5, none⟩ HF.out.1 (.int .i64 (k : Int))⟩
      have z0 : (0 : Int) ≤ (k : Int) := by omega
      have z1 : (k : Int) + 1 < 9223372036854775808 := by omega
      rw [show ((k + 1 : Nat) : Int) = (k : Int) + 1 from rfl] at c5
      have t0 : decide ((0 : Int) < (k : Int) + 1) = true := decide_eq_true (by omega)
      have ew2 : (k : Int) + 1 - 1 = (k : Int) := by omega
      clear h2 H1 HO HF hpl hsz
      go_enter Try.func51, Try.ntmps51
      go_wp2
      go_ret
      exact ⟨rfl, HZ.out⟩

end Go.Proofs.Ythddiijnomhpfaa.Dk
