/- The walk of operate: its contract. No condition but those that each states. -/
import Derived.Test.YtkplmaaeggnbgaaDoorDkD
namespace Go.Proofs.YtkplmaaeggnbgaaDoor.Dk
open Go.RowKit

/-- Of a disk the header alone is written. -/
theorem DiskAt.head {w w' : World} {F : Nat → Prop} {g : Nat} {S T : DS} (h : DiskAt w F g S) (hL : T.L = S.L) (hW : T.W = S.W) (hc : T.c = S.c) (hok : T.Ok) (hs : w'.heap.size = w.heap.size) (hb : ∀ k, k ≠ g → w'.heap[k]? = w.heap[k]?)
    (hr : w'.there g 0 9) (hk : ∀ o, o = 0 ∨ o = 2 ∨ o = 3 ∨ o = 4 → w'.cell? ⟨g, o, none⟩ = w.cell? ⟨g, o, none⟩) (hon : w'.cell? ⟨g, 1, none⟩ = some (.bool T.on)) (hops : w'.cell? ⟨g, 5, none⟩ = some (.int .i64 (T.ops : Int)))
    (hp : w'.rangeAt g 6 (planCells T.next)) : DiskAt w' F g T := by
  obtain ⟨gd, cd, gm, vp, D, hD, h1, h2, h3, h4⟩ := h
  obtain ⟨n1, n2, n3⟩ := hD.ne
  obtain ⟨l1, l2, l3⟩ := hD.lt
  refine ⟨gd, cd, gm, vp, D, ⟨hr, (hk 0 (by omega)).trans hD.self, hon, ?_, (hk 3 (by omega)).trans hD.pend, (hk 4 (by omega)).trans hD.last, hops, hp, ?_, ?_, ?_, ?_, ?_, ?_, hok, by omega, hD.ne, fun c e => by rw [hs]; exact hD.nep c e⟩, h1, h2, h3, h4⟩
  · rw [hL]; exact (hk 2 (by omega)).trans hD.dur
  · rw [hL]; exact rangeAt_block hD.durs (hb _ (Ne.symm n1))
  · rw [hL]; exact there_block hD.room2 (hb _ (Ne.symm n1))
  · rw [hL]; exact hD.cap
  · rw [hW]; exact ownsRow_block hD.row (fun c e => hb c (hD.nep c e).2.1)
  · rw [hc]; exact ownsMap_block hD.map (hb _ (Ne.symm n2))
  · rw [hW]; exact hD.mapOk

theorem DiskAt.room {w : World} {F : Nat → Prop} {g : Nat} {S : DS} (h : DiskAt w F g S) : w.there g 0 9 := by
  obtain ⟨gd, cd, gm, vp, D, hD, _⟩ := h; exact hD.room
theorem DiskAt.ops {w : World} {F : Nat → Prop} {g : Nat} {S : DS} (h : DiskAt w F g S) : w.cell? ⟨g, 5, none⟩ = some (.int .i64 (S.ops : Int)) := by
  obtain ⟨gd, cd, gm, vp, D, hD, _⟩ := h; exact hD.ops
theorem DiskAt.plan {w : World} {F : Nat → Prop} {g : Nat} {S : DS} (h : DiskAt w F g S) : w.rangeAt g 6 (planCells S.next) := by
  obtain ⟨gd, cd, gm, vp, D, hD, _⟩ := h; exact hD.plan

theorem setc_other (w : World) (g i o : Nat) (v : Value) (h : o ≠ i) : (w.setCell ⟨g, i, none⟩ v).cell? ⟨g, o, none⟩ = w.cell? ⟨g, o, none⟩ := by
  rw [World.cell?_setCell_other _ _ _ _ (by intro e; simp at e; first | done | exact absurd e.symm h)]

theorem some_cell {w : World} {g o n : Nat} (h : w.there g 0 n) (ho : o < n) : ∃ v, w.cell? ⟨g, o, none⟩ = some v := by
  have := (h o ho).1
  rw [Nat.zero_add] at this
  exact Option.isSome_iff_exists.1 this

theorem setc_same {w : World} {g o n : Nat} (h : w.there g 0 n) (ho : o < n) (v : Value) : (w.setCell ⟨g, o, none⟩ v).cell? ⟨g, o, none⟩ = some v := by
  obtain ⟨u, hu⟩ := some_cell h ho
  exact World.cell?_setCell_same _ _ _ hu

theorem plan_of {w : World} {g : Nat} {a b c : Value} (h0 : w.cell? ⟨g, 6, none⟩ = some a) (h1 : w.cell? ⟨g, 7, none⟩ = some b) (h2 : w.cell? ⟨g, 8, none⟩ = some c) : w.rangeAt g 6 [a, b, c] := fun j v hv => by
  have : j < 3 := (List.getElem?_eq_some_iff.1 hv).1
  rcases (show j = 0 ∨ j = 1 ∨ j = 2 by omega) with rfl | rfl | rfl
  · simp at hv; rw [← hv]; exact h0
  · simp at hv; rw [← hv]; exact h1
  · simp at hv; rw [← hv]; exact h2

theorem DiskAt.tick {w : World} {F : Nat → Prop} {g : Nat} {S : DS} (h : DiskAt w F g S) : DiskAt (w.setCell ⟨g, 5, none⟩ (.int .i64 ((S.ops : Int) + 1))) F g S.tick :=
  h.head rfl rfl rfl h.ok.tick (by simp) (fun k hk => Below.heap_setCell _ _ _ _ hk) (there_setCell h.room _ _) (fun o ho => setc_other _ _ _ _ _ (by omega)) ((setc_other _ _ _ _ _ (by decide)).trans h.on)
    (setc_same h.room (by decide) _) (rangeAt_setCell h.plan 5 _ (.inl (by decide)))

theorem DiskAt.less {w : World} {F : Nat → Prop} {g k m : Nat} {S : DS} (h : DiskAt w F g S) (hn : S.next = some (k + 1, m)) : DiskAt (w.setCell ⟨g, 7, none⟩ (.int .i64 (k : Int))) F g (S.plan k m) := by
  have hp := h.plan
  rw [hn] at hp
  have hb := h.ok.next _ _ hn
  refine h.head rfl rfl rfl (h.ok.plan (by omega) hb.2) (by simp) (fun k hk => Below.heap_setCell _ _ _ _ hk) (there_setCell h.room _ _) (fun o ho => setc_other _ _ _ _ _ (by omega)) ((setc_other _ _ _ _ _ (by decide)).trans h.on)
    ((setc_other _ _ _ _ _ (by decide)).trans h.ops) (plan_of ((setc_other _ _ _ _ _ (by decide)).trans (hp 0 _ rfl)) (setc_same h.room (by decide) _) ((setc_other _ _ _ _ _ (by decide)).trans (hp 2 _ rfl)))

theorem DiskAt.setPlan {w : World} {F : Nat → Prop} {g : Nat} {S T : DS} (h : DiskAt w F g S) (a b c : Value) (hT : planCells T.next = [a, b, c]) (h1 : T.on = S.on) (h2 : T.L = S.L) (h3 : T.W = S.W) (h4 : T.ops = S.ops) (h5 : T.c = S.c) (hok : T.Ok) :
    DiskAt (((w.setCell ⟨g, 6, none⟩ a).setCell ⟨g, 7, none⟩ b).setCell ⟨g, 8, none⟩ c) F g T := by
  have r1 := there_setCell h.room ⟨g, 6, none⟩ a
  have r2 := there_setCell r1 ⟨g, 7, none⟩ b
  have r3 := there_setCell r2 ⟨g, 8, none⟩ c
  have ho : ∀ o, o < 6 → (((w.setCell ⟨g, 6, none⟩ a).setCell ⟨g, 7, none⟩ b).setCell ⟨g, 8, none⟩ c).cell? ⟨g, o, none⟩ = w.cell? ⟨g, o, none⟩ := fun o ho =>
    (setc_other _ _ _ _ _ (by omega)).trans ((setc_other _ _ _ _ _ (by omega)).trans (setc_other _ _ _ _ _ (by omega)))
  refine h.head h2 h3 h5 hok (by simp) (fun k hk => ?_) r3 (fun o e => ho o (by omega)) (by rw [h1]; exact (ho 1 (by decide)).trans h.on) (by rw [h4]; exact (ho 5 (by decide)).trans h.ops) ?_
  · rw [Below.heap_setCell _ _ _ _ hk, Below.heap_setCell _ _ _ _ hk, Below.heap_setCell _ _ _ _ hk]
  · rw [hT]
    exact plan_of ((setc_other _ _ _ _ _ (by decide)).trans ((setc_other _ _ _ _ _ (by decide)).trans (setc_same h.room (by decide) _))) ((setc_other _ _ _ _ _ (by decide)).trans (setc_same r1 (by decide) _)) (setc_same r2 (by decide) _)

theorem Only.set {F : Nat → Prop} {a b : World} (h : Only F a b) {g : Nat} (hg : F g) (o : Nat) (v : Value) : Only F a (b.setCell ⟨g, o, none⟩ v) := h.setCell ⟨g, o, none⟩ hg v

set_option maxHeartbeats 1000000 in
set_option maxRecDepth 100000 in
theorem op_none (F : Nat → Prop) (g : Nat) (S : DS) (w : World) (hD : DiskAt w F g S) (hn : S.next = none) (ho : S.ops ≤ 2 ^ 40) :
    Calls Tryd.prog 59 #[.pointer (some ⟨g, 0, none⟩)] w fun e w' => e = .returned (.int .i64 0) ∧ DiskAt w' F g S.tick ∧ Only F w w' := by
  have c5 := hD.ops
  have f5 := hD.free 5 (by decide)
  have hp := hD.plan
  rw [hn] at hp
  have c6 : w.cell? ⟨g, 6, none⟩ = some (.bool false) := hp 0 _ rfl
  have H2 := Lib.hid hD.tick
  have O2 := Lib.hid ((Only.refl F w).set hD.in_F 5 (.int .i64 ((S.ops : Int) + 1)))
  have b0 : (0 : Int) ≤ (S.ops : Int) := by omega
  have b1 : (S.ops : Int) ≤ 1099511627776 := by omega
  clear hD hp hn
  go_enter Tryd.func59, Tryd.ntmps59
  go_wp2
  go_ret
  exact ⟨rfl, H2.out, O2.out⟩

set_option maxHeartbeats 1000000 in
set_option maxRecDepth 100000 in
theorem op_more (F : Nat → Prop) (g k m : Nat) (S : DS) (w : World) (hD : DiskAt w F g S) (hn : S.next = some (k + 1, m)) (ho : S.ops ≤ 2 ^ 40) :
    Calls Tryd.prog 59 #[.pointer (some ⟨g, 0, none⟩)] w fun e w' => e = .returned (.int .i64 0) ∧ DiskAt w' F g (S.tick.plan k m) ∧ Only F w w' := by
  have c5 := hD.ops
  have f5 := hD.free 5 (by decide)
  have f7 := hD.free 7 (by decide)
  have hp := hD.plan
  rw [hn] at hp
  have c6 : w.cell? ⟨g, 6, none⟩ = some (.bool true) := hp 0 _ rfl
  have c7 : w.cell? ⟨g, 7, none⟩ = some (.int .i64 ((k + 1 : Nat) : Int)) := hp 1 _ rfl
  have hlt := (hD.ok.next _ _ hn).1
  have H1 := hD.tick
  have H2 := Lib.hid (H1.less (k := k) (m := m) hn)
  have O2 := Lib.hid (((Only.refl F w).set hD.in_F 5 (.int .i64 ((S.ops : Int) + 1))).set hD.in_F 7 (.int .i64 (k : Int)))
  have b0 : (0 : Int) ≤ (S.ops : Int) := by omega
  have b1 : (S.ops : Int) ≤ 1099511627776 := by omega
  have e1 : ((k + 1 : Nat) : Int) - 1 = (k : Int) := by omega
  have b2 : ((k + 1 : Nat) : Int) ≤ 9223372036854775807 := by omega
  have b3 : (0 : Int) < ((k + 1 : Nat) : Int) := by omega
  generalize ((k + 1 : Nat) : Int) = kk at c7 e1 b2 b3
  clear hD hp hn H1 hlt
  go_enter Tryd.func59, Tryd.ntmps59
  go_wp2
  go_ret
  exact ⟨rfl, H2.out, O2.out⟩

set_option maxHeartbeats 1000000 in
set_option maxRecDepth 100000 in
theorem op_cut (F : Nat → Prop) (g m : Nat) (S : DS) (w : World) (hD : DiskAt w F g S) (hn : S.next = some (0, m)) (ho : S.ops ≤ 2 ^ 40) (hc : S.c ≤ 2 ^ 40) :
    Calls Tryd.prog 59 #[.pointer (some ⟨g, 0, none⟩)] w fun e w' => e = .returned (.int .i64 7) ∧ DiskAt w' F g (({ S.tick with next := none } : DS).lose m) ∧ Only F w w' := by
  have c5 := hD.ops
  have f5 := hD.free 5 (by decide)
  have f6 := hD.free 6 (by decide)
  have f7 := hD.free 7 (by decide)
  have f8 := hD.free 8 (by decide)
  have hp := hD.plan
  rw [hn] at hp
  have c6 : w.cell? ⟨g, 6, none⟩ = some (.bool true) := hp 0 _ rfl
  have c7 : w.cell? ⟨g, 7, none⟩ = some (.int .i64 0) := hp 1 _ rfl
  have c8 : w.cell? ⟨g, 8, none⟩ = some (.int .u64 (m : Int)) := hp 2 _ rfl
  have hlt := (hD.ok.next _ _ hn).2
  have H1 := hD.tick
  have H2 := Lib.hid (H1.setPlan (T := ({ S.tick with next := none } : DS)) (.bool false) (.int .i64 0) (.int .u64 0) rfl rfl rfl rfl rfl rfl hD.ok.tick.clear)
  have O2 := Lib.hid (((((Only.refl F w).set hD.in_F 5 (.int .i64 ((S.ops : Int) + 1))).set hD.in_F 6 (.bool false)).set hD.in_F 7 (.int .i64 0)).set hD.in_F 8 (.int .u64 0))
  have b0 : (0 : Int) ≤ (S.ops : Int) := by omega
  have b1 : (S.ops : Int) ≤ 1099511627776 := by omega
  clear hD hp hn H1
  go_enter Tryd.func59, Tryd.ntmps59
  go_wp2_with fail
  refine (lose_any F g _ m _ H2.out hlt hc).mono ?_
  rintro e w1 ⟨rfl, h1, o1⟩
  have H3 := Lib.hid h1
  have O3 := Lib.hid (O2.out.trans o1 (fun _ _ h => h))
  clear h1 o1
  go_wp2
  go_ret
  exact ⟨rfl, H3.out, O3.out⟩

def errOf (b : Bool) : Int := if b then 0 else 7

theorem op_any (F : Nat → Prop) (g : Nat) (S : DS) (w : World) (hD : DiskAt w F g S) (ho : S.ops ≤ 2 ^ 40) (hc : S.c ≤ 2 ^ 40) :
    Calls Tryd.prog 59 #[.pointer (some ⟨g, 0, none⟩)] w fun e w' => e = .returned (.int .i64 (errOf S.step.2)) ∧ DiskAt w' F g S.step.1 ∧ Only F w w' := by
  cases hn : S.next with
  | none =>
    have e : S.step = (S.tick, true) := by unfold DS.step; rw [hn]
    rw [e]; exact op_none F g S w hD hn ho
  | some q =>
    obtain ⟨k, m⟩ := q
    cases k with
    | zero =>
      have e : S.step = (({ S.tick with next := none } : DS).lose m, false) := by unfold DS.step; rw [hn]
      rw [e]; exact op_cut F g m S w hD hn ho hc
    | succ k =>
      have e : S.step = (S.tick.plan k m, true) := by unfold DS.step; rw [hn]
      rw [e]; exact op_more F g k m S w hD hn ho

end Go.Proofs.YtkplmaaeggnbgaaDoor.Dk
