/- The walk of ring.Last: its contract. No condition but those that each states. -/
import Derived.Test.YtkplmaaeggnbgaaDoorRgE
namespace Go.Proofs.YtkplmaaeggnbgaaDoor.Rg
open Go.RowKit Dk

/-- The last entry of a journal. -/
def lastE (S : DS) : Option Ent := (scan S.read 8).getLast?

/-- What Last answers. -/
def DS.last (S : DS) : Ent × Bool × Int := if S.on = false then (Ent.zero, false, 7) else ((lastE S).getD Ent.zero, (lastE S).isSome, 0)

set_option maxHeartbeats 1000000 in
theorem last_err (p : Option Addr) (k : Int) (hk : k = 7 ∨ k = 16) (w : World)
    (C : ∀ W, Below w.heap.size w W → Calls Tryd.prog 29 #[.pointer p] W fun x w' => x = .returned (.tuple #[.slice none 0 0, .int .i64 k]) ∧ W = w') :
    Calls Tryd.prog 31 #[.pointer p] w fun x w' => x = .returned (.tuple #[.agg Ent.zero.cells.toArray, .bool false, .int .i64 k]) ∧ Below w.heap.size w w' := by
  have HC := Lib.hid C
  clear C
  have HZ := Lib.hid (eb_zero w)
  have HB : Hid (Below w.heap.size w (w.alloc (.cells #[.int .i64 0, .int .i64 0, .int .i64 0, .int .i64 0, .string ⟨#[]⟩] 47))) := Lib.hid ((Below.refl _ _).alloc (Nat.le_refl _) _)
  have t0 : (k != 0) = true := by rcases hk with rfl | rfl <;> rfl
  have t1 : (k == 0) = false := by rcases hk with rfl | rfl <;> rfl
  have HK := Lib.hid hk
  clear hk
  go_enter Tryd.func31, Tryd.ntmps31
  go_wp2_with fail
  refine (HC.out _ HB.out).mono ?_
  rintro x w1 ⟨rfl, rfl⟩
  have HS := Lib.hid (HZ.out.set Ent.zero)
  have HB2 := Lib.hid (below_setCells HB.out w.heap.size (Nat.le_refl _) Ent.zero.cells.toArray.toList 0 _ HB.out)
  go_wp2_with (first
    | (refine wpList_store_mid rfl 47 (.tmp 2) (.tmp 19) rfl w.heap.size 0 Ent.zero.cells.toArray rfl rfl HZ.out.room (e_infoA Ent.zero) (e_all Ent.zero) ?_; generalize World.setCells _ _ _ _ = W3 at HS HB2 ⊢))
  refine bodyPost_ret (results_cell3 rfl _ _ rfl HS.out.cells Tryd.underlying47 rfl (e_info _)) rfl ?_
  exact ⟨rfl, HB2.out⟩

theorem list_snoc {α : Type} {l : List α} (h : l ≠ []) : ∃ X x, l = X ++ [x] := ⟨l.dropLast, l.getLast h, (List.dropLast_concat_getLast h).symm⟩

theorem last_range {w w' : World} {v : Value} {X : List Ent} {x : Ent} (h : ScanR w w' v (X ++ [x])) : ∃ g c, v = .slice (some ⟨g, 0, none⟩) (X.length + 1) c ∧ w'.rangeAt g (X.length * 5) x.cells := by
  have hr := own_zero h.row
  rcases h.row.2 with ⟨-, h0⟩ | ⟨g, cap, cur, hv, -⟩
  · simp at h0
  · rw [List.length_append, List.length_singleton] at hv
    refine ⟨g, cap, hv, ?_⟩
    rw [hv] at hr
    exact row_range (by simpa using hr)

set_option maxHeartbeats 2000000 in
set_option maxRecDepth 100000 in
theorem last_none (F : Nat → Prop) (g : Nat) (S : DS) (w : World) (hD : DiskAt w F g S) (hon : S.on = true) (hc : S.c ≤ 2 ^ 40) (HK : HasK w) (hl : scan S.read 8 = []) :
    Calls Tryd.prog 31 #[.pointer (some ⟨g, 0, none⟩)] w fun x w' => x = .returned (.tuple #[.agg Ent.zero.cells.toArray, .bool false, .int .i64 0]) ∧ Below w.heap.size w w' := by
  have HZ := Lib.hid (eb_zero w)
  have hb0 : Below w.heap.size w (w.alloc (.cells #[.int .i64 0, .int .i64 0, .int .i64 0, .int .i64 0, .string ⟨#[]⟩] 47)) := (Below.refl _ _).alloc (Nat.le_refl _) _
  have HB := Lib.hid hb0
  have C := Lib.hid (scan_on F g S _ (hD.below hb0) hon hc (HK.later hb0))
  rw [hl] at C
  clear hD hon hc HK hb0 hl
  go_enter Tryd.func31, Tryd.ntmps31
  go_wp2_with fail
  refine C.out.mono ?_
  rintro x w1 ⟨v, rfl, hS⟩
  have HZ1 := Lib.hid (HZ.out.later hS.below)
  have HB1 := Lib.hid (chain2 HB.out hS.below)
  have hv : ∃ pa c, v = .slice pa 0 c := by
    rcases hS.row.2 with ⟨hv, -⟩ | ⟨g', cap, cur, hv, -⟩
    · exact ⟨_, _, hv⟩
    · exact ⟨_, _, hv⟩
  obtain ⟨pa, c, rfl⟩ := hv
  clear hS C HZ HB
  have HE := Lib.hid (HZ1.out.set Ent.zero)
  have HB2 := Lib.hid (below_setCells HB1.out w.heap.size (Nat.le_refl _) Ent.zero.cells.toArray.toList 0 _ HB1.out)
  go_wp2_with (first
    | (refine wpList_store_mid rfl 47 (.tmp 2) (.tmp 19) rfl w.heap.size 0 Ent.zero.cells.toArray rfl rfl HZ1.out.room (e_infoA Ent.zero) (e_all Ent.zero) ?_; generalize World.setCells _ _ _ _ = W3 at HE HB2 ⊢))
  refine bodyPost_ret (results_cell3 rfl _ _ rfl HE.out.cells Tryd.underlying47 rfl (e_info _)) rfl ?_
  exact ⟨rfl, HB2.out⟩

set_option maxHeartbeats 2000000 in
set_option maxRecDepth 100000 in
theorem last_some (F : Nat → Prop) (g : Nat) (S : DS) (w : World) (hD : DiskAt w F g S) (hon : S.on = true) (hc : S.c ≤ 2 ^ 40) (HK : HasK w) (X : List Ent) (x : Ent) (hX : scan S.read 8 = X ++ [x]) :
    Calls Tryd.prog 31 #[.pointer (some ⟨g, 0, none⟩)] w fun e w' => e = .returned (.tuple #[.agg x.cells.toArray, .bool true, .int .i64 0]) ∧ Below w.heap.size w w' := by
  have hlen : X.length + 1 ≤ 8 := by have := scan_length S.read 8; rw [hX] at this; simpa using this
  have HZ := Lib.hid (eb_zero w)
  have hb0 : Below w.heap.size w (w.alloc (.cells #[.int .i64 0, .int .i64 0, .int .i64 0, .int .i64 0, .string ⟨#[]⟩] 47)) := (Below.refl _ _).alloc (Nat.le_refl _) _
  have HB := Lib.hid hb0
  have C := Lib.hid (scan_on F g S _ (hD.below hb0) hon hc (HK.later hb0))
  rw [hX] at C
  clear hD hon hc HK hb0 hX
  go_enter Tryd.func31, Tryd.ntmps31
  go_wp2_with fail
  refine C.out.mono ?_
  rintro e w1 ⟨v, rfl, hS⟩
  have HZ1 := Lib.hid (HZ.out.later hS.below)
  have HB1 := Lib.hid (chain2 HB.out hS.below)
  obtain ⟨g', c, rfl, hr⟩ := last_range hS
  have HR := Lib.hid hr
  clear hr hS C HZ HB
  generalize X.length = n at hlen HR
  have t0 : decide ((n : Int) + 1 = 0) = false := decide_eq_false (by omega)
  have t1 : ((n : Int) + 1 == 0) = false := by simp; omega
  have HE := Lib.hid (HZ1.out.set x)
  have HB2 := Lib.hid (below_setCells HB1.out w.heap.size (Nat.le_refl _) x.cells.toArray.toList 0 _ HB1.out)
  have HI := Lib.hid (e_info x)
  go_wp2_with (first
    | (refine wpList_load_mid rfl 47 (.tmp 25) rfl g' (n * 5) rfl x.cells _ HR.out Tryd.underlying47 rfl HI.out ?_)
    | (refine wpList_store_mid rfl 47 (.tmp 2) (.tmp 26) rfl w.heap.size 0 x.cells.toArray rfl rfl HZ1.out.room (e_infoA x) (e_all x) ?_; generalize World.setCells _ _ _ _ = W3 at HE HB2 ⊢))
  refine bodyPost_ret (results_cell3 rfl _ _ rfl HE.out.cells Tryd.underlying47 rfl (e_info _)) rfl ?_
  exact ⟨rfl, HB2.out⟩

theorem last_on (F : Nat → Prop) (g : Nat) (S : DS) (w : World) (hD : DiskAt w F g S) (hon : S.on = true) (hc : S.c ≤ 2 ^ 40) (HK : HasK w) :
    Calls Tryd.prog 31 #[.pointer (some ⟨g, 0, none⟩)] w fun x w' => x = .returned (.tuple #[.agg ((lastE S).getD Ent.zero).cells.toArray, .bool (lastE S).isSome, .int .i64 0]) ∧ Below w.heap.size w w' := by
  rcases Classical.em (scan S.read 8 = []) with hl | hl
  · have e : lastE S = none := by unfold lastE; rw [hl]; rfl
    rw [e]
    exact last_none F g S w hD hon hc HK hl
  · obtain ⟨X, x, hX⟩ := list_snoc hl
    have e : lastE S = some x := by unfold lastE; rw [hX]; simp
    rw [e]
    exact last_some F g S w hD hon hc HK X x hX

theorem last_no (p : Option Addr) (w : World) (h : NoDisk w p) (hp : ∀ a, p = some a → a.block < w.heap.size) :
    Calls Tryd.prog 31 #[.pointer p] w fun x w' => x = .returned (.tuple #[.agg Ent.zero.cells.toArray, .bool false, .int .i64 16]) ∧ Below w.heap.size w w' :=
  last_err p 16 (.inr rfl) w (fun W hb => scan_no p W (h.below hb hp))

theorem last_any (F : Nat → Prop) (g : Nat) (S : DS) (w : World) (hD : DiskAt w F g S) (hc : S.c ≤ 2 ^ 40) (HK : HasK w) :
    Calls Tryd.prog 31 #[.pointer (some ⟨g, 0, none⟩)] w fun x w' => x = .returned (.tuple #[.agg (DS.last S).1.cells.toArray, .bool (DS.last S).2.1, .int .i64 (DS.last S).2.2]) ∧ Below w.heap.size w w' := by
  unfold DS.last
  by_cases hon : S.on = false
  · rw [if_pos hon]
    exact last_err _ 7 (.inl rfl) w (fun W hb => scan_off F g S W (hD.below hb) hon)
  · rw [if_neg hon]
    have hon' : S.on = true := by cases e : S.on; exact absurd e hon; rfl
    exact last_on F g S w hD hon' hc HK

end Go.Proofs.YtkplmaaeggnbgaaDoor.Rg
