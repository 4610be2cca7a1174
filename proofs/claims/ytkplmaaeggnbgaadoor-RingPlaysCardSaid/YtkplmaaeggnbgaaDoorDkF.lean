/- The walks of Write, Sync, Cut, Fail and Start: their contracts. No condition but those that each states. -/
import Derived.Test.YtkplmaaeggnbgaaDoorDkE
namespace Go.Proofs.YtkplmaaeggnbgaaDoor.Dk
open Go.RowKit

/-- F, and all that is new. -/
def More (F : Nat → Prop) (w : World) : Nat → Prop := fun k => F k ∨ w.heap.size ≤ k

theorem add_any (F : Nat → Prop) (g i : Nat) (s : Bytes) (S : DS) (w : World) (hD : DiskAt w F g S) (hi : i < S.L.length) (hs : s.length = 64) (hc : S.c ≤ 2 ^ 40) :
    Calls Tryd.prog 58 #[.pointer (some ⟨g, 0, none⟩), .int .i64 (i : Int), .string (strOf s)] w fun e w' => e = .returned (.tuple #[]) ∧ DiskAt w' (More F w) g (S.put i s) ∧ Only F w w' := by
  obtain ⟨gd, cd, gm, vp, D, hD, h1, h2, h3, h4⟩ := hD
  exact (add_in g gd cd gm vp S D i s w hD hi hs hc).mono fun _ _ ⟨a, b, c⟩ => ⟨a, b.mono (fun k h => by
    rcases h with rfl | rfl | rfl | h | h
    · exact .inl h1
    · exact .inl h2
    · exact .inl h3
    · exact .inl (h4 _ h)
    · exact .inr h), c.mono (fun k h => by
    rcases h with rfl | rfl | rfl | h
    · exact h1
    · exact h2
    · exact h3
    · exact h4 _ h)⟩

set_option maxHeartbeats 1000000 in
set_option maxRecDepth 100000 in
theorem write_no (p : Option Addr) (i : Int) (s : ByteArray) (w : World) (h : NoDisk w p) :
    Calls Tryd.prog 20 #[.pointer p, .int .i64 i, .string s] w fun e w' => e = .returned (.int .i64 16) ∧ w = w' := by
  go_enter Tryd.func20, Tryd.ntmps20
  go_wp2_with (go_at_call 56; refine (access_no _ _ h).mono ?_; rintro e w' ⟨rfl, rfl⟩)
  go_ret
  exact ⟨rfl, rfl⟩

set_option maxHeartbeats 1000000 in
set_option maxRecDepth 100000 in
theorem write_off (F : Nat → Prop) (g : Nat) (S : DS) (i : Int) (s : ByteArray) (w : World) (hD : DiskAt w F g S) (hon : S.on = false) :
    Calls Tryd.prog 20 #[.pointer (some ⟨g, 0, none⟩), .int .i64 i, .string s] w fun e w' => e = .returned (.int .i64 7) ∧ w = w' := by
  have hs := hD.self
  have ho := hD.on
  rw [hon] at ho
  have C := access_yes g false w hs ho
  rw [show accErr false = 7 from rfl] at C
  have c := Lib.hid C
  clear hD hon hs ho C
  go_enter Tryd.func20, Tryd.ntmps20
  go_wp2_with (go_at_call 56; refine c.out.mono ?_; rintro e w' ⟨rfl, rfl⟩)
  go_ret
  exact ⟨rfl, rfl⟩

theorem DiskAt.dur {w : World} {F : Nat → Prop} {g : Nat} {S : DS} (h : DiskAt w F g S) : ∃ a c, w.cell? ⟨g, 2, none⟩ = some (.slice a S.L.length c) := by
  obtain ⟨gd, cd, gm, vp, D, hD, _⟩ := h; exact ⟨_, _, hD.dur⟩
theorem DiskAt.pend {w : World} {F : Nat → Prop} {g : Nat} {S : DS} (h : DiskAt w F g S) : ∃ a c, w.cell? ⟨g, 3, none⟩ = some (.slice a S.W.length c) := by
  obtain ⟨gd, cd, gm, vp, D, hD, _⟩ := h
  have hp := hD.pend
  rcases hD.row.2 with ⟨h, h0⟩ | ⟨g0, c0, cur, h, _⟩
  · exact ⟨none, 0, by rw [hp, h, h0]⟩
  · exact ⟨_, _, by rw [hp, h]⟩

set_option maxHeartbeats 1000000 in
set_option maxRecDepth 100000 in
theorem write_bad (F : Nat → Prop) (g : Nat) (S : DS) (i : Int) (s : ByteArray) (w : World) (hD : DiskAt w F g S) (hon : S.on = true) (hb : hasB i S.L.length = false ∨ s.size ≠ 64) :
    Calls Tryd.prog 20 #[.pointer (some ⟨g, 0, none⟩), .int .i64 i, .string s] w fun e w' => e = .returned (.int .i64 1) ∧ w = w' := by
  have hs := hD.self
  have ho := hD.on
  rw [hon] at ho
  have C := access_yes g true w hs ho
  rw [show accErr true = 0 from rfl] at C
  have c := Lib.hid C
  obtain ⟨pa, pc, hd⟩ := hD.dur
  have C2 := has_any g S.L.length pc i pa w hd
  clear hD hon hs ho C hd
  cases hh : hasB i S.L.length with
  | false =>
    rw [hh] at C2
    have c2 := Lib.hid C2
    clear C2 hb hh
    go_enter Tryd.func20, Tryd.ntmps20
    go_wp2_with (first
      | (go_at_call 56; refine c.out.mono ?_; rintro e w' ⟨rfl, rfl⟩)
      | (go_at_call 57; refine c2.out.mono ?_; rintro e w' ⟨rfl, rfl⟩))
    go_ret
    exact ⟨rfl, rfl⟩
  | true =>
    have hz : s.size ≠ 64 := hb.elim (fun h => by rw [hh] at h; cases h) id
    have t1 : ((s.size : Int) != 64) = true := by rw [bne_iff_ne]; omega
    rw [hh] at C2
    have c2 := Lib.hid C2
    clear C2 hb hh hz
    go_enter Tryd.func20, Tryd.ntmps20
    go_wp2_with (first
      | (go_at_call 56; refine c.out.mono ?_; rintro e w' ⟨rfl, rfl⟩)
      | (go_at_call 57; refine c2.out.mono ?_; rintro e w' ⟨rfl, rfl⟩))
    go_ret
    exact ⟨rfl, rfl⟩

set_option maxHeartbeats 1000000 in
set_option maxRecDepth 100000 in
theorem write_ok (F : Nat → Prop) (g : Nat) (S : DS) (i : Nat) (s : Bytes) (w : World) (hD : DiskAt w F g S) (hon : S.on = true) (hi : i < S.L.length) (hl : s.length = 64) (hc : S.c < 2 ^ 40) (hops : S.ops ≤ 2 ^ 40) :
    Calls Tryd.prog 20 #[.pointer (some ⟨g, 0, none⟩), .int .i64 (i : Int), .string (strOf s)] w fun e w' => e = .returned (.int .i64 (errOf (S.write i s).2)) ∧ DiskAt w' (More F w) g (S.write i s).1 ∧ Only F w w' := by
  have HD := Lib.hid hD
  have hs := hD.self
  have ho := hD.on
  rw [hon] at ho
  have C := access_yes g true w hs ho
  rw [show accErr true = 0 from rfl] at C
  have c := Lib.hid C
  obtain ⟨pa, pc, hd⟩ := hD.dur
  have C2 := has_any g S.L.length pc i pa w hd
  rw [show hasB i S.L.length = true from decide_eq_true ⟨by omega, by omega⟩] at C2
  have c2 := Lib.hid C2
  have t1 : (((strOf s).size : Int) != 64) = false := by rw [strOf_size, hl]; rfl
  clear hD hon hs ho C hd C2
  go_enter Tryd.func20, Tryd.ntmps20
  go_wp2_with (first
    | (go_at_call 56; refine c.out.mono ?_; rintro e w' ⟨rfl, rfl⟩)
    | (go_at_call 57; refine c2.out.mono ?_; rintro e w' ⟨rfl, rfl⟩)
    | (go_at_call 58; refine (add_any F g i s S w HD.out hi hl (Nat.le_of_lt hc)).mono ?_; rintro e w1 ⟨rfl, h1, o1⟩; have H1 := Lib.hid h1; have O1 := Lib.hid o1; clear h1 o1)
    | (go_at_call 59; refine (op_any (More F w) g (S.put i s) w1 H1.out hops hc).mono ?_; rintro e w2 ⟨rfl, h2, o2⟩; have H2 := Lib.hid h2; have O2 := Lib.hid (O1.out.trans o2 (fun k hk h => h.elim id (fun h => absurd h (by omega)))); clear h2 o2))
  go_ret
  exact ⟨rfl, H2.out, O2.out⟩

set_option maxHeartbeats 1000000 in
set_option maxRecDepth 100000 in
theorem sync_no (p : Option Addr) (w : World) (h : NoDisk w p) :
    Calls Tryd.prog 22 #[.pointer p] w fun e w' => e = .returned (.int .i64 16) ∧ w = w' := by
  go_enter Tryd.func22, Tryd.ntmps22
  go_wp2_with (go_at_call 56; refine (access_no _ _ h).mono ?_; rintro e w' ⟨rfl, rfl⟩)
  go_ret
  exact ⟨rfl, rfl⟩

set_option maxHeartbeats 1000000 in
set_option maxRecDepth 100000 in
theorem sync_off (F : Nat → Prop) (g : Nat) (S : DS) (w : World) (hD : DiskAt w F g S) (hon : S.on = false) :
    Calls Tryd.prog 22 #[.pointer (some ⟨g, 0, none⟩)] w fun e w' => e = .returned (.int .i64 7) ∧ w = w' := by
  have hs := hD.self
  have ho := hD.on
  rw [hon] at ho
  have C := access_yes g false w hs ho
  rw [show accErr false = 7 from rfl] at C
  have c := Lib.hid C
  clear hD hon hs ho C
  go_enter Tryd.func22, Tryd.ntmps22
  go_wp2_with (go_at_call 56; refine c.out.mono ?_; rintro e w' ⟨rfl, rfl⟩)
  go_ret
  exact ⟨rfl, rfl⟩

set_option maxHeartbeats 1000000 in
set_option maxRecDepth 100000 in
theorem sync_ok (F : Nat → Prop) (g : Nat) (S : DS) (w : World) (hD : DiskAt w F g S) (hon : S.on = true) (hc : S.c ≤ 2 ^ 40) (hops : S.ops ≤ 2 ^ 40) :
    Calls Tryd.prog 22 #[.pointer (some ⟨g, 0, none⟩)] w fun e w' => e = .returned (.int .i64 (errOf S.sync.2)) ∧ DiskAt w' F g S.sync.1 ∧ Only F w w' := by
  have HD := Lib.hid hD
  have hs := hD.self
  have ho := hD.on
  rw [hon] at ho
  have C := access_yes g true w hs ho
  rw [show accErr true = 0 from rfl] at C
  have c := Lib.hid C
  have C2 := op_any F g S w hD hops hc
  clear hD hon hs ho C
  cases hb : S.step.2 with
  | false =>
    have e1 : S.sync = S.step := by unfold DS.sync; rw [hb]; rfl
    rw [hb, show errOf false = 7 from rfl] at C2
    rw [e1, hb, show errOf false = 7 from rfl]
    have c2 := Lib.hid C2
    clear C2 e1 hb
    go_enter Tryd.func22, Tryd.ntmps22
    go_wp2_with (first
      | (go_at_call 56; refine c.out.mono ?_; rintro e w' ⟨rfl, rfl⟩)
      | (go_at_call 59; refine c2.out.mono ?_; rintro e w1 ⟨rfl, h1, o1⟩; have H1 := Lib.hid h1; have O1 := Lib.hid o1; clear h1 o1))
    go_ret
    exact ⟨rfl, H1.out, O1.out⟩
  | true =>
    have e1 : S.sync = (S.step.1.settled allM, true) := by unfold DS.sync; rw [hb]; rfl
    have hcs : S.step.1.c = S.c := by
      unfold DS.step
      cases S.next with
      | none => rfl
      | some q => obtain ⟨k, m⟩ := q; cases k <;> rfl
    rw [hb, show errOf true = 0 from rfl] at C2
    rw [e1, show errOf true = 0 from rfl]
    have c2 := Lib.hid C2
    have CS := fun w' (h : DiskAt w' F g S.step.1) => settle_any F g S.step.1 allM w' h (by decide) (by rw [hcs]; exact hc)
    have cs := Lib.hid CS
    clear C2 e1 hb CS hcs
    generalize S.step.1 = T at *
    go_enter Tryd.func22, Tryd.ntmps22
    go_wp2_with (first
      | (go_at_call 56; refine c.out.mono ?_; rintro e w' ⟨rfl, rfl⟩)
      | (go_at_call 59; refine c2.out.mono ?_; rintro e w1 ⟨rfl, h1, o1⟩; have H1 := Lib.hid h1; have O1 := Lib.hid o1; clear h1 o1)
      | (go_at_call 61; refine (cs.out w1 H1.out).mono ?_; rintro e w2 ⟨rfl, h2, o2⟩; have H2 := Lib.hid h2; have O2 := Lib.hid (O1.out.trans o2 (fun _ _ h => h)); clear h2 o2))
    go_ret
    exact ⟨rfl, H2.out, O2.out⟩

set_option maxHeartbeats 1000000 in
set_option maxRecDepth 100000 in
theorem cut_no (p : Option Addr) (k m : Int) (w : World) (h : NoDisk w p) :
    Calls Tryd.prog 24 #[.pointer p, .int .i64 k, .int .u64 m] w fun e w' => e = .returned (.int .i64 16) ∧ w = w' := by
  go_enter Tryd.func24, Tryd.ntmps24
  go_wp2_with (go_at_call 63; refine (isValid_no _ _ h).mono ?_; rintro e w' ⟨rfl, rfl⟩)
  go_ret
  exact ⟨rfl, rfl⟩

set_option maxHeartbeats 1000000 in
set_option maxRecDepth 100000 in
theorem cut_bad (F : Nat → Prop) (g : Nat) (S : DS) (k m : Int) (w : World) (hD : DiskAt w F g S) (hk : k < 0) :
    Calls Tryd.prog 24 #[.pointer (some ⟨g, 0, none⟩), .int .i64 k, .int .u64 m] w fun e w' => e = .returned (.int .i64 1) ∧ w = w' := by
  have hs := Lib.hid hD.self
  have t1 : decide (k < 0) = true := decide_eq_true hk
  clear hD
  go_enter Tryd.func24, Tryd.ntmps24
  go_wp2_with (go_at_call 63; refine (isValid_yes _ _ hs.out).mono ?_; rintro e w' ⟨rfl, rfl⟩)
  go_ret
  exact ⟨rfl, rfl⟩

set_option maxHeartbeats 1000000 in
set_option maxRecDepth 100000 in
theorem cut_ok (F : Nat → Prop) (g : Nat) (S : DS) (k m : Nat) (w : World) (hD : DiskAt w F g S) (hk : k < 2 ^ 63) (hm : m < 2 ^ 64) :
    Calls Tryd.prog 24 #[.pointer (some ⟨g, 0, none⟩), .int .i64 (k : Int), .int .u64 (m : Int)] w fun e w' => e = .returned (.int .i64 0) ∧ DiskAt w' F g (S.plan k m) ∧ Only F w w' := by
  have hs := Lib.hid hD.self
  have t1 : decide ((k : Int) < 0) = false := decide_eq_false (by omega)
  have f6 := hD.free 6 (by decide)
  have f7 := hD.free 7 (by decide)
  have f8 := hD.free 8 (by decide)
  have hp := hD.plan
  obtain ⟨v6, c6⟩ := some_cell hD.room (show 6 < 9 by decide)
  obtain ⟨v7, c7⟩ := some_cell hD.room (show 7 < 9 by decide)
  obtain ⟨v8, c8⟩ := some_cell hD.room (show 8 < 9 by decide)
  have H2 := Lib.hid (hD.setPlan (T := S.plan k m) (.bool true) (.int .i64 (k : Int)) (.int .u64 (m : Int)) rfl rfl rfl rfl rfl rfl (hD.ok.plan hk hm))
  have O2 := Lib.hid ((((Only.refl F w).set hD.in_F 6 (.bool true)).set hD.in_F 7 (.int .i64 (k : Int))).set hD.in_F 8 (.int .u64 (m : Int)))
  clear hD hp
  go_enter Tryd.func24, Tryd.ntmps24
  go_wp2_with (go_at_call 63; refine (isValid_yes _ _ hs.out).mono ?_; rintro e w' ⟨rfl, rfl⟩)
  go_ret
  exact ⟨rfl, H2.out, O2.out⟩

set_option maxHeartbeats 1000000 in
set_option maxRecDepth 100000 in
theorem fail_no (p : Option Addr) (m : Int) (w : World) (h : NoDisk w p) :
    Calls Tryd.prog 26 #[.pointer p, .int .u64 m] w fun e w' => e = .returned (.tuple #[]) ∧ w = w' := by
  go_enter Tryd.func26, Tryd.ntmps26
  go_wp2_with (go_at_call 64; refine (on_no _ _ h).mono ?_; rintro e w' ⟨rfl, rfl⟩)
  exact bodyPost_end (results_none rfl _ _ _) rfl ⟨rfl, rfl⟩

set_option maxHeartbeats 1000000 in
set_option maxRecDepth 100000 in
theorem fail_any (F : Nat → Prop) (g m : Nat) (S : DS) (w : World) (hD : DiskAt w F g S) (hm : m < 2 ^ 64) (hc : S.c ≤ 2 ^ 40) :
    Calls Tryd.prog 26 #[.pointer (some ⟨g, 0, none⟩), .int .u64 (m : Int)] w fun e w' => e = .returned (.tuple #[]) ∧ DiskAt w' F g (S.fail m) ∧ Only F w w' := by
  have HD := Lib.hid hD
  have C := on_yes g S.on w hD.self hD.on
  cases hon : S.on with
  | false =>
    rw [hon] at C
    have e1 : S.fail m = S := by unfold DS.fail; rw [hon]; rfl
    rw [e1]
    have c := Lib.hid C
    clear hD C hon e1
    go_enter Tryd.func26, Tryd.ntmps26
    go_wp2_with (go_at_call 64; refine c.out.mono ?_; rintro e w' ⟨rfl, rfl⟩)
    exact bodyPost_end (results_none rfl _ _ _) rfl ⟨rfl, HD.out, Only.refl _ _⟩
  | true =>
    rw [hon] at C
    have e1 : S.fail m = S.lose m := by unfold DS.fail; rw [hon]; rfl
    rw [e1]
    have c := Lib.hid C
    clear hD C hon e1
    go_enter Tryd.func26, Tryd.ntmps26
    go_wp2_with (first
      | (go_at_call 64; refine c.out.mono ?_; rintro e w' ⟨rfl, rfl⟩)
      | (go_at_call 65; refine (lose_any F g S m w HD.out hm hc).mono ?_; rintro e w1 ⟨rfl, h1, o1⟩; have H1 := Lib.hid h1; have O1 := Lib.hid o1; clear h1 o1))
    exact bodyPost_end (results_none rfl _ _ _) rfl ⟨rfl, H1.out, O1.out⟩

set_option maxHeartbeats 1000000 in
set_option maxRecDepth 100000 in
theorem start_no (p : Option Addr) (w : World) (h : NoDisk w p) :
    Calls Tryd.prog 28 #[.pointer p] w fun e w' => e = .returned (.tuple #[]) ∧ w = w' := by
  go_enter Tryd.func28, Tryd.ntmps28
  go_wp2_with (go_at_call 63; refine (isValid_no _ _ h).mono ?_; rintro e w' ⟨rfl, rfl⟩)
  exact bodyPost_end (results_none rfl _ _ _) rfl ⟨rfl, rfl⟩

set_option maxHeartbeats 1000000 in
set_option maxRecDepth 100000 in
theorem start_any (F : Nat → Prop) (g : Nat) (S : DS) (w : World) (hD : DiskAt w F g S) :
    Calls Tryd.prog 28 #[.pointer (some ⟨g, 0, none⟩)] w fun e w' => e = .returned (.tuple #[]) ∧ DiskAt w' F g S.start ∧ Only F w w' := by
  have hs := Lib.hid hD.self
  have c1 := hD.on
  have f1 := hD.free 1 (by decide)
  obtain ⟨h2, o2⟩ := hD.setOn true
  have H2 := Lib.hid h2
  have O2 := Lib.hid o2
  clear hD h2 o2
  go_enter Tryd.func28, Tryd.ntmps28
  go_wp2_with (go_at_call 63; refine (isValid_yes _ _ hs.out).mono ?_; rintro e w' ⟨rfl, rfl⟩)
  exact bodyPost_end (results_none rfl _ _ _) rfl ⟨rfl, H2.out, O2.out⟩

end Go.Proofs.YtkplmaaeggnbgaaDoor.Dk
