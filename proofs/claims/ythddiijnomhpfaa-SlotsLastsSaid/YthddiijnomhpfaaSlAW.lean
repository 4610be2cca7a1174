/- The walk of SlotsApart: it returns true. No condition but those that each states. -/
import Derived.Test.YthddiijnomhpfaaSlK
import Derived.Test.YthddiijnomhpfaaSlM
import Derived.Test.YthddiijnomhpfaaDkRg
namespace Go.Proofs.Ythddiijnomhpfaa.Sl
open Go.RowKit Dk

/-- What a Write does that is within the slot of a disk that no failure is planned for. -/
structure SwOk (S T : DS) (slot : Int) (s : ByteArray) : Prop where
  err : (DS.sw S slot s).2 = 0
  eq : (DS.sw S slot s).1 = T
  ok : T.Ok
  len : T.L.length = S.L.length
  on : T.on = true
  wait : T.W = []
  next : T.next = none
  few : T.c ≤ S.c + 252 ∧ T.ops ≤ S.ops + 253
  read : ∀ i, T.read i = if first S slot ≤ i ∧ i < first S slot + nb s.size then blkOf s.data.toList (i - first S slot) else S.read i

theorem swOk {S : DS} (hS : S.Ok) (hon : S.on = true) (hx : S.next = none) {slot : Int} (hb : badSlot slot = false) {s : ByteArray} (hf : s.size ≤ 64 * each S) : SwOk S (DS.sw S slot s).1 slot s := by
  have hsw := sw_none hS hon hx hb hf
  obtain ⟨s1, s2, s3⟩ := sw_ok hS hon hb hf
  obtain ⟨s4, s5, s6, s7⟩ := s3.resolve_right (fun e => by rw [hsw.1] at e; cases e.1)
  exact ⟨hsw.1, rfl, s1, s2, s5, s6, hsw.2.1, sw_few S slot s hS, s7⟩

theorem each_of_len {S T : DS} (h : T.L.length = S.L.length) : each T = each S := by unfold each; rw [h]
theorem first_of_len {S T : DS} (h : T.L.length = S.L.length) (slot : Int) : first T slot = first S slot := by unfold first; rw [each_of_len h]

variable {w0 : World} {F : Nat → Prop} {g : Nat} {S T : DS}

theorem dk_swOk {slot : Int} {s : ByteArray} (h : SwOk S T slot s) (w : World) (hD : Dk w0 w F g S) (hc : S.c + 1000 ≤ 2 ^ 40) (ho : S.ops + 1000 ≤ 2 ^ 40) :
    Calls Try.prog 19 #[.pointer (some ⟨g, 0, none⟩), .int .i64 slot, .string s] w fun e w' => e = .returned (.int .i64 0) ∧ Dk w0 w' F g T :=
  (dk_sw slot s w hD hc ho).mono fun _ _ ⟨a, b, _⟩ => ⟨by rw [h.err] at a; exact a, by rw [h.eq] at b; exact b⟩

theorem dk_srOk {slot : Int} {s : ByteArray} (h : DS.sr T slot (s.size : Int) = (s, 0)) (w : World) (hD : Dk w0 w F g T) (hc : T.c ≤ 2 ^ 40) :
    Calls Try.prog 22 #[.pointer (some ⟨g, 0, none⟩), .int .i64 slot, .int .i64 (s.size : Int)] w fun e w' => e = .returned (.tuple #[.string s, .int .i64 0]) ∧ Dk w0 w' F g T :=
  (dk_sr slot _ w hD hc).mono fun _ _ ⟨a, b, _⟩ => ⟨by rw [h] at a; exact a, b⟩

theorem new40_each : each (new 40) = 16 := by kernel_rfl

set_option maxHeartbeats 2000000 in
set_option maxRecDepth 100000 in
theorem slotsApart_long (a b c : ByteArray) (w : World) (h : ¬(a.size ≤ 1000 ∧ b.size ≤ 1000 ∧ c.size ≤ 1000)) :
    Calls Try.prog 7 #[.string a, .string b, .string c] w fun e w' => e = .returned (.bool true) ∧ Below w.heap.size w w' := by
  have CN := Lib.hid (new_dk 40 (by decide) (by decide) w)
  by_cases h1 : (1000 : Int) < (a.size : Int)
  · have t1 : decide ((1000 : Int) < (a.size : Int)) = true := decide_eq_true h1
    go_enter Try.func7, Try.ntmps7
    go_wp2_with fail
    refine CN.out.mono ?_
    rintro e w1 ⟨rfl, hb⟩
    have H1 := Lib.hid hb
    clear hb
    go_wp2_with fail
    refine (known6 w1).mono ?_
    rintro e w2 ⟨rfl, hb⟩
    have H2 := Lib.hid (chain2 H1.out.below hb)
    clear hb
    go_wp2
    go_ret
    exact ⟨rfl, H2.out⟩
  · have t1 : decide ((1000 : Int) < (a.size : Int)) = false := decide_eq_false h1
    by_cases h2 : (1000 : Int) < (b.size : Int)
    · have t2 : decide ((1000 : Int) < (b.size : Int)) = true := decide_eq_true h2
      go_enter Try.func7, Try.ntmps7
      go_wp2_with fail
      refine CN.out.mono ?_
      rintro e w1 ⟨rfl, hb⟩
      have H1 := Lib.hid hb
      clear hb
      go_wp2_with fail
      refine (known6 w1).mono ?_
      rintro e w2 ⟨rfl, hb⟩
      have H2 := Lib.hid (chain2 H1.out.below hb)
      clear hb
      go_wp2
      go_ret
      exact ⟨rfl, H2.out⟩
    · have t2 : decide ((1000 : Int) < (b.size : Int)) = false := decide_eq_false h2
      have t3 : decide ((1000 : Int) < (c.size : Int)) = true := decide_eq_true (by omega)
      go_enter Try.func7, Try.ntmps7
      go_wp2_with fail
      refine CN.out.mono ?_
      rintro e w1 ⟨rfl, hb⟩
      have H1 := Lib.hid hb
      clear hb
      go_wp2_with fail
      refine (known6 w1).mono ?_
      rintro e w2 ⟨rfl, hb⟩
      have H2 := Lib.hid (chain2 H1.out.below hb)
      clear hb
      go_wp2
      go_ret
      exact ⟨rfl, H2.out⟩

theorem dk_rd (i : Nat) (w : World) (hD : Dk w0 w F g T) (hon : T.on = true) (hi : i < T.L.length) (hc : T.c ≤ 2 ^ 40) {b : Bytes} (hb : T.read i = b) :
    Calls Try.prog 16 #[.pointer (some ⟨g, 0, none⟩), .int .i64 (i : Int)] w fun e w' => e = .returned (.tuple #[.string (strOf b), .int .i64 0]) ∧ Dk w0 w' F g T := by
  subst hb
  exact (dk_read i w hD hon hi hc).mono fun _ _ ⟨a, b, _⟩ => ⟨a, b⟩

set_option maxHeartbeats 2000000 in
set_option maxRecDepth 100000 in
theorem slotsApart_short (a b c : ByteArray) (w : World) (ha : a.size ≤ 1000) (hb : b.size ≤ 1000) (hc : c.size ≤ 1000) :
    Calls Try.prog 7 #[.string a, .string b, .string c] w fun e w' => e = .returned (.bool true) ∧ Below w.heap.size w w' := by
  have CN := Lib.hid (new_dk 40 (by decide) (by decide) w)
  have t1 : decide ((1000 : Int) < (a.size : Int)) = false := decide_eq_false (by omega)
  have t2 : decide ((1000 : Int) < (b.size : Int)) = false := decide_eq_false (by omega)
  have t3 : decide ((1000 : Int) < (c.size : Int)) = false := decide_eq_false (by omega)
  have c0 : (new 40).c = 0 := rfl
  have o0 : (new 40).ops = 0 := rfl
  have f0 : first (new 40) 0 = 8 := by kernel_rfl
  have f1 : first (new 40) 1 = 24 := by kernel_rfl
  have l0 : (new 40).L.length = 40 := by simp [new]
  have O1 := swOk (new_ok (n := 40) (by decide) (by decide)) rfl rfl (slot := 0) rfl (s := a) (by rw [new40_each]; omega)
  generalize (DS.sw (new 40) 0 a).1 = T1 at O1
  have e1 := each_of_len O1.len
  have O2 := swOk O1.ok O1.on O1.next (slot := 1) rfl (s := b) (by rw [e1, new40_each]; omega)
  generalize (DS.sw T1 1 b).1 = T2 at O2
  have e2 := each_of_len O2.len
  have O3 := swOk O2.ok O2.on O2.next (slot := 0) rfl (s := c) (by rw [e2, e1, new40_each]; omega)
  generalize (DS.sw T2 0 c).1 = T3 at O3
  have e3 := each_of_len O3.len
  have m1 := O1.few
  have m2 := O2.few
  have m3 := O3.few
  have F3 : ∀ slot, first T3 slot = first (new 40) slot := fun slot => by rw [first_of_len O3.len, first_of_len O2.len, first_of_len O1.len]
  have nc : nb c.size ≤ 16 := nb_le (by omega)
  have nb' : nb b.size ≤ 16 := nb_le (by omega)
  have r3 := O3.read
  have r2 := O2.read
  have r1 := O1.read
  rw [first_of_len O2.len, first_of_len O1.len, f0] at r3
  rw [first_of_len O1.len, f1] at r2
  rw [f0] at r1
  have x1 : DS.sr T3 0 (c.size : Int) = (c, 0) := sr_text O3.on rfl (by rw [e3, e2, e1, new40_each]; omega) (fun j hj => by rw [F3, f0, r3, if_pos (by omega)]; congr 1; omega)
  have x2 : DS.sr T3 1 (b.size : Int) = (b, 0) := sr_text O3.on rfl (by rw [e3, e2, e1, new40_each]; omega) (fun j hj => by rw [F3, f1, r3, if_neg (by omega), r2, if_pos (by omega)]; congr 1; omega)
  have x3 : ∀ i, i < 8 → T3.read i = zeroB := fun i hi => by
    rw [r3, if_neg (by omega), r2, if_neg (by omega), r1, if_neg (by omega)]
    exact bAt_rep 40 zeroB (by omega)
  have l3 : T3.L.length = 40 := by rw [O3.len, O2.len, O1.len, l0]
  have C1 : Hid (∀ W, Dk w W (fun k => w.heap.size ≤ k) (w.heap.size + 2) (new 40) → Calls Try.prog 19 #[.pointer (some ⟨w.heap.size + 2, 0, none⟩), .int .i64 0, .string a] W fun e w' => e = .returned (.int .i64 0) ∧ Dk w w' (fun k => w.heap.size ≤ k) (w.heap.size + 2) T1) := Lib.hid (fun W h => dk_swOk O1 W h (by omega) (by omega))
  have C2 : Hid (∀ W, Dk w W (fun k => w.heap.size ≤ k) (w.heap.size + 2) T1 → Calls Try.prog 19 #[.pointer (some ⟨w.heap.size + 2, 0, none⟩), .int .i64 1, .string b] W fun e w' => e = .returned (.int .i64 0) ∧ Dk w w' (fun k => w.heap.size ≤ k) (w.heap.size + 2) T2) := Lib.hid (fun W h => dk_swOk O2 W h (by omega) (by omega))
  have C3 : Hid (∀ W, Dk w W (fun k => w.heap.size ≤ k) (w.heap.size + 2) T2 → Calls Try.prog 19 #[.pointer (some ⟨w.heap.size + 2, 0, none⟩), .int .i64 0, .string c] W fun e w' => e = .returned (.int .i64 0) ∧ Dk w w' (fun k => w.heap.size ≤ k) (w.heap.size + 2) T3) := Lib.hid (fun W h => dk_swOk O3 W h (by omega) (by omega))
  have C4 : Hid (∀ W, Dk w W (fun k => w.heap.size ≤ k) (w.heap.size + 2) T3 → Calls Try.prog 22 #[.pointer (some ⟨w.heap.size + 2, 0, none⟩), .int .i64 0, .int .i64 (c.size : Int)] W fun e w' => e = .returned (.tuple #[.string c, .int .i64 0]) ∧ Dk w w' (fun k => w.heap.size ≤ k) (w.heap.size + 2) T3) := Lib.hid (fun W h => dk_srOk x1 W h (by omega))
  have C5 : Hid (∀ W, Dk w W (fun k => w.heap.size ≤ k) (w.heap.size + 2) T3 → Calls Try.prog 22 #[.pointer (some ⟨w.heap.size + 2, 0, none⟩), .int .i64 1, .int .i64 (b.size : Int)] W fun e w' => e = .returned (.tuple #[.string b, .int .i64 0]) ∧ Dk w w' (fun k => w.heap.size ≤ k) (w.heap.size + 2) T3) := Lib.hid (fun W h => dk_srOk x2 W h (by omega))
  have C6 : Hid (∀ (i : Nat) W, i < 8 → Dk w W (fun k => w.heap.size ≤ k) (w.heap.size + 2) T3 → Calls Try.prog 16 #[.pointer (some ⟨w.heap.size + 2, 0, none⟩), .int .i64 (i : Int)] W fun e w' => e = .returned (.tuple #[.string (strOf zeroB), .int .i64 0]) ∧ Dk w w' (fun k => w.heap.size ≤ k) (w.heap.size + 2) T3) := Lib.hid (fun i W hi h => dk_rd i W h O3.on (by omega) (by omega) (x3 i hi))
  have C7 : Hid (∀ W, Calls Try.prog 24 #[] W fun e w' => e = .returned (.string (strOf zeroB)) ∧ Below W.heap.size W w') := Lib.hid ref_zero
  generalize strOf zeroB = Z at *
  clear c0 o0 f0 f1 l0 O1 e1 O2 e2 O3 e3 m1 m2 m3 F3 nc nb' r1 r2 r3 x1 x2 x3 l3 ha hb hc
  generalize new 40 = T0 at *
  go_enter Try.func7, Try.ntmps7
  go_wp2_with fail
  refine CN.out.mono ?_
  rintro e w1 ⟨rfl, hb⟩
  have H1 := Lib.hid hb
  clear hb
  go_wp2_with fail
  refine (C1.out w1 H1.out).mono ?_
  rintro e w2 ⟨rfl, hb⟩
  have H2 := Lib.hid hb
  clear hb H1
  go_wp2_with fail
  refine (C2.out w2 H2.out).mono ?_
  rintro e w3 ⟨rfl, hb⟩
  have H3 := Lib.hid hb
  clear hb H2
  go_wp2_with fail
  refine (C3.out w3 H3.out).mono ?_
  rintro e w4 ⟨rfl, hb⟩
  have H4 := Lib.hid hb
  clear hb H3
  go_wp2_with fail
  refine (C4.out w4 H4.out).mono ?_
  rintro e w5 ⟨rfl, hb⟩
  have H5 := Lib.hid hb
  clear hb H4
  go_wp2_with fail
  refine (C5.out w5 H5.out).mono ?_
  rintro e w6 ⟨rfl, hb⟩
  have H6 := Lib.hid hb
  clear hb H5 C1 C2 C3 C4 C5 CN
  go_wp2
  go_loopw [13] (fun vi wr => ∃ j : Nat, j ≤ 8 ∧ vi = .int .i64 j ∧ Hid (Dk w wr (fun k => w.heap.size ≤ k) (w.heap.size + 2) T3)) (fun vi _ => 8 - (intOf vi).toNat)
  case atStart => exact ⟨0, Nat.zero_le _, rfl, H6⟩
  case round =>
    clear H6
    obtain ⟨j, hj, rfl, hI⟩ := hrel
    have z0 : (0 : Int) ≤ (j : Int) := by omega
    by_cases hlt : j < 8
    · have z1 : (j : Int) < 8 := by omega
      go_wp2_with fail
      refine (C6.out j wr hlt hI.out).mono ?_
      rintro e w7 ⟨rfl, hb⟩
      have H7 := Lib.hid hb
      clear hb hI
      go_wp2_with fail
      refine (C7.out w7).mono ?_
      rintro e w8 ⟨rfl, hb⟩
      have H8 := Lib.hid (H7.out.later hb)
      clear hb H7
      go_wp2
      go_roundw
      case rel => exact ⟨j + 1, by omega, by go_num, H8⟩
      case measure => simp [intOf]; omega
    · obtain rfl : j = 8 := by omega
      go_wp2_with fail
      refine (known6 _).mono ?_
      rintro e w9 ⟨rfl, hb⟩
      have H9 := Lib.hid (chain2 hI.out.below hb)
      clear hb hI
      go_wp2
      go_ret
      exact ⟨rfl, H9.out⟩

theorem slotsApart_law (a : ByteArray) (_ha : a.size ≤ maxLen) (b : ByteArray) (_hb : b.size ≤ maxLen) (c : ByteArray) (_hc : c.size ≤ maxLen) (w : World) :
    Calls Try.prog 7 #[.string a, .string b, .string c] w fun e w' => e = .returned (.bool true) ∧ Below w.heap.size w w' := by
  by_cases h : a.size ≤ 1000 ∧ b.size ≤ 1000 ∧ c.size ≤ 1000
  · exact slotsApart_short a b c w h.1 h.2.1 h.2.2
  · exact slotsApart_long a b c w h

end Go.Proofs.Ythddiijnomhpfaa.Sl
