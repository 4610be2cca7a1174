/- The walk of StoreFull: it returns true. No condition but those that each states. -/
import Derived.Test.YtkplmaaeggnbgaaDoorStY
import Derived.Lib.SmallJoins
namespace Go.Proofs.YtkplmaaeggnbgaaDoor.St
open Go.RowKit Dk Rg Sl

theorem makeK (k : Nat) (hk : k ≤ 10000) (W : World) : (Instr.makeSlice 85 (.int .i64 (k : Int)) (.int .i64 (k : Int))).run Tryd.prog W = .ok (.slice (some ⟨W.heap.size, 0, none⟩) k k) (W.alloc (.cells (List.replicate k (.int .u8 0)).toArray 5)) := by
  have := run_make_row' (P := Tryd.prog) 85 5 (.int .u8 0) 1 Tryd.underlying85 Dk.Tryd.info5 rfl .i64 .i64 k (by omega) (by omega) W
  have e : madeCells #[Value.int .u8 0] k = (List.replicate k (Value.int .u8 0)).toArray := by
    apply Array.ext'
    rw [toList_madeCells_one]
  rw [e] at this
  exact this

/-- A text of bytes 0. -/
def zeros (k : Nat) : ByteArray := strOf (List.replicate k 0)
theorem zeros_size (k : Nat) : (zeros k).size = k := by unfold zeros; rw [strOf_size, List.length_replicate]

theorem convK (k : Nat) (W : World) : (convert 85 9 (.slice (some ⟨W.heap.size, 0, none⟩) k k)).run Tryd.prog (W.alloc (.cells (List.replicate k (.int .u8 0)).toArray 5)) = .ok (.string (zeros k)) (W.alloc (.cells (List.replicate k (.int .u8 0)).toArray 5)) :=
  Dk.convert_range W.heap.size 0 k k (List.replicate k 0) Tryd.underlying85 Tryd.underlying5 Tryd.underlying9 (by simp) (by simp [bv]; exact range_new _ _ _)

theorem prep_full (S : DS) (X : StS) (t : ByteArray) (h : 64 * each S < t.size) : prep S X t = (S, X.give, 6) := by
  have e : DS.sw S X.sv.other t = (S, 6) := by
    unfold DS.sw
    rw [if_neg (by rw [(other_ok X.sv).1]; decide), if_pos h]
  unfold prep
  rw [e]
  rfl

set_option maxHeartbeats 4000000 in
set_option maxRecDepth 100000 in
theorem storeFull_law (a : ByteArray) (m : Nat) (hm : m < 256) (w : World) (HK : HasK w) : Calls Tryd.prog 6 #[.string a, .int .u8 (m : Int)] w fun e w' => e = .returned (.bool true) ∧ Below w.heap.size w w' := by
  obtain ⟨f0, s0⟩ := fine_new (n := 16) (by decide) (by decide)
  obtain ⟨g, hg⟩ : ∃ g, w.heap.size + 2 = g := ⟨_, rfl⟩
  have CN : Hid (Calls Tryd.prog 14 #[.int .i64 16] w fun e w' => e = .returned (.tuple #[.pointer (some ⟨g, 0, none⟩), .int .i64 0]) ∧ Solo w w' (fun _ => False) g (new 16)) := Lib.hid (by
    rw [← hg]
    exact (new_dk 16 (by decide) (by decide) w).mono fun _ _ ⟨a, b⟩ => ⟨a, solo_new b⟩)
  have CO1 := Lib.hid (fun W (h : Solo w W (fun _ => False) g (new 16)) => open_says h HK f0 rfl s0 (by decide))
  have HHK := Lib.hid HK
  by_cases hl : 256 < a.size
  · have t0 : decide (256 < a.size) = true := decide_eq_true hl
    have t1 : decide ((256 : Int) < (a.size : Int)) = true := decide_eq_true (by omega)
    clear f0 s0 hg HK
    generalize Sv.no = q0 at *
    generalize new 16 = S0 at *
    go_enter Tryd.func6, Tryd.ntmps6
    go_wp2_with fail
    refine CN.out.mono ?_
    rintro e w1 ⟨rfl, h1⟩
    have H1 := Lib.hid h1
    clear h1 CN
    go_wp2_with fail
    refine (CO1.out w1 H1.out).mono ?_
    rintro e w2 ⟨s, rfl, h2, -, -⟩
    have H2 := Lib.hid h2
    clear h2 H1 CO1
    go_wp2_with (first
      | (go_at_call 36; refine (known7 _ (HHK.out.later H2.out.below)).mono ?_; rintro e w5 ⟨rfl, hb5⟩; have HB5 := Lib.hid (chain2 H2.out.below hb5); clear hb5 H2))
    go_ret
    exact ⟨rfl, HB5.out⟩
  · have t0 : decide (256 < a.size) = false := decide_eq_false hl
    have t1 : decide ((256 : Int) < (a.size : Int)) = false := decide_eq_false (by omega)
    have he : each (new 16) = 4 := by decide
    obtain ⟨S1, S2, a1, a2, a3, a4, a5, a6, a7⟩ := chain_st (t := a) f0 rfl rfl s0 (by rw [he]; omega) (by decide)
    have he2 : each S2 = 4 := by unfold each; rw [a4.len]; decide
    have g1 := a3.few
    have g2 := a4.few
    have hno : (new 16).c = 0 ∧ (new 16).ops = 0 := ⟨rfl, rfl⟩
    have hv : (Sv.of Sv.no.other a).view = (a, true) := view_of (by decide)
    have hfull := prep_full S2 ⟨Sv.of Sv.no.other a, none, false⟩ (zeros (257 + m)) (by rw [he2, zeros_size]; omega)
    have hts : (Sv.of Sv.no.other a).text.size = a.size := rfl
    have CP1 : Hid (∀ W s, Sto w W (fun _ => False) s g (new 16) ⟨Sv.no, none, false⟩ → Calls Tryd.prog 38 #[.pointer (some ⟨s, 0, none⟩), .string a] W fun e w' => e = .returned (.int .i64 0) ∧ Sto w w' (fun _ => False) s g S1 ⟨Sv.no, some (Sv.of Sv.no.other a), false⟩) := Lib.hid (fun W s h => by
      have := h.prep HK a (by decide) (by decide) (by decide) (by omega)
      rw [a1] at this
      exact this.mono fun _ _ ⟨a, b, _⟩ => ⟨a, b⟩)
    have CC1 : Hid (∀ W s, Sto w W (fun _ => False) s g S1 ⟨Sv.no, some (Sv.of Sv.no.other a), false⟩ → Calls Tryd.prog 40 #[.pointer (some ⟨s, 0, none⟩)] W fun e w' => e = .returned (.int .i64 0) ∧ Sto w w' (fun _ => False) s g S2 ⟨Sv.of Sv.no.other a, none, false⟩) := Lib.hid (fun W s h => by
      have := h.comm HK (by omega) (by omega) (fun r hr => by cases hr; omega)
      rw [a2] at this
      exact this.mono fun _ _ ⟨a, b, _⟩ => ⟨a, b⟩)
    have CP2 : Hid (∀ W s, Sto w W (fun _ => False) s g S2 ⟨Sv.of Sv.no.other a, none, false⟩ → Calls Tryd.prog 38 #[.pointer (some ⟨s, 0, none⟩), .string (zeros (257 + m))] W fun e w' => e = .returned (.int .i64 6) ∧ Sto w w' (fun _ => False) s g S2 ⟨Sv.of Sv.no.other a, none, false⟩) := Lib.hid (fun W s h => by
      have := h.prep HK (zeros (257 + m)) (by omega) (by omega) (by show (Sv.of Sv.no.other a).text.size ≤ _; omega) (by rw [zeros_size]; omega)
      rw [hfull] at this
      exact this.mono fun _ _ ⟨a, b, _⟩ => ⟨a, b⟩)
    have CT : Hid (∀ W s, Sto w W (fun _ => False) s g S2 ⟨Sv.of Sv.no.other a, none, false⟩ → Calls Tryd.prog 42 #[.pointer (some ⟨s, 0, none⟩)] W fun e w' => e = .returned (.tuple #[.string a, .bool true]) ∧ W = w') := Lib.hid (fun W s h => by
      have := h.text
      rwa [hv] at this)
    have CO2 := Lib.hid (fun W (h : Solo w W (fun _ => False) g S2) => open_says h HK a4 a5 a7 (by decide))
    have CW : Hid (∀ W s, Sto w W (fun _ => False) s g S2 ⟨Sv.of Sv.no.other a, none, false⟩ → Calls Tryd.prog 43 #[.pointer (some ⟨s, 0, none⟩)] W fun e w' => e = .returned (.bool false) ∧ W = w') := Lib.hid (fun W s h => h.waits)
    have CC2 : Hid (∀ W s, Sto w W (fun _ => False) s g S2 ⟨Sv.of Sv.no.other a, none, false⟩ → Calls Tryd.prog 40 #[.pointer (some ⟨s, 0, none⟩)] W fun e w' => e = .returned (.int .i64 8) ∧ Sto w w' (fun _ => False) s g S2 ⟨Sv.of Sv.no.other a, none, false⟩) := Lib.hid (fun W s h => by
      exact (h.comm HK (by omega) (by omega) (fun r hr => by cases hr)).mono fun _ _ ⟨a, b, _⟩ => ⟨a, b⟩)
    have mk := makeK (257 + m) (by omega)
    have cv := convK (257 + m)
    have ek : (((257 + m : Nat) : Int)) = 257 + (m : Int) := by omega
    rw [ek] at mk
    have y1 : (0 : Int) ≤ (m : Int) := by omega
    have y2 : (m : Int) < 256 := by omega
    clear a1 a2 a3 a4 a5 a6 a7 he he2 g1 g2 hno hv hfull hts f0 s0 hg HK ek
    generalize Sv.of Sv.no.other a = q1 at *
    generalize Sv.no = q0 at *
    generalize new 16 = S0 at *
    generalize zeros (257 + m) = Z at *
    generalize (List.replicate (257 + m) (Value.int .u8 0)).toArray = ZZ at *
    go_enter Tryd.func6, Tryd.ntmps6
    go_wp2_with fail
    refine CN.out.mono ?_
    rintro e w1 ⟨rfl, h1⟩
    have H1 := Lib.hid h1
    clear h1 CN
    go_wp2_with fail
    refine (CO1.out w1 H1.out).mono ?_
    rintro e w2 ⟨s, rfl, h2, -, -⟩
    have H2 := Lib.hid h2
    clear h2 H1 CO1
    go_wp2_with (first
      | (go_at_call 38; (with_reducible refine (CP1.out w2 _ H2.out).mono ?_); rintro e w3 ⟨rfl, h3⟩; have H3 := Lib.hid h3; clear h3 H2)
      | (go_at_call 40; (with_reducible refine (CC1.out w3 _ H3.out).mono ?_); rintro e w4 ⟨rfl, h4⟩; have H4 := Lib.hid h4
         have H5 := Lib.hid (fun o => h4.later ((Below.refl _ _).alloc (Nat.le_refl _) o)); clear h4 H3)
      | (go_at_call 38; (with_reducible refine (CP2.out _ _ (H5.out _)).mono ?_); rintro e w6 ⟨rfl, h6⟩; have H6 := Lib.hid h6; clear h6 H5 H4)
      | (go_at_call 42; (with_reducible refine (CT.out w6 _ H6.out).mono ?_); rintro e w' ⟨rfl, rfl⟩)
      | (go_at_call 35; (with_reducible refine (CO2.out w6 H6.out.solo).mono ?_); rintro e w7 ⟨s2, rfl, h7, hb7, -⟩; have H7 := Lib.hid h7; have H8 := Lib.hid (H6.out.later hb7); clear h7 hb7 H6)
      | (go_at_call 42; (with_reducible refine (CT.out w7 _ H7.out).mono ?_); rintro e w' ⟨rfl, rfl⟩)
      | (go_at_call 43; (with_reducible refine (CW.out w7 _ H8.out).mono ?_); rintro e w' ⟨rfl, rfl⟩)
      | (go_at_call 40; (with_reducible refine (CC2.out w7 _ H8.out).mono ?_); rintro e w9 ⟨rfl, h9⟩; have H9 := Lib.hid h9; clear h9 H8 H7)
      | (go_at_call 36; refine (known7 _ (HHK.out.later H9.out.below)).mono ?_; rintro e w10 ⟨rfl, hb10⟩; have HB10 := Lib.hid (chain2 H9.out.below hb10); clear hb10 H9))
    go_ret
    exact ⟨rfl, HB10.out⟩

theorem u8_nat {x : Int} (h : (Lit.int .u8 x).wf = true) : ∃ m : Nat, m < 256 ∧ x = (m : Int) := by
  have h2 : IntKind.u8.min ≤ x ∧ x ≤ IntKind.u8.max := by simpa [Lit.wf] using h
  have e1 : IntKind.u8.min = 0 := rfl
  have e2 : IntKind.u8.max = 255 := rfl
  exact ⟨x.toNat, by omega, by omega⟩

theorem storeFull_raw (a : ByteArray) (_ : a.size ≤ maxLen) (x : Int) (hx : (Lit.int .u8 x).wf = true) (w : World) (HK : HasK w) :
    Calls Tryd.prog 6 #[.string a, .int .u8 x] w fun e w' => e = .returned (.bool true) ∧ Below w.heap.size w w' := by
  obtain ⟨m, hm, rfl⟩ := u8_nat hx
  exact storeFull_law a m hm w HK

end Go.Proofs.YtkplmaaeggnbgaaDoor.St
