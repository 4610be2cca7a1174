/- The walk of SlotsFits: it returns true. No condition but those that each states. -/
import Derived.Test.YthddiijnomhpfaaSlK
import Derived.Test.YthddiijnomhpfaaSlM
import Derived.Test.YthddiijnomhpfaaDkCn
namespace Go.Proofs.Ythddiijnomhpfaa.Sl
open Go.RowKit Dk

theorem makeK (k : Nat) (hk : k ≤ 10000) (W : World) : (Instr.makeSlice 53 (.int .i64 (k : Int)) (.int .i64 (k : Int))).run Try.prog W = .ok (.slice (some ⟨W.heap.size, 0, none⟩) k k) (W.alloc (.cells (List.replicate k (.int .u8 0)).toArray 5)) := by
  have := run_make_row' (P := Try.prog) 53 5 (.int .u8 0) 1 Try.underlying53 Dk.Try.info5 rfl .i64 .i64 k (by omega) (by omega) W
  have e : madeCells #[Value.int .u8 0] k = (List.replicate k (Value.int .u8 0)).toArray := by
    apply Array.ext'
    rw [toList_madeCells_one]
  rw [e] at this
  exact this

/-- A text of bytes 0. -/
def zeros (k : Nat) : ByteArray := strOf (List.replicate k 0)
theorem zeros_size (k : Nat) : (zeros k).size = k := by unfold zeros; rw [strOf_size, List.length_replicate]

theorem convK (k : Nat) (W : World) : (convert 53 9 (.slice (some ⟨W.heap.size, 0, none⟩) k k)).run Try.prog (W.alloc (.cells (List.replicate k (.int .u8 0)).toArray 5)) = .ok (.string (zeros k)) (W.alloc (.cells (List.replicate k (.int .u8 0)).toArray 5)) :=
  convert_range W.heap.size 0 k k (List.replicate k 0) Try.underlying53 Try.underlying5 Try.underlying9 (by simp) (by rw [bv_zeros]; exact range_new _ _ _)

theorem new_each (n : Nat) : each (new n) = per n := by unfold each new; rw [List.length_replicate]

set_option maxHeartbeats 2000000 in
set_option maxRecDepth 100000 in
theorem slotsFits_law (a : Int) (ha : (Lit.int .i64 a).wf = true) (b : Bool) (c : Int) (hc : (Lit.int .i64 c).wf = true) (w : World) :
    Calls Try.prog 5 #[.int .i64 a, .bool b, .int .i64 c] w fun e w' => e = .returned (.bool true) ∧ Below w.heap.size w w' := by
  obtain ⟨n, hn⟩ : ∃ n : Nat, (n : Int) = cnt a 60 := ⟨(cnt a 60).toNat, by have := cnt_lt a 60 (by decide); omega⟩
  obtain ⟨k, hk⟩ : ∃ k : Nat, (k : Int) = cnt c 5000 := ⟨(cnt c 5000).toNat, by have := cnt_lt c 5000 (by decide); omega⟩
  have b1 := cnt_lt a 60 (by decide)
  have b2 := cnt_lt c 5000 (by decide)
  have CA := Lib.hid (count_any a 60 w ha (by decide) (by decide))
  have CC := Lib.hid (fun W => count_any c 5000 W hc (by decide) (by decide))
  have hn2 : n < 60 := by omega
  have hk2 : k < 5000 := by omega
  have CN : Hid (Calls Try.prog 9 #[.int .i64 (16 + (n : Int))] w fun e w' => e = .returned (.tuple #[.pointer (some ⟨w.heap.size + 2, 0, none⟩), .int .i64 0]) ∧ Dk w w' (fun k => w.heap.size ≤ k) (w.heap.size + 2) (new (16 + n))) := Lib.hid (new_dk (16 + n) (by omega) (by omega) w)
  rw [← hk] at CC
  rw [← hn] at CA
  clear ha hc hn hk b1 b2
  have HOK := Lib.hid (new_ok (n := 16 + n) (by omega) (by omega))
  have HE := Lib.hid (new_each (16 + n))
  have mk := makeK k (by omega)
  have cv := convK k
  have hz := zeros_size k
  have g1 : (0 : Int) ≤ (n : Int) := by omega
  have g2 : (n : Int) < 60 := by omega
  have g3 : (0 : Int) ≤ (k : Int) := by omega
  have g4 : (k : Int) < 5000 := by omega
  obtain ⟨slot, hs, hs2⟩ : ∃ slot : Int, (b = false ∧ slot = 0 ∨ b = true ∧ slot = 1) ∧ badSlot slot = false := by
    cases b
    · exact ⟨0, .inl ⟨rfl, rfl⟩, rfl⟩
    · exact ⟨1, .inr ⟨rfl, rfl⟩, rfl⟩
  have CR : Hid (∀ W, Dk w W (fun k => w.heap.size ≤ k) (w.heap.size + 2) (new (16 + n)) → Calls Try.prog 14 #[.pointer (some ⟨w.heap.size + 2, 0, none⟩)] W fun e w' => e = .returned (.int .i64 ((64 * per (16 + n) : Nat) : Int)) ∧ W = w') :=
    Lib.hid (fun W h => by have := room_disk W h.here; rwa [HE.out] at this)
  by_cases hf : 64 * per (16 + n) < k
  · have CW : Hid (∀ W, Dk w W (fun k => w.heap.size ≤ k) (w.heap.size + 2) (new (16 + n)) → Calls Try.prog 19 #[.pointer (some ⟨w.heap.size + 2, 0, none⟩), .int .i64 slot, .string (zeros k)] W fun e w' => e = .returned (.int .i64 6) ∧ W = w') :=
      Lib.hid (fun W h => swrite_full slot (zeros k) W h.here hs2 (by rw [HE.out, hz]; exact hf))
    have CO : Hid (∀ W, Dk w W (fun k => w.heap.size ≤ k) (w.heap.size + 2) (new (16 + n)) → Calls Try.prog 13 #[.pointer (some ⟨w.heap.size + 2, 0, none⟩)] W fun e w' => e = .returned (.int .i64 0) ∧ W = w') :=
      Lib.hid (fun W h => ops_at W h.here)
    have t1 : decide (((64 * per (16 + n) : Nat) : Int) < (k : Int)) = true := decide_eq_true (by omega)
    generalize ((64 * per (16 + n) : Nat) : Int) = R at *
    generalize new (16 + n) = S at *
    generalize zeros k = Z at *
    generalize (List.replicate k (Value.int .u8 0)).toArray = ZZ at *
    clear hz HOK HE hf
    rcases hs with ⟨rfl, rfl⟩ | ⟨rfl, rfl⟩
    all_goals
      go_enter Try.func5, Try.ntmps5
      go_wp2_with fail
      refine CA.out.mono ?_
      rintro e w1 ⟨rfl, rfl⟩
      go_wp2_with fail
      refine CN.out.mono ?_
      rintro e w1 ⟨rfl, hb⟩
      have H1 := Lib.hid hb
      clear hb
      go_wp2_with fail
      refine (CC.out w1).mono ?_
      rintro e w2 ⟨rfl, rfl⟩
      have H2 : Hid (Dk w (w1.alloc (.cells ZZ 5)) (fun k => w.heap.size ≤ k) (w.heap.size + 2) S) := Lib.hid (H1.out.later ((Below.refl _ _).alloc (Nat.le_refl _) _))
      clear H1
      go_wp2_with fail
      refine (CW.out _ H2.out).mono ?_
      rintro e w3 ⟨rfl, rfl⟩
      go_wp2_with fail
      refine (CR.out _ H2.out).mono ?_
      rintro e w3 ⟨rfl, rfl⟩
      go_wp2_with fail
      refine (CO.out _ H2.out).mono ?_
      rintro e w3 ⟨rfl, rfl⟩
      go_wp2_with fail
      refine (known6 _).mono ?_
      rintro e w4 ⟨rfl, hb⟩
      have H4 := Lib.hid (chain2 H2.out.below hb)
      clear hb
      go_wp2
      go_ret
      exact ⟨rfl, H4.out⟩
  · have hle : (zeros k).size ≤ 64 * each (new (16 + n)) := by rw [HE.out, hz]; omega
    have hsw := sw_none HOK.out rfl rfl hs2 hle
    obtain ⟨s1, s2, s3⟩ := sw_ok HOK.out rfl hs2 hle
    obtain ⟨s4, s5, s6, s7⟩ := s3.resolve_right (fun e => by rw [hsw.1] at e; cases e.1)
    have hee : each (DS.sw (new (16 + n)) slot (zeros k)).1 = each (new (16 + n)) := by unfold each; rw [s2]
    have hff : first (DS.sw (new (16 + n)) slot (zeros k)).1 slot = first (new (16 + n)) slot := by unfold first; rw [hee]
    have hsr := sr_text s5 hs2 (s := zeros k) (by rw [hee]; exact hle) (fun j hj => by rw [hff, s7, if_pos (by omega)]; congr 1; omega)
    have hfew := sw_few (new (16 + n)) slot (zeros k) HOK.out
    have hops := hsw.2.2
    have hroom : 64 * each (DS.sw (new (16 + n)) slot (zeros k)).1 = 64 * per (16 + n) := by rw [hee, HE.out]
    have c0 : (new (16 + n)).c = 0 := rfl
    have o0 : (new (16 + n)).ops = 0 := rfl
    rw [hz] at hsr hops
    have CW : Hid (∀ W, Dk w W (fun k => w.heap.size ≤ k) (w.heap.size + 2) (new (16 + n)) → Calls Try.prog 19 #[.pointer (some ⟨w.heap.size + 2, 0, none⟩), .int .i64 slot, .string (zeros k)] W fun e w' => e = .returned (.int .i64 0) ∧ Dk w w' (fun k => w.heap.size ≤ k) (w.heap.size + 2) (DS.sw (new (16 + n)) slot (zeros k)).1) :=
      Lib.hid (fun W h => (dk_sw slot (zeros k) W h (by rw [c0]; decide) (by rw [o0]; decide)).mono fun _ _ ⟨a, b, _⟩ => ⟨by rw [hsw.1] at a; exact a, b⟩)
    have CR2 : Hid (∀ W, Dk w W (fun k => w.heap.size ≤ k) (w.heap.size + 2) (DS.sw (new (16 + n)) slot (zeros k)).1 → Calls Try.prog 14 #[.pointer (some ⟨w.heap.size + 2, 0, none⟩)] W fun e w' => e = .returned (.int .i64 ((64 * per (16 + n) : Nat) : Int)) ∧ W = w') :=
      Lib.hid (fun W h => by have := room_disk W h.here; rwa [hroom] at this)
    have CS : Hid (∀ W, Dk w W (fun k => w.heap.size ≤ k) (w.heap.size + 2) (DS.sw (new (16 + n)) slot (zeros k)).1 → Calls Try.prog 22 #[.pointer (some ⟨w.heap.size + 2, 0, none⟩), .int .i64 slot, .int .i64 (k : Int)] W fun e w' => e = .returned (.tuple #[.string (zeros k), .int .i64 0]) ∧ Dk w w' (fun k => w.heap.size ≤ k) (w.heap.size + 2) (DS.sw (new (16 + n)) slot (zeros k)).1) :=
      Lib.hid (fun W h => (dk_sr slot (k : Int) W h (by omega)).mono fun _ _ ⟨a, b, _⟩ => ⟨by rw [hsr] at a; exact a, b⟩)
    have CO : Hid (∀ W, Dk w W (fun k => w.heap.size ≤ k) (w.heap.size + 2) (DS.sw (new (16 + n)) slot (zeros k)).1 → Calls Try.prog 13 #[.pointer (some ⟨w.heap.size + 2, 0, none⟩)] W fun e w' => e = .returned (.int .i64 ((nb k : Nat) + 1)) ∧ W = w') :=
      Lib.hid (fun W h => by
        have := ops_at W h.here
        rw [hops, o0, Nat.zero_add] at this
        exact this)
    have t1 : decide (((64 * per (16 + n) : Nat) : Int) < (k : Int)) = false := decide_eq_false (by omega)
    have HQ : Hid (((k : Int) + 63).tdiv 64 = ((nb k : Nat) : Int)) := Lib.hid (by rw [Int.tdiv_eq_ediv_of_nonneg (by omega)]; unfold nb; omega)
    have hnb : ((nb k : Nat) : Int) ≤ 80 := by unfold nb; omega
    have hnb0 : (0 : Int) ≤ ((nb k : Nat) : Int) := by omega
    generalize ((64 * per (16 + n) : Nat) : Int) = R at *
    generalize (DS.sw (new (16 + n)) slot (zeros k)).1 = T at *
    generalize ((nb k : Nat) : Int) = q at *
    generalize new (16 + n) = S at *
    generalize zeros k = Z at *
    generalize (List.replicate k (Value.int .u8 0)).toArray = ZZ at *
    clear hz HOK HE hf hle hsw s1 s2 s3 s4 s5 s6 s7 hee hff hsr hfew hops hroom c0 o0
    rcases hs with ⟨rfl, rfl⟩ | ⟨rfl, rfl⟩
    all_goals
      go_enter Try.func5, Try.ntmps5
      go_wp2_with fail
      refine CA.out.mono ?_
      rintro e w1 ⟨rfl, rfl⟩
      go_wp2_with fail
      refine CN.out.mono ?_
      rintro e w1 ⟨rfl, hb⟩
      have H1 := Lib.hid hb
      clear hb
      go_wp2_with fail
      refine (CC.out w1).mono ?_
      rintro e w2 ⟨rfl, rfl⟩
      have H2 : Hid (Dk w (w1.alloc (.cells ZZ 5)) (fun k => w.heap.size ≤ k) (w.heap.size + 2) S) := Lib.hid (H1.out.later ((Below.refl _ _).alloc (Nat.le_refl _) _))
      clear H1
      go_wp2_with fail
      refine (CW.out _ H2.out).mono ?_
      rintro e w3 ⟨rfl, hb⟩
      have H3 := Lib.hid hb
      clear hb H2
      go_wp2_with fail
      refine (CR2.out _ H3.out).mono ?_
      rintro e w4 ⟨rfl, rfl⟩
      go_wp2_with fail
      refine (CS.out _ H3.out).mono ?_
      rintro e w4 ⟨rfl, hb⟩
      have H4 := Lib.hid hb
      clear hb H3
      go_wp2_with fail
      refine (CO.out _ H4.out).mono ?_
      rintro e w5 ⟨rfl, rfl⟩
      have hq := HQ.out
      go_wp2_with fail
      refine (known6 _).mono ?_
      rintro e w5 ⟨rfl, hb⟩
      have H5 := Lib.hid (chain2 H4.out.below hb)
      clear hb
      go_wp2
      go_ret
      exact ⟨rfl, H5.out⟩

end Go.Proofs.Ythddiijnomhpfaa.Sl
