/- The walk of tree.validFields, a kind: its contract. No condition but those that each states. -/
import Derived.Test.YtcfgngaabledpaaTrV
namespace Go.Proofs.Ytcfgngaabledpaa.Tr
open Go.RowKit Dk Lx

set_option maxHeartbeats 4000000 in
set_option maxRecDepth 100000 in
theorem vf_2 (k d z : Int) (Q S : ByteArray) (a b : Bool) (hk : k = 2) (Ca : Hid (∀ W, Calls Try.prog 34 #[.string Q] W fun e w' => e = .returned (.bool a) ∧ Below W.heap.size W w')) (Cb : Hid (∀ W, Calls Try.prog 34 #[.string S] W fun e w' => e = .returned (.bool b) ∧ Below W.heap.size W w')) (w : World) :
    Calls Try.prog 28 #[.agg #[.int .i64 k, .int .i64 d, .string Q, .int .i64 z, .string S]] w fun e w' => e = .returned (.bool (a && decide (0 ≤ z) && decide (z ≤ 8) && b)) ∧ Below w.heap.size w w' := by
  have HB : Hid (Below w.heap.size w (w.alloc (.cells #[.int .i64 k, .int .i64 d, .string Q, .int .i64 z, .string S] 36))) := Lib.hid ((Below.refl _ _).alloc (Nat.le_refl _) _)
  have HX : Hid (NB (w.alloc (.cells #[.int .i64 k, .int .i64 d, .string Q, .int .i64 z, .string S] 36)) w.heap.size ⟨k, d, Q.data.toList, z, S.data.toList⟩) := Lib.hid (by
    have := nb_new w ⟨k, d, Q.data.toList, z, S.data.toList⟩ 36
    unfold Nd.cells at this
    rw [strOf_self', strOf_self'] at this
    exact this)
  subst hk
  cases a with
  | true =>
    by_cases p1 : 0 ≤ z
    · skip
      by_cases p2 : z ≤ 8
      · skip
        cases b with
        | true =>
          have HF : Hid ((true && decide (0 ≤ z) && decide (z ≤ 8) && true) = true) := Lib.hid (by simp [p1, p2])
          rw [HF.out]
          clear HF
          go_enter Try.func28, Try.ntmps28
          go_wp2_with fail
          try generalize World.alloc w _ = W0 at HB HX ⊢
          have HA := HX.out.at
          simp only [strOf_self'] at HA
          obtain ⟨c0, c1, c2, c3, c4⟩ := HA
          go_wp2_with fail
          refine (Ca.out _).mono ?_
          rintro e W1 ⟨rfl, hb⟩
          have HB1 := Lib.hid (chain2 HB.out hb)
          have HX1 := (HX.out.later hb).at
          simp only [strOf_self'] at HX1
          obtain ⟨d0, d1, d2, d3, d4⟩ := HX1
          clear hb Ca
          go_wp2_with fail
          refine (Cb.out _).mono ?_
          rintro e W2 ⟨rfl, hb⟩
          have HB2 := Lib.hid (chain2 HB1.out hb)
          clear hb Cb
          go_wp2
          go_ret
          exact ⟨rfl, HB2.out⟩
        | false =>
          have HF : Hid ((true && decide (0 ≤ z) && decide (z ≤ 8) && false) = false) := Lib.hid (by simp [p1, p2])
          rw [HF.out]
          clear HF
          go_enter Try.func28, Try.ntmps28
          go_wp2_with fail
          try generalize World.alloc w _ = W0 at HB HX ⊢
          have HA := HX.out.at
          simp only [strOf_self'] at HA
          obtain ⟨c0, c1, c2, c3, c4⟩ := HA
          go_wp2_with fail
          refine (Ca.out _).mono ?_
          rintro e W1 ⟨rfl, hb⟩
          have HB1 := Lib.hid (chain2 HB.out hb)
          have HX1 := (HX.out.later hb).at
          simp only [strOf_self'] at HX1
          obtain ⟨d0, d1, d2, d3, d4⟩ := HX1
          clear hb Ca
          go_wp2_with fail
          refine (Cb.out _).mono ?_
          rintro e W2 ⟨rfl, hb⟩
          have HB2 := Lib.hid (chain2 HB1.out hb)
          clear hb Cb
          go_wp2
          go_ret
          exact ⟨rfl, HB2.out⟩
      · skip
        have HF : Hid ((true && decide (0 ≤ z) && decide (z ≤ 8) && b) = false) := Lib.hid (by simp [p1, p2])
        rw [HF.out]
        clear HF
        go_enter Try.func28, Try.ntmps28
        go_wp2_with fail
        try generalize World.alloc w _ = W0 at HB HX ⊢
        have HA := HX.out.at
        simp only [strOf_self'] at HA
        obtain ⟨c0, c1, c2, c3, c4⟩ := HA
        go_wp2_with fail
        refine (Ca.out _).mono ?_
        rintro e W1 ⟨rfl, hb⟩
        have HB1 := Lib.hid (chain2 HB.out hb)
        have HX1 := (HX.out.later hb).at
        simp only [strOf_self'] at HX1
        obtain ⟨d0, d1, d2, d3, d4⟩ := HX1
        clear hb Ca
        go_wp2
        go_ret
        exact ⟨rfl, HB1.out⟩
    · skip
      have HF : Hid ((true && decide (0 ≤ z) && decide (z ≤ 8) && b) = false) := Lib.hid (by simp [p1])
      rw [HF.out]
      clear HF
      go_enter Try.func28, Try.ntmps28
      go_wp2_with fail
      try generalize World.alloc w _ = W0 at HB HX ⊢
      have HA := HX.out.at
      simp only [strOf_self'] at HA
      obtain ⟨c0, c1, c2, c3, c4⟩ := HA
      go_wp2_with fail
      refine (Ca.out _).mono ?_
      rintro e W1 ⟨rfl, hb⟩
      have HB1 := Lib.hid (chain2 HB.out hb)
      have HX1 := (HX.out.later hb).at
      simp only [strOf_self'] at HX1
      obtain ⟨d0, d1, d2, d3, d4⟩ := HX1
      clear hb Ca
      go_wp2
      go_ret
      exact ⟨rfl, HB1.out⟩
  | false =>
    have HF : Hid ((false && decide (0 ≤ z) && decide (z ≤ 8) && b) = false) := Lib.hid (by simp [])
    rw [HF.out]
    clear HF
    go_enter Try.func28, Try.ntmps28
    go_wp2_with fail
    try generalize World.alloc w _ = W0 at HB HX ⊢
    have HA := HX.out.at
    simp only [strOf_self'] at HA
    obtain ⟨c0, c1, c2, c3, c4⟩ := HA
    go_wp2_with fail
    refine (Ca.out _).mono ?_
    rintro e W1 ⟨rfl, hb⟩
    have HB1 := Lib.hid (chain2 HB.out hb)
    have HX1 := (HX.out.later hb).at
    simp only [strOf_self'] at HX1
    obtain ⟨d0, d1, d2, d3, d4⟩ := HX1
    clear hb Ca
    go_wp2
    go_ret
    exact ⟨rfl, HB1.out⟩

end Go.Proofs.Ytcfgngaabledpaa.Tr
