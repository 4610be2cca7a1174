/- The walk of tree.validFields, a kind: its contract. The walk of tree.validFields, a kind: its contract. The walk of tree.validFields, a kind: its contract. No condition but those that each states. -/
import Derived.Test.YtemlceicmpcboaaGreatDoorMgJ
namespace Go.Proofs.YtemlceicmpcboaaGreatDoor.Tr
open Go.RowKit Dk Lx

set_option maxHeartbeats 4000000 in
set_option maxRecDepth 100000 in
theorem vf_0 (k d z : Int) (Q S : ByteArray) (a b : Bool) (hk : k ≠ 1 ∧ k ≠ 2 ∧ k ≠ 3 ∧ k ≠ 4 ∧ k ≠ 6 ∧ k ≠ 7 ∧ k ≠ 21 ∧ k ≠ 19 ∧ k ≠ 20 ∧ k ≠ 23 ∧ k ≠ 27 ∧ k ≠ 28) (ha : (Q.toList == []) = a) (hb : (S.toList == []) = b) (w : World) :
    Calls Tryz.prog 50 #[.agg #[.int .i64 k, .int .i64 d, .string Q, .int .i64 z, .string S]] w fun e w' => e = .returned (.bool (a && decide (z = 0) && b)) ∧ Below w.heap.size w w' := by
  have HB : Hid (Below w.heap.size w (w.alloc (.cells #[.int .i64 k, .int .i64 d, .string Q, .int .i64 z, .string S] 29))) := Lib.hid ((Below.refl _ _).alloc (Nat.le_refl _) _)
  have HX : Hid (NB (w.alloc (.cells #[.int .i64 k, .int .i64 d, .string Q, .int .i64 z, .string S] 29)) w.heap.size ⟨k, d, Q.data.toList, z, S.data.toList⟩) := Lib.hid (by
    have := nb_new w ⟨k, d, Q.data.toList, z, S.data.toList⟩ 29
    unfold Nd.cells at this
    rw [strOf_self', strOf_self'] at this
    exact this)
  obtain ⟨n1, n2, n3, n4, n6, n7, n21, n19, n20, n23, n27, n28⟩ := hk
  have m1 : (k == 1) = false := beq_false_of_ne n1
  have m2 : (k == 2) = false := beq_false_of_ne n2
  have m3 : (k == 3) = false := beq_false_of_ne n3
  have m4 : (k == 4) = false := beq_false_of_ne n4
  have m6 : (k == 6) = false := beq_false_of_ne n6
  have m7 : (k == 7) = false := beq_false_of_ne n7
  have m21 : (k == 21) = false := beq_false_of_ne n21
  have m19 : (k == 19) = false := beq_false_of_ne n19
  have m20 : (k == 20) = false := beq_false_of_ne n20
  have m23 : (k == 23) = false := beq_false_of_ne n23
  have m27 : (k == 27) = false := beq_false_of_ne n27
  have m28 : (k == 28) = false := beq_false_of_ne n28
  clear n1 n2 n3 n4 n6 n7 n21 n19 n20 n23 n27 n28
  cases a with
  | true =>
    by_cases p1 : z = 0
    · subst p1
      cases b with
      | true =>
        have HF : Hid ((true && decide ((0 : Int) = 0) && true) = true) := Lib.hid (by simp [])
        rw [HF.out]
        clear HF
        go_enter Tryz.func50, Tryz.ntmps50
        go_wp2_with fail
        try generalize World.alloc w _ = W0 at HB HX ⊢
        have HA := HX.out.at
        simp only [strOf_self'] at HA
        obtain ⟨c0, c1, c2, c3, c4⟩ := HA
        go_wp2
        go_ret
        exact ⟨rfl, HB.out⟩
      | false =>
        have HF : Hid ((true && decide ((0 : Int) = 0) && false) = false) := Lib.hid (by simp [])
        rw [HF.out]
        clear HF
        go_enter Tryz.func50, Tryz.ntmps50
        go_wp2_with fail
        try generalize World.alloc w _ = W0 at HB HX ⊢
        have HA := HX.out.at
        simp only [strOf_self'] at HA
        obtain ⟨c0, c1, c2, c3, c4⟩ := HA
        go_wp2
        go_ret
        exact ⟨rfl, HB.out⟩
    · have pp1 : (z == 0) = false := by simpa using p1
      have HF : Hid ((true && decide (z = 0) && b) = false) := Lib.hid (by simp [p1])
      rw [HF.out]
      clear HF
      go_enter Tryz.func50, Tryz.ntmps50
      go_wp2_with fail
      try generalize World.alloc w _ = W0 at HB HX ⊢
      have HA := HX.out.at
      simp only [strOf_self'] at HA
      obtain ⟨c0, c1, c2, c3, c4⟩ := HA
      go_wp2
      go_ret
      exact ⟨rfl, HB.out⟩
  | false =>
    have HF : Hid ((false && decide (z = 0) && b) = false) := Lib.hid (by simp [])
    rw [HF.out]
    clear HF
    go_enter Tryz.func50, Tryz.ntmps50
    go_wp2_with fail
    try generalize World.alloc w _ = W0 at HB HX ⊢
    have HA := HX.out.at
    simp only [strOf_self'] at HA
    obtain ⟨c0, c1, c2, c3, c4⟩ := HA
    go_wp2
    go_ret
    exact ⟨rfl, HB.out⟩

end Go.Proofs.YtemlceicmpcboaaGreatDoor.Tr
namespace Go.Proofs.YtemlceicmpcboaaGreatDoor.Tr
open Go.RowKit Dk Lx

set_option maxHeartbeats 4000000 in
set_option maxRecDepth 100000 in
theorem vf_1 (k d z : Int) (Q S : ByteArray) (a b : Bool) (hk : k = 1) (Ca : Hid (∀ W, Calls Tryz.prog 102 #[.string Q] W fun e w' => e = .returned (.bool a) ∧ Below W.heap.size W w')) (hb : (S.toList == []) = b) (w : World) :
    Calls Tryz.prog 50 #[.agg #[.int .i64 k, .int .i64 d, .string Q, .int .i64 z, .string S]] w fun e w' => e = .returned (.bool (a && decide (1 ≤ z) && decide (z ≤ 2147483647) && b)) ∧ Below w.heap.size w w' := by
  have HB : Hid (Below w.heap.size w (w.alloc (.cells #[.int .i64 k, .int .i64 d, .string Q, .int .i64 z, .string S] 29))) := Lib.hid ((Below.refl _ _).alloc (Nat.le_refl _) _)
  have HX : Hid (NB (w.alloc (.cells #[.int .i64 k, .int .i64 d, .string Q, .int .i64 z, .string S] 29)) w.heap.size ⟨k, d, Q.data.toList, z, S.data.toList⟩) := Lib.hid (by
    have := nb_new w ⟨k, d, Q.data.toList, z, S.data.toList⟩ 29
    unfold Nd.cells at this
    rw [strOf_self', strOf_self'] at this
    exact this)
  subst hk
  cases a with
  | true =>
    by_cases p1 : 1 ≤ z
    · skip
      by_cases p2 : z ≤ 2147483647
      · skip
        cases b with
        | true =>
          have HF : Hid ((true && decide (1 ≤ z) && decide (z ≤ 2147483647) && true) = true) := Lib.hid (by simp [p1, p2])
          rw [HF.out]
          clear HF
          go_enter Tryz.func50, Tryz.ntmps50
          go_wp2_with fail
          try generalize World.alloc w _ = W0 at HB HX ⊢
          have HA := HX.out.at
          simp only [strOf_self'] at HA
          obtain ⟨c0, c1, c2, c3, c4⟩ := HA
          go_wp2_with fail
          refine (Ca.out _).mono ?_
          rintro e W1 ⟨rfl, hb⟩
          have HB1 := Lib.hid (chain2 HB.out hb)
          have HX1 := (HX.out.later hb).at
          simp only [strOf_self'] at HX1
          obtain ⟨d0, d1, d2, d3, d4⟩ := HX1
          clear hb Ca
          go_wp2
          go_ret
          exact ⟨rfl, HB1.out⟩
        | false =>
          have HF : Hid ((true && decide (1 ≤ z) && decide (z ≤ 2147483647) && false) = false) := Lib.hid (by simp [p1, p2])
          rw [HF.out]
          clear HF
          go_enter Tryz.func50, Tryz.ntmps50
          go_wp2_with fail
          try generalize World.alloc w _ = W0 at HB HX ⊢
          have HA := HX.out.at
          simp only [strOf_self'] at HA
          obtain ⟨c0, c1, c2, c3, c4⟩ := HA
          go_wp2_with fail
          refine (Ca.out _).mono ?_
          rintro e W1 ⟨rfl, hb⟩
          have HB1 := Lib.hid (chain2 HB.out hb)
          have HX1 := (HX.out.later hb).at
          simp only [strOf_self'] at HX1
          obtain ⟨d0, d1, d2, d3, d4⟩ := HX1
          clear hb Ca
          go_wp2
          go_ret
          exact ⟨rfl, HB1.out⟩
      · skip
        have HF : Hid ((true && decide (1 ≤ z) && decide (z ≤ 2147483647) && b) = false) := Lib.hid (by simp [p1, p2])
        rw [HF.out]
        clear HF
        go_enter Tryz.func50, Tryz.ntmps50
        go_wp2_with fail
        try generalize World.alloc w _ = W0 at HB HX ⊢
        have HA := HX.out.at
        simp only [strOf_self'] at HA
        obtain ⟨c0, c1, c2, c3, c4⟩ := HA
        go_wp2_with fail
        refine (Ca.out _).mono ?_
        rintro e W1 ⟨rfl, hb⟩
        have HB1 := Lib.hid (chain2 HB.out hb)
        have HX1 := (HX.out.later hb).at
        simp only [strOf_self'] at HX1
        obtain ⟨d0, d1, d2, d3, d4⟩ := HX1
        clear hb Ca
        go_wp2
        go_ret
        exact ⟨rfl, HB1.out⟩
    · skip
      have HF : Hid ((true && decide (1 ≤ z) && decide (z ≤ 2147483647) && b) = false) := Lib.hid (by simp [p1])
      rw [HF.out]
      clear HF
      go_enter Tryz.func50, Tryz.ntmps50
      go_wp2_with fail
      try generalize World.alloc w _ = W0 at HB HX ⊢
      have HA := HX.out.at
      simp only [strOf_self'] at HA
      obtain ⟨c0, c1, c2, c3, c4⟩ := HA
      go_wp2_with fail
      refine (Ca.out _).mono ?_
      rintro e W1 ⟨rfl, hb⟩
      have HB1 := Lib.hid (chain2 HB.out hb)
      have HX1 := (HX.out.later hb).at
      simp only [strOf_self'] at HX1
      obtain ⟨d0, d1, d2, d3, d4⟩ := HX1
      clear hb Ca
      go_wp2
      go_ret
      exact ⟨rfl, HB1.out⟩
  | false =>
    have HF : Hid ((false && decide (1 ≤ z) && decide (z ≤ 2147483647) && b) = false) := Lib.hid (by simp [])
    rw [HF.out]
    clear HF
    go_enter Tryz.func50, Tryz.ntmps50
    go_wp2_with fail
    try generalize World.alloc w _ = W0 at HB HX ⊢
    have HA := HX.out.at
    simp only [strOf_self'] at HA
    obtain ⟨c0, c1, c2, c3, c4⟩ := HA
    go_wp2_with fail
    refine (Ca.out _).mono ?_
    rintro e W1 ⟨rfl, hb⟩
    have HB1 := Lib.hid (chain2 HB.out hb)
    have HX1 := (HX.out.later hb).at
    simp only [strOf_self'] at HX1
    obtain ⟨d0, d1, d2, d3, d4⟩ := HX1
    clear hb Ca
    go_wp2
    go_ret
    exact ⟨rfl, HB1.out⟩

end Go.Proofs.YtemlceicmpcboaaGreatDoor.Tr
namespace Go.Proofs.YtemlceicmpcboaaGreatDoor.Tr
open Go.RowKit Dk Lx

set_option maxHeartbeats 4000000 in
set_option maxRecDepth 100000 in
theorem vf_2 (k d z : Int) (Q S : ByteArray) (a b : Bool) (hk : k = 2) (Ca : Hid (∀ W, Calls Tryz.prog 102 #[.string Q] W fun e w' => e = .returned (.bool a) ∧ Below W.heap.size W w')) (Cb : Hid (∀ W, Calls Tryz.prog 102 #[.string S] W fun e w' => e = .returned (.bool b) ∧ Below W.heap.size W w')) (w : World) :
    Calls Tryz.prog 50 #[.agg #[.int .i64 k, .int .i64 d, .string Q, .int .i64 z, .string S]] w fun e w' => e = .returned (.bool (a && decide (0 ≤ z) && decide (z ≤ 8) && b)) ∧ Below w.heap.size w w' := by
  have HB : Hid (Below w.heap.size w (w.alloc (.cells #[.int .i64 k, .int .i64 d, .string Q, .int .i64 z, .string S] 29))) := Lib.hid ((Below.refl _ _).alloc (Nat.le_refl _) _)
  have HX : Hid (NB (w.alloc (.cells #[.int .i64 k, .int .i64 d, .string Q, .int .i64 z, .string S] 29)) w.heap.size ⟨k, d, Q.data.toList, z, S.data.toList⟩) := Lib.hid (by
    have := nb_new w ⟨k, d, Q.data.toList, z, S.data.toList⟩ 29
    unfold Nd.cells at this
    rw [strOf_self', strOf_self'] at this
    exact this)
  subst hk
  cases a with
  | true =>
    by_cases p1 : 0 ≤ z
    · skip
      by_cases p2 : z ≤ 8
      · skip
        cases b with
        | true =>
          have HF : Hid ((true && decide (0 ≤ z) && decide (z ≤ 8) && true) = true) := Lib.hid (by simp [p1, p2])
          rw [HF.out]
          clear HF
          go_enter Tryz.func50, Tryz.ntmps50
          go_wp2_with fail
          try generalize World.alloc w _ = W0 at HB HX ⊢
          have HA := HX.out.at
          simp only [strOf_self'] at HA
          obtain ⟨c0, c1, c2, c3, c4⟩ := HA
          go_wp2_with fail
          refine (Ca.out _).mono ?_
          rintro e W1 ⟨rfl, hb⟩
          have HB1 := Lib.hid (chain2 HB.out hb)
          have HX1 := (HX.out.later hb).at
          simp only [strOf_self'] at HX1
          obtain ⟨d0, d1, d2, d3, d4⟩ := HX1
          clear hb Ca
          go_wp2_with fail
          refine (Cb.out _).mono ?_
          rintro e W2 ⟨rfl, hb⟩
          have HB2 := Lib.hid (chain2 HB1.out hb)
          clear hb Cb
          go_wp2
          go_ret
          exact ⟨rfl, HB2.out⟩
        | false =>
          have HF : Hid ((true && decide (0 ≤ z) && decide (z ≤ 8) && false) = false) := Lib.hid (by simp [p1, p2])
          rw [HF.out]
          clear HF
          go_enter Tryz.func50, Tryz.ntmps50
          go_wp2_with fail
          try generalize World.alloc w _ = W0 at HB HX ⊢
          have HA := HX.out.at
          simp only [strOf_self'] at HA
          obtain ⟨c0, c1, c2, c3, c4⟩ := HA
          go_wp2_with fail
          refine (Ca.out _).mono ?_
          rintro e W1 ⟨rfl, hb⟩
          have HB1 := Lib.hid (chain2 HB.out hb)
          have HX1 := (HX.out.later hb).at
          simp only [strOf_self'] at HX1
          obtain ⟨d0, d1, d2, d3, d4⟩ := HX1
          clear hb Ca
          go_wp2_with fail
          refine (Cb.out _).mono ?_
          rintro e W2 ⟨rfl, hb⟩
          have HB2 := Lib.hid (chain2 HB1.out hb)
          clear hb Cb
          go_wp2
          go_ret
          exact ⟨rfl, HB2.out⟩
      · skip
        have HF : Hid ((true && decide (0 ≤ z) && decide (z ≤ 8) && b) = false) := Lib.hid (by simp [p1, p2])
        rw [HF.out]
        clear HF
        go_enter Tryz.func50, Tryz.ntmps50
        go_wp2_with fail
        try generalize World.alloc w _ = W0 at HB HX ⊢
        have HA := HX.out.at
        simp only [strOf_self'] at HA
        obtain ⟨c0, c1, c2, c3, c4⟩ := HA
        go_wp2_with fail
        refine (Ca.out _).mono ?_
        rintro e W1 ⟨rfl, hb⟩
        have HB1 := Lib.hid (chain2 HB.out hb)
        have HX1 := (HX.out.later hb).at
        simp only [strOf_self'] at HX1
        obtain ⟨d0, d1, d2, d3, d4⟩ := HX1
        clear hb Ca
        go_wp2
        go_ret
        exact ⟨rfl, HB1.out⟩
    · skip
      have HF : Hid ((true && decide (0 ≤ z) && decide (z ≤ 8) && b) = false) := Lib.hid (by simp [p1])
      rw [HF.out]
      clear HF
      go_enter Tryz.func50, Tryz.ntmps50
      go_wp2_with fail
      try generalize World.alloc w _ = W0 at HB HX ⊢
      have HA := HX.out.at
      simp only [strOf_self'] at HA
      obtain ⟨c0, c1, c2, c3, c4⟩ := HA
      go_wp2_with fail
      refine (Ca.out _).mono ?_
      rintro e W1 ⟨rfl, hb⟩
      have HB1 := Lib.hid (chain2 HB.out hb)
      have HX1 := (HX.out.later hb).at
      simp only [strOf_self'] at HX1
      obtain ⟨d0, d1, d2, d3, d4⟩ := HX1
      clear hb Ca
      go_wp2
      go_ret
      exact ⟨rfl, HB1.out⟩
  | false =>
    have HF : Hid ((false && decide (0 ≤ z) && decide (z ≤ 8) && b) = false) := Lib.hid (by simp [])
    rw [HF.out]
    clear HF
    go_enter Tryz.func50, Tryz.ntmps50
    go_wp2_with fail
    try generalize World.alloc w _ = W0 at HB HX ⊢
    have HA := HX.out.at
    simp only [strOf_self'] at HA
    obtain ⟨c0, c1, c2, c3, c4⟩ := HA
    go_wp2_with fail
    refine (Ca.out _).mono ?_
    rintro e W1 ⟨rfl, hb⟩
    have HB1 := Lib.hid (chain2 HB.out hb)
    have HX1 := (HX.out.later hb).at
    simp only [strOf_self'] at HX1
    obtain ⟨d0, d1, d2, d3, d4⟩ := HX1
    clear hb Ca
    go_wp2
    go_ret
    exact ⟨rfl, HB1.out⟩

end Go.Proofs.YtemlceicmpcboaaGreatDoor.Tr
