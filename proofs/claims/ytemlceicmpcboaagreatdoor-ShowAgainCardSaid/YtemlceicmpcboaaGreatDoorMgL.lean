/- The walk of tree.validFields, a kind: its contract. The walk of tree.validFields, a kind: its contract. The walk of tree.validFields, a kind: its contract. No condition but those that each states. -/
import Derived.Test.YtemlceicmpcboaaGreatDoorMgJ
namespace Go.Proofs.YtemlceicmpcboaaGreatDoor.Tr
open Go.RowKit Dk Lx

set_option maxHeartbeats 4000000 in
set_option maxRecDepth 100000 in
theorem vf_3 (k d z : Int) (Q S : ByteArray) (a b : Bool) (hk : k = 3 ∨ k = 4 ∨ k = 6 ∨ k = 7 ∨ k = 21) (Ca : Hid (∀ W, Calls Tryz.prog 102 #[.string Q] W fun e w' => e = .returned (.bool a) ∧ Below W.heap.size W w')) (hb : (S.toList == []) = b) (w : World) :
    Calls Tryz.prog 50 #[.agg #[.int .i64 k, .int .i64 d, .string Q, .int .i64 z, .string S]] w fun e w' => e = .returned (.bool (a && decide (z = 0) && b)) ∧ Below w.heap.size w w' := by
  have HB : Hid (Below w.heap.size w (w.alloc (.cells #[.int .i64 k, .int .i64 d, .string Q, .int .i64 z, .string S] 29))) := Lib.hid ((Below.refl _ _).alloc (Nat.le_refl _) _)
  have HX : Hid (NB (w.alloc (.cells #[.int .i64 k, .int .i64 d, .string Q, .int .i64 z, .string S] 29)) w.heap.size ⟨k, d, Q.data.toList, z, S.data.toList⟩) := Lib.hid (by
    have := nb_new w ⟨k, d, Q.data.toList, z, S.data.toList⟩ 29
    unfold Nd.cells at this
    rw [strOf_self', strOf_self'] at this
    exact this)
  rcases hk with rfl | rfl | rfl | rfl | rfl
  all_goals
    cases a with
    | true =>
      by_cases p1 : z = 0
      · subst p1
        cases b with
        | true =>
          have HF : Hid ((true && decide ((0 : Int) = 0) && true) = true) := Lib.hid (by simp [])
          rw [HF.out]
          clear HF
          go_enter Tryz.func50, Tryz.ntmps50
          go_wp2_with fail
          try generalize World.alloc w _ = W0 at HB HX ⊢
          have HA := HX.out.at
          simp only [strOf_self'] at HA
          obtain ⟨c0, c1, c2, c3, c4⟩ := HA
          go_wp2_with fail
          refine (Ca.out _).mono ?_
          rintro e W1 ⟨rfl, hb⟩
          have HB1 := Lib.hid (chain2 HB.out hb)
          have HX1 := (HX.out.later hb).at
          simp only [strOf_self'] at HX1
          obtain ⟨d0, d1, d2, d3, d4⟩ := HX1
          clear hb Ca
          go_wp2
          go_ret
          exact ⟨rfl, HB1.out⟩
        | false =>
          have HF : Hid ((true && decide ((0 : Int) = 0) && false) = false) := Lib.hid (by simp [])
          rw [HF.out]
          clear HF
          go_enter Tryz.func50, Tryz.ntmps50
          go_wp2_with fail
          try generalize World.alloc w _ = W0 at HB HX ⊢
          have HA := HX.out.at
          simp only [strOf_self'] at HA
          obtain ⟨c0, c1, c2, c3, c4⟩ := HA
          go_wp2_with fail
          refine (Ca.out _).mono ?_
          rintro e W1 ⟨rfl, hb⟩
          have HB1 := Lib.hid (chain2 HB.out hb)
          have HX1 := (HX.out.later hb).at
          simp only [strOf_self'] at HX1
          obtain ⟨d0, d1, d2, d3, d4⟩ := HX1
          clear hb Ca
          go_wp2
          go_ret
          exact ⟨rfl, HB1.out⟩
      · have pp1 : (z == 0) = false := by simpa using p1
        have HF : Hid ((true && decide (z = 0) && b) = false) := Lib.hid (by simp [p1])
        rw [HF.out]
        clear HF
        go_enter Tryz.func50, Tryz.ntmps50
        go_wp2_with fail
        try generalize World.alloc w _ = W0 at HB HX ⊢
        have HA := HX.out.at
        simp only [strOf_self'] at HA
        obtain ⟨c0, c1, c2, c3, c4⟩ := HA
        go_wp2_with fail
        refine (Ca.out _).mono ?_
        rintro e W1 ⟨rfl, hb⟩
        have HB1 := Lib.hid (chain2 HB.out hb)
        have HX1 := (HX.out.later hb).at
        simp only [strOf_self'] at HX1
        obtain ⟨d0, d1, d2, d3, d4⟩ := HX1
        clear hb Ca
        go_wp2
        go_ret
        exact ⟨rfl, HB1.out⟩
    | false =>
      have HF : Hid ((false && decide (z = 0) && b) = false) := Lib.hid (by simp [])
      rw [HF.out]
      clear HF
      go_enter Tryz.func50, Tryz.ntmps50
      go_wp2_with fail
      try generalize World.alloc w _ = W0 at HB HX ⊢
      have HA := HX.out.at
      simp only [strOf_self'] at HA
      obtain ⟨c0, c1, c2, c3, c4⟩ := HA
      go_wp2_with fail
      refine (Ca.out _).mono ?_
      rintro e W1 ⟨rfl, hb⟩
      have HB1 := Lib.hid (chain2 HB.out hb)
      have HX1 := (HX.out.later hb).at
      simp only [strOf_self'] at HX1
      obtain ⟨d0, d1, d2, d3, d4⟩ := HX1
      clear hb Ca
      go_wp2
      go_ret
      exact ⟨rfl, HB1.out⟩

end Go.Proofs.YtemlceicmpcboaaGreatDoor.Tr
namespace Go.Proofs.YtemlceicmpcboaaGreatDoor.Tr
open Go.RowKit Dk Lx

set_option maxHeartbeats 4000000 in
set_option maxRecDepth 100000 in
theorem vf_19 (k d z : Int) (Q S : ByteArray) (a b : Bool) (hk : k = 19) (ha : (Q.toList == []) = a) (hb : (S.toList == []) = b) (w : World) :
    Calls Tryz.prog 50 #[.agg #[.int .i64 k, .int .i64 d, .string Q, .int .i64 z, .string S]] w fun e w' => e = .returned (.bool (a && decide (z ≥ 0) && b)) ∧ Below w.heap.size w w' := by
  have HB : Hid (Below w.heap.size w (w.alloc (.cells #[.int .i64 k, .int .i64 d, .string Q, .int .i64 z, .string S] 29))) := Lib.hid ((Below.refl _ _).alloc (Nat.le_refl _) _)
  have HX : Hid (NB (w.alloc (.cells #[.int .i64 k, .int .i64 d, .string Q, .int .i64 z, .string S] 29)) w.heap.size ⟨k, d, Q.data.toList, z, S.data.toList⟩) := Lib.hid (by
    have := nb_new w ⟨k, d, Q.data.toList, z, S.data.toList⟩ 29
    unfold Nd.cells at this
    rw [strOf_self', strOf_self'] at this
    exact this)
  subst hk
  cases a with
  | true =>
    by_cases p1 : z ≥ 0
    · skip
      cases b with
      | true =>
        have HF : Hid ((true && decide (z ≥ 0) && true) = true) := Lib.hid (by simp [p1])
        rw [HF.out]
        clear HF
        go_enter Tryz.func50, Tryz.ntmps50
        go_wp2_with fail
        try generalize World.alloc w _ = W0 at HB HX ⊢
        have HA := HX.out.at
        simp only [strOf_self'] at HA
        obtain ⟨c0, c1, c2, c3, c4⟩ := HA
        go_wp2
        go_ret
        exact ⟨rfl, HB.out⟩
      | false =>
        have HF : Hid ((true && decide (z ≥ 0) && false) = false) := Lib.hid (by simp [p1])
        rw [HF.out]
        clear HF
        go_enter Tryz.func50, Tryz.ntmps50
        go_wp2_with fail
        try generalize World.alloc w _ = W0 at HB HX ⊢
        have HA := HX.out.at
        simp only [strOf_self'] at HA
        obtain ⟨c0, c1, c2, c3, c4⟩ := HA
        go_wp2
        go_ret
        exact ⟨rfl, HB.out⟩
    · skip
      have HF : Hid ((true && decide (z ≥ 0) && b) = false) := Lib.hid (by simp [p1])
      rw [HF.out]
      clear HF
      go_enter Tryz.func50, Tryz.ntmps50
      go_wp2_with fail
      try generalize World.alloc w _ = W0 at HB HX ⊢
      have HA := HX.out.at
      simp only [strOf_self'] at HA
      obtain ⟨c0, c1, c2, c3, c4⟩ := HA
      go_wp2
      go_ret
      exact ⟨rfl, HB.out⟩
  | false =>
    have HF : Hid ((false && decide (z ≥ 0) && b) = false) := Lib.hid (by simp [])
    rw [HF.out]
    clear HF
    go_enter Tryz.func50, Tryz.ntmps50
    go_wp2_with fail
    try generalize World.alloc w _ = W0 at HB HX ⊢
    have HA := HX.out.at
    simp only [strOf_self'] at HA
    obtain ⟨c0, c1, c2, c3, c4⟩ := HA
    go_wp2
    go_ret
    exact ⟨rfl, HB.out⟩

end Go.Proofs.YtemlceicmpcboaaGreatDoor.Tr
namespace Go.Proofs.YtemlceicmpcboaaGreatDoor.Tr
open Go.RowKit Dk Lx

set_option maxHeartbeats 4000000 in
set_option maxRecDepth 100000 in
theorem vf_20 (k d z : Int) (Q S : ByteArray) (a : Bool) (hk : k = 20) (ha : (Q.toList == []) = a) (w : World) :
    Calls Tryz.prog 50 #[.agg #[.int .i64 k, .int .i64 d, .string Q, .int .i64 z, .string S]] w fun e w' => e = .returned (.bool (a && decide (z = 0) && decide ((S.size : Int) ≤ 1024))) ∧ Below w.heap.size w w' := by
  have HB : Hid (Below w.heap.size w (w.alloc (.cells #[.int .i64 k, .int .i64 d, .string Q, .int .i64 z, .string S] 29))) := Lib.hid ((Below.refl _ _).alloc (Nat.le_refl _) _)
  have HX : Hid (NB (w.alloc (.cells #[.int .i64 k, .int .i64 d, .string Q, .int .i64 z, .string S] 29)) w.heap.size ⟨k, d, Q.data.toList, z, S.data.toList⟩) := Lib.hid (by
    have := nb_new w ⟨k, d, Q.data.toList, z, S.data.toList⟩ 29
    unfold Nd.cells at this
    rw [strOf_self', strOf_self'] at this
    exact this)
  subst hk
  cases a with
  | true =>
    by_cases p1 : z = 0
    · subst p1
      by_cases p2 : (S.size : Int) ≤ 1024
      · skip
        have HF : Hid ((true && decide ((0 : Int) = 0) && decide ((S.size : Int) ≤ 1024)) = true) := Lib.hid (by simp [p2])
        rw [HF.out]
        clear HF
        go_enter Tryz.func50, Tryz.ntmps50
        go_wp2_with fail
        try generalize World.alloc w _ = W0 at HB HX ⊢
        have HA := HX.out.at
        simp only [strOf_self'] at HA
        obtain ⟨c0, c1, c2, c3, c4⟩ := HA
        go_wp2
        go_ret
        exact ⟨rfl, HB.out⟩
      · skip
        have HF : Hid ((true && decide ((0 : Int) = 0) && decide ((S.size : Int) ≤ 1024)) = false) := Lib.hid (by simp [p2])
        rw [HF.out]
        clear HF
        go_enter Tryz.func50, Tryz.ntmps50
        go_wp2_with fail
        try generalize World.alloc w _ = W0 at HB HX ⊢
        have HA := HX.out.at
        simp only [strOf_self'] at HA
        obtain ⟨c0, c1, c2, c3, c4⟩ := HA
        go_wp2
        go_ret
        exact ⟨rfl, HB.out⟩
    · have pp1 : (z == 0) = false := by simpa using p1
      have HF : Hid ((true && decide (z = 0) && decide ((S.size : Int) ≤ 1024)) = false) := Lib.hid (by simp [p1])
      rw [HF.out]
      clear HF
      go_enter Tryz.func50, Tryz.ntmps50
      go_wp2_with fail
      try generalize World.alloc w _ = W0 at HB HX ⊢
      have HA := HX.out.at
      simp only [strOf_self'] at HA
      obtain ⟨c0, c1, c2, c3, c4⟩ := HA
      go_wp2
      go_ret
      exact ⟨rfl, HB.out⟩
  | false =>
    have HF : Hid ((false && decide (z = 0) && decide ((S.size : Int) ≤ 1024)) = false) := Lib.hid (by simp [])
    rw [HF.out]
    clear HF
    go_enter Tryz.func50, Tryz.ntmps50
    go_wp2_with fail
    try generalize World.alloc w _ = W0 at HB HX ⊢
    have HA := HX.out.at
    simp only [strOf_self'] at HA
    obtain ⟨c0, c1, c2, c3, c4⟩ := HA
    go_wp2
    go_ret
    exact ⟨rfl, HB.out⟩

end Go.Proofs.YtemlceicmpcboaaGreatDoor.Tr
