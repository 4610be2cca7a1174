/- The walk of tree; The walk of tree; The walk of tree; The walk of tree; The walk of tree; The walks of tree. No condition but those that each states. -/
import Derived.Test.YtmljjpdodcpohaaGreatDoorMgAF
import Derived.Test.YtmljjpdodcpohaaGreatDoorMgAE
namespace Go.Proofs.YtmljjpdodcpohaaGreatDoor.Tr
open Lib (hid)
set_option maxRecDepth 100000
set_option maxHeartbeats 4000000
open Go.RowKit Dk Lx
theorem vf_19 (k d z : Int) (Q S : ByteArray) (a b : Bool) (hk : k = 19) (ha : (Q.toList == []) = a) (hb : (S.toList == []) = b) (w : World) :
    Calls Tryz.prog 53 #[.agg #[.int .i64 k, .int .i64 d, .string Q, .int .i64 z, .string S]] w fun e w' => e = .returned (.bool (a && decide (z ≥ 0) && b)) ∧ Below w.heap.size w w' := by
  have HB : Hid (Below w.heap.size w (w.alloc (.cells #[.int .i64 k, .int .i64 d, .string Q, .int .i64 z, .string S] 58))) := hid ((Below.refl _ _).alloc (Nat.le_refl _) _)
  have HX : Hid (NB (w.alloc (.cells #[.int .i64 k, .int .i64 d, .string Q, .int .i64 z, .string S] 58)) w.heap.size ⟨k, d, Q.data.toList, z, S.data.toList⟩) := hid (by
    have := nb_new w ⟨k, d, Q.data.toList, z, S.data.toList⟩ 58; unfold Nd.cells at this; rw [strOf_self', strOf_self'] at this
    exact this)
  subst hk; cases a with
  | true =>
    by_cases p1 : z ≥ 0
    · skip
      cases b with
      | true =>
        have HF : Hid ((true && decide (z ≥ 0) && true) = true) := hid (by simp [p1]); rw [HF.out]; clear HF; go_enter Tryz.func53, Tryz.ntmps53
        go_wp2_with fail
        try generalize World.alloc w _ = W0 at HB HX ⊢
        have HA := HX.out.at; simp only [strOf_self'] at HA; obtain ⟨c0, c1, c2, c3, c4⟩ := HA; go_wp2; go_ret; exact ⟨rfl, HB.out⟩
      | false =>
        have HF : Hid ((true && decide (z ≥ 0) && false) = false) := hid (by simp [p1]); rw [HF.out]; clear HF; go_enter Tryz.func53, Tryz.ntmps53
        go_wp2_with fail
        try generalize World.alloc w _ = W0 at HB HX ⊢
        have HA := HX.out.at; simp only [strOf_self'] at HA; obtain ⟨c0, c1, c2, c3, c4⟩ := HA; go_wp2; go_ret; exact ⟨rfl, HB.out⟩
    · skip
      have HF : Hid ((true && decide (z ≥ 0) && b) = false) := hid (by simp [p1]); rw [HF.out]; clear HF; go_enter Tryz.func53, Tryz.ntmps53
      go_wp2_with fail
      try generalize World.alloc w _ = W0 at HB HX ⊢
      have HA := HX.out.at; simp only [strOf_self'] at HA; obtain ⟨c0, c1, c2, c3, c4⟩ := HA; go_wp2; go_ret; exact ⟨rfl, HB.out⟩
  | false =>
    have HF : Hid ((false && decide (z ≥ 0) && b) = false) := hid (by simp []); rw [HF.out]; clear HF; go_enter Tryz.func53, Tryz.ntmps53
    go_wp2_with fail
    try generalize World.alloc w _ = W0 at HB HX ⊢
    have HA := HX.out.at; simp only [strOf_self'] at HA; obtain ⟨c0, c1, c2, c3, c4⟩ := HA; go_wp2; go_ret; exact ⟨rfl, HB.out⟩
end Go.Proofs.YtmljjpdodcpohaaGreatDoor.Tr

namespace Go.Proofs.YtmljjpdodcpohaaGreatDoor.Tr
open Lib (hid)
set_option maxRecDepth 100000
set_option maxHeartbeats 4000000
open Go.RowKit Dk Lx
theorem vf_20 (k d z : Int) (Q S : ByteArray) (a : Bool) (hk : k = 20) (ha : (Q.toList == []) = a) (w : World) :
    Calls Tryz.prog 53 #[.agg #[.int .i64 k, .int .i64 d, .string Q, .int .i64 z, .string S]] w fun e w' => e = .returned (.bool (a && decide (z = 0) && decide ((S.size : Int) ≤ 1024))) ∧ Below w.heap.size w w' := by
  have HB : Hid (Below w.heap.size w (w.alloc (.cells #[.int .i64 k, .int .i64 d, .string Q, .int .i64 z, .string S] 58))) := hid ((Below.refl _ _).alloc (Nat.le_refl _) _)
  have HX : Hid (NB (w.alloc (.cells #[.int .i64 k, .int .i64 d, .string Q, .int .i64 z, .string S] 58)) w.heap.size ⟨k, d, Q.data.toList, z, S.data.toList⟩) := hid (by
    have := nb_new w ⟨k, d, Q.data.toList, z, S.data.toList⟩ 58; unfold Nd.cells at this; rw [strOf_self', strOf_self'] at this
    exact this)
  subst hk; cases a with
  | true =>
    by_cases p1 : z = 0
    · subst p1
      by_cases p2 : (S.size : Int) ≤ 1024
      · skip
        have HF : Hid ((true && decide ((0 : Int) = 0) && decide ((S.size : Int) ≤ 1024)) = true) := hid (by simp [p2]); rw [HF.out]; clear HF; go_enter Tryz.func53, Tryz.ntmps53
        go_wp2_with fail
        try generalize World.alloc w _ = W0 at HB HX ⊢
        have HA := HX.out.at; simp only [strOf_self'] at HA; obtain ⟨c0, c1, c2, c3, c4⟩ := HA; go_wp2; go_ret; exact ⟨rfl, HB.out⟩
      · skip
        have HF : Hid ((true && decide ((0 : Int) = 0) && decide ((S.size : Int) ≤ 1024)) = false) := hid (by simp [p2]); rw [HF.out]; clear HF; go_enter Tryz.func53, Tryz.ntmps53
        go_wp2_with fail
        try generalize World.alloc w _ = W0 at HB HX ⊢
        have HA := HX.out.at; simp only [strOf_self'] at HA; obtain ⟨c0, c1, c2, c3, c4⟩ := HA; go_wp2; go_ret; exact ⟨rfl, HB.out⟩
    · have pp1 : (z == 0) = false := by simpa using p1
      have HF : Hid ((true && decide (z = 0) && decide ((S.size : Int) ≤ 1024)) = false) := hid (by simp [p1]); rw [HF.out]; clear HF; go_enter Tryz.func53, Tryz.ntmps53
      go_wp2_with fail
      try generalize World.alloc w _ = W0 at HB HX ⊢
      have HA := HX.out.at; simp only [strOf_self'] at HA; obtain ⟨c0, c1, c2, c3, c4⟩ := HA; go_wp2; go_ret; exact ⟨rfl, HB.out⟩
  | false =>
    have HF : Hid ((false && decide (z = 0) && decide ((S.size : Int) ≤ 1024)) = false) := hid (by simp []); rw [HF.out]; clear HF; go_enter Tryz.func53, Tryz.ntmps53
    go_wp2_with fail
    try generalize World.alloc w _ = W0 at HB HX ⊢
    have HA := HX.out.at; simp only [strOf_self'] at HA; obtain ⟨c0, c1, c2, c3, c4⟩ := HA; go_wp2; go_ret; exact ⟨rfl, HB.out⟩
end Go.Proofs.YtmljjpdodcpohaaGreatDoor.Tr

namespace Go.Proofs.YtmljjpdodcpohaaGreatDoor.Tr
open Lib (hid)
set_option maxRecDepth 100000
set_option maxHeartbeats 4000000
open Go.RowKit Dk Lx
theorem vf_23 (k d z : Int) (Q S : ByteArray) (a b : Bool) (hk : k = 23) (Ca : Hid (∀ W, Calls Tryz.prog 95 #[.string Q] W fun e w' => e = .returned (.bool a) ∧ Below W.heap.size W w')) (Cb : Hid (∀ W, Calls Tryz.prog 95 #[.string S] W fun e w' => e = .returned (.bool b) ∧ Below W.heap.size W w')) (w : World) :
    Calls Tryz.prog 53 #[.agg #[.int .i64 k, .int .i64 d, .string Q, .int .i64 z, .string S]] w fun e w' => e = .returned (.bool (a && decide (z = 0) && b)) ∧ Below w.heap.size w w' := by
  have HB : Hid (Below w.heap.size w (w.alloc (.cells #[.int .i64 k, .int .i64 d, .string Q, .int .i64 z, .string S] 58))) := hid ((Below.refl _ _).alloc (Nat.le_refl _) _)
  have HX : Hid (NB (w.alloc (.cells #[.int .i64 k, .int .i64 d, .string Q, .int .i64 z, .string S] 58)) w.heap.size ⟨k, d, Q.data.toList, z, S.data.toList⟩) := hid (by
    have := nb_new w ⟨k, d, Q.data.toList, z, S.data.toList⟩ 58; unfold Nd.cells at this; rw [strOf_self', strOf_self'] at this
    exact this)
  subst hk; cases a with
  | true =>
    by_cases p1 : z = 0
    · subst p1
      cases b with
      | true =>
        have HF : Hid ((true && decide ((0 : Int) = 0) && true) = true) := hid (by simp []); rw [HF.out]; clear HF; go_enter Tryz.func53, Tryz.ntmps53
        go_wp2_with fail
        try generalize World.alloc w _ = W0 at HB HX ⊢
        have HA := HX.out.at; simp only [strOf_self'] at HA; obtain ⟨c0, c1, c2, c3, c4⟩ := HA; go_wp2_with fail
        refine (Ca.out _).mono ?_; rintro e W1 ⟨rfl, hb⟩; have HB1 := hid (chain2 HB.out hb); have HX1 := (HX.out.later hb).at; simp only [strOf_self'] at HX1; obtain ⟨d0, d1, d2, d3, d4⟩ := HX1; clear hb Ca; go_wp2_with fail
        refine (Cb.out _).mono ?_; rintro e W2 ⟨rfl, hb⟩; have HB2 := hid (chain2 HB1.out hb); clear hb Cb; go_wp2; go_ret; exact ⟨rfl, HB2.out⟩
      | false =>
        have HF : Hid ((true && decide ((0 : Int) = 0) && false) = false) := hid (by simp []); rw [HF.out]; clear HF; go_enter Tryz.func53, Tryz.ntmps53
        go_wp2_with fail
        try generalize World.alloc w _ = W0 at HB HX ⊢
        have HA := HX.out.at; simp only [strOf_self'] at HA; obtain ⟨c0, c1, c2, c3, c4⟩ := HA; go_wp2_with fail
        refine (Ca.out _).mono ?_; rintro e W1 ⟨rfl, hb⟩; have HB1 := hid (chain2 HB.out hb); have HX1 := (HX.out.later hb).at; simp only [strOf_self'] at HX1; obtain ⟨d0, d1, d2, d3, d4⟩ := HX1; clear hb Ca; go_wp2_with fail
        refine (Cb.out _).mono ?_; rintro e W2 ⟨rfl, hb⟩; have HB2 := hid (chain2 HB1.out hb); clear hb Cb; go_wp2; go_ret; exact ⟨rfl, HB2.out⟩
    · have pp1 : (z == 0) = false := by simpa using p1
      have HF : Hid ((true && decide (z = 0) && b) = false) := hid (by simp [p1]); rw [HF.out]; clear HF; go_enter Tryz.func53, Tryz.ntmps53
      go_wp2_with fail
      try generalize World.alloc w _ = W0 at HB HX ⊢
      have HA := HX.out.at; simp only [strOf_self'] at HA; obtain ⟨c0, c1, c2, c3, c4⟩ := HA; go_wp2_with fail
      refine (Ca.out _).mono ?_; rintro e W1 ⟨rfl, hb⟩; have HB1 := hid (chain2 HB.out hb); have HX1 := (HX.out.later hb).at; simp only [strOf_self'] at HX1; obtain ⟨d0, d1, d2, d3, d4⟩ := HX1; clear hb Ca; go_wp2; go_ret; exact ⟨rfl, HB1.out⟩
  | false =>
    have HF : Hid ((false && decide (z = 0) && b) = false) := hid (by simp []); rw [HF.out]; clear HF; go_enter Tryz.func53, Tryz.ntmps53
    go_wp2_with fail
    try generalize World.alloc w _ = W0 at HB HX ⊢
    have HA := HX.out.at; simp only [strOf_self'] at HA; obtain ⟨c0, c1, c2, c3, c4⟩ := HA; go_wp2_with fail
    refine (Ca.out _).mono ?_; rintro e W1 ⟨rfl, hb⟩; have HB1 := hid (chain2 HB.out hb); have HX1 := (HX.out.later hb).at; simp only [strOf_self'] at HX1; obtain ⟨d0, d1, d2, d3, d4⟩ := HX1; clear hb Ca; go_wp2; go_ret; exact ⟨rfl, HB1.out⟩
end Go.Proofs.YtmljjpdodcpohaaGreatDoor.Tr

namespace Go.Proofs.YtmljjpdodcpohaaGreatDoor.Tr
open Lib (hid)
set_option maxRecDepth 100000
set_option maxHeartbeats 4000000
open Go.RowKit Dk Lx
theorem vf_27 (k d z : Int) (Q S : ByteArray) (a b : Bool) (hk : k = 27) (ha : (Q.toList == []) = a) (Cb : Hid (∀ W, Calls Tryz.prog 96 #[.string S] W fun e w' => e = .returned (.bool b) ∧ W = w')) (w : World) :
    Calls Tryz.prog 53 #[.agg #[.int .i64 k, .int .i64 d, .string Q, .int .i64 z, .string S]] w fun e w' => e = .returned (.bool (a && decide (z = 0) && b)) ∧ Below w.heap.size w w' := by
  have HB : Hid (Below w.heap.size w (w.alloc (.cells #[.int .i64 k, .int .i64 d, .string Q, .int .i64 z, .string S] 58))) := hid ((Below.refl _ _).alloc (Nat.le_refl _) _)
  have HX : Hid (NB (w.alloc (.cells #[.int .i64 k, .int .i64 d, .string Q, .int .i64 z, .string S] 58)) w.heap.size ⟨k, d, Q.data.toList, z, S.data.toList⟩) := hid (by
    have := nb_new w ⟨k, d, Q.data.toList, z, S.data.toList⟩ 58; unfold Nd.cells at this; rw [strOf_self', strOf_self'] at this
    exact this)
  subst hk; cases a with
  | true =>
    by_cases p1 : z = 0
    · subst p1
      cases b with
      | true =>
        have HF : Hid ((true && decide ((0 : Int) = 0) && true) = true) := hid (by simp []); rw [HF.out]; clear HF; go_enter Tryz.func53, Tryz.ntmps53
        go_wp2_with fail
        try generalize World.alloc w _ = W0 at HB HX ⊢
        have HA := HX.out.at; simp only [strOf_self'] at HA; obtain ⟨c0, c1, c2, c3, c4⟩ := HA; go_wp2_with fail
        refine (Cb.out _).mono ?_; rintro e w' ⟨rfl, rfl⟩; clear Cb; go_wp2; go_ret; exact ⟨rfl, HB.out⟩
      | false =>
        have HF : Hid ((true && decide ((0 : Int) = 0) && false) = false) := hid (by simp []); rw [HF.out]; clear HF; go_enter Tryz.func53, Tryz.ntmps53
        go_wp2_with fail
        try generalize World.alloc w _ = W0 at HB HX ⊢
        have HA := HX.out.at; simp only [strOf_self'] at HA; obtain ⟨c0, c1, c2, c3, c4⟩ := HA; go_wp2_with fail
        refine (Cb.out _).mono ?_; rintro e w' ⟨rfl, rfl⟩; clear Cb; go_wp2; go_ret; exact ⟨rfl, HB.out⟩
    · have pp1 : (z == 0) = false := by simpa using p1
      have HF : Hid ((true && decide (z = 0) && b) = false) := hid (by simp [p1]); rw [HF.out]; clear HF; go_enter Tryz.func53, Tryz.ntmps53
      go_wp2_with fail
      try generalize World.alloc w _ = W0 at HB HX ⊢
      have HA := HX.out.at; simp only [strOf_self'] at HA; obtain ⟨c0, c1, c2, c3, c4⟩ := HA; go_wp2; go_ret; exact ⟨rfl, HB.out⟩
  | false =>
    have HF : Hid ((false && decide (z = 0) && b) = false) := hid (by simp []); rw [HF.out]; clear HF; go_enter Tryz.func53, Tryz.ntmps53
    go_wp2_with fail
    try generalize World.alloc w _ = W0 at HB HX ⊢
    have HA := HX.out.at; simp only [strOf_self'] at HA; obtain ⟨c0, c1, c2, c3, c4⟩ := HA; go_wp2; go_ret; exact ⟨rfl, HB.out⟩
end Go.Proofs.YtmljjpdodcpohaaGreatDoor.Tr

namespace Go.Proofs.YtmljjpdodcpohaaGreatDoor.Tr
open Lib (hid)
set_option maxRecDepth 100000
set_option maxHeartbeats 4000000
open Go.RowKit Dk Lx
theorem vf_28 (k d z : Int) (Q S : ByteArray) (a b : Bool) (hk : k = 28) (ha : (Q.toList == []) = a) (Cb : Hid (∀ W, Calls Tryz.prog 97 #[.string S] W fun e w' => e = .returned (.bool b) ∧ W = w')) (w : World) :
    Calls Tryz.prog 53 #[.agg #[.int .i64 k, .int .i64 d, .string Q, .int .i64 z, .string S]] w fun e w' => e = .returned (.bool (a && decide (z = 0) && b)) ∧ Below w.heap.size w w' := by
  have HB : Hid (Below w.heap.size w (w.alloc (.cells #[.int .i64 k, .int .i64 d, .string Q, .int .i64 z, .string S] 58))) := hid ((Below.refl _ _).alloc (Nat.le_refl _) _)
  have HX : Hid (NB (w.alloc (.cells #[.int .i64 k, .int .i64 d, .string Q, .int .i64 z, .string S] 58)) w.heap.size ⟨k, d, Q.data.toList, z, S.data.toList⟩) := hid (by
    have := nb_new w ⟨k, d, Q.data.toList, z, S.data.toList⟩ 58; unfold Nd.cells at this; rw [strOf_self', strOf_self'] at this
    exact this)
  subst hk; cases a with
  | true =>
    by_cases p1 : z = 0
    · subst p1
      cases b with
      | true =>
        have HF : Hid ((true && decide ((0 : Int) = 0) && true) = true) := hid (by simp []); rw [HF.out]; clear HF; go_enter Tryz.func53, Tryz.ntmps53
        go_wp2_with fail
        try generalize World.alloc w _ = W0 at HB HX ⊢
        have HA := HX.out.at; simp only [strOf_self'] at HA; obtain ⟨c0, c1, c2, c3, c4⟩ := HA; go_wp2_with fail
        refine (Cb.out _).mono ?_; rintro e w' ⟨rfl, rfl⟩; clear Cb; go_wp2; go_ret; exact ⟨rfl, HB.out⟩
      | false =>
        have HF : Hid ((true && decide ((0 : Int) = 0) && false) = false) := hid (by simp []); rw [HF.out]; clear HF; go_enter Tryz.func53, Tryz.ntmps53
        go_wp2_with fail
        try generalize World.alloc w _ = W0 at HB HX ⊢
        have HA := HX.out.at; simp only [strOf_self'] at HA; obtain ⟨c0, c1, c2, c3, c4⟩ := HA; go_wp2_with fail
        refine (Cb.out _).mono ?_; rintro e w' ⟨rfl, rfl⟩; clear Cb; go_wp2; go_ret; exact ⟨rfl, HB.out⟩
    · have pp1 : (z == 0) = false := by simpa using p1
      have HF : Hid ((true && decide (z = 0) && b) = false) := hid (by simp [p1]); rw [HF.out]; clear HF; go_enter Tryz.func53, Tryz.ntmps53
      go_wp2_with fail
      try generalize World.alloc w _ = W0 at HB HX ⊢
      have HA := HX.out.at; simp only [strOf_self'] at HA; obtain ⟨c0, c1, c2, c3, c4⟩ := HA; go_wp2; go_ret; exact ⟨rfl, HB.out⟩
  | false =>
    have HF : Hid ((false && decide (z = 0) && b) = false) := hid (by simp []); rw [HF.out]; clear HF; go_enter Tryz.func53, Tryz.ntmps53
    go_wp2_with fail
    try generalize World.alloc w _ = W0 at HB HX ⊢
    have HA := HX.out.at; simp only [strOf_self'] at HA; obtain ⟨c0, c1, c2, c3, c4⟩ := HA; go_wp2; go_ret; exact ⟨rfl, HB.out⟩
end Go.Proofs.YtmljjpdodcpohaaGreatDoor.Tr

namespace Go.Proofs.YtmljjpdodcpohaaGreatDoor.Tr
open Lib (hid)
set_option maxHeartbeats 4000000
open Go.RowKit Dk Lx
def isExpr (k : Int) : Bool := decide (18 ≤ k) && decide (k ≤ 30)
def isStmt (k : Int) : Bool := decide (6 ≤ k) && decide (k ≤ 17)
theorem expr_any (k : Int) (w : World) : Calls Tryz.prog 159 #[.int .i64 k] w fun e w' => e = .returned (.bool (isExpr k)) ∧ w' = w := by
  rcases (show k < 18 ∨ (18 ≤ k ∧ k ≤ 30) ∨ 30 < k by omega) with h | ⟨h, h'⟩ | h
  all_goals
    go_enter Tryz.func159, Tryz.ntmps159
    go_wp2; go_ret; refine ⟨?_, rfl⟩; congr 2
    unfold isExpr; simp
    omega
theorem stmt_any (k : Int) (w : World) : Calls Tryz.prog 158 #[.int .i64 k] w fun e w' => e = .returned (.bool (isStmt k)) ∧ w' = w := by
  rcases (show k < 6 ∨ (6 ≤ k ∧ k ≤ 17) ∨ 17 < k by omega) with h | ⟨h, h'⟩ | h
  all_goals
    go_enter Tryz.func158, Tryz.ntmps158
    go_wp2; go_ret; refine ⟨?_, rfl⟩; congr 2
    unfold isStmt; simp
    omega
theorem rexpr_any (k : Int) (w : World) : Calls Tryz.prog 67 #[.int .i64 k] w fun e w' => e = .returned (.bool (isExpr k)) ∧ w' = w := by
  rcases (show k < 18 ∨ (18 ≤ k ∧ k ≤ 30) ∨ 30 < k by omega) with h | ⟨h, h'⟩ | h
  all_goals
    go_enter Tryz.func67, Tryz.ntmps67
    go_wp2; go_ret; refine ⟨?_, rfl⟩; congr 2
    unfold isExpr; simp
    omega
theorem rstmt_any (k : Int) (w : World) : Calls Tryz.prog 65 #[.int .i64 k] w fun e w' => e = .returned (.bool (isStmt k)) ∧ w' = w := by
  rcases (show k < 6 ∨ (6 ≤ k ∧ k ≤ 17) ∨ 17 < k by omega) with h | ⟨h, h'⟩ | h
  all_goals
    go_enter Tryz.func65, Tryz.ntmps65
    go_wp2; go_ret; refine ⟨?_, rfl⟩; congr 2
    unfold isStmt; simp
    omega
inductive FK where
  | e
  | s
  | k (c : Int)
def FK.pr : FK → Int → Bool
  | .e, x => isExpr x
  | .s, x => isStmt x
  | .k c, x => x == c
structure Gp where
  f : FK
  lo : Int
  hi : Int
def groupsL (k : Int) : List Gp :=
  if k = 1 then [⟨.k 2, 0, 2000⟩, ⟨.k 3, 0, 2000⟩]
  else if k = 3 ∨ k = 24 then [⟨.k 4, 0, 8⟩, ⟨.k 5, 1, 1⟩]
  else if k = 5 then [⟨.s, 0, 2000⟩]
  else if k = 6 ∨ k = 7 ∨ k = 13 ∨ k = 14 ∨ k = 15 ∨ k = 17 ∨ k = 28 ∨ k = 30 then [⟨.e, 1, 1⟩]
  else if k = 26 ∨ k = 27 then [⟨.e, 2, 2⟩]
  else if k = 8 then [⟨.e, 3, 3⟩]
  else if k = 9 then [⟨.e, 1, 1⟩, ⟨.k 5, 1, 2⟩]
  else if k = 10 then [⟨.e, 1, 1⟩, ⟨.k 5, 1, 1⟩]
  else if k = 22 then [⟨.e, 1, 9⟩]
  else if k = 23 then [⟨.e, 0, 8⟩]
  else []
inductive FVal (W : World) : Value → FK → Prop
  | e : FVal W (.func (.func 159) #[] #[]) .e
  | s : FVal W (.func (.func 158) #[] #[]) .s
  | k (g : Nat) (c : Int) (hg : g < W.heap.size) (hc : W.cell? ⟨g, 0, none⟩ = some (.int .i64 c)) : FVal W (.func (.func 187) #[] #[.pointer (some ⟨g, 0, none⟩)]) (.k c)
theorem FVal.later {W W' : World} {v : Value} {f : FK} (h : FVal W v f) (hb : Below W.heap.size W W') : FVal W' v f := by
  cases h with
  | e => exact .e
  | s => exact .s
  | k g c hg hc => exact .k g c (Nat.lt_of_lt_of_le hg hb.size) (by rw [World.cell?_of_block (hb.block g hg)]; exact hc)
inductive Gs (W : World) : Value → List Gp → Prop
  | nil : Gs W (.slice none 0 0) []
  | one (b : Nat) (x : Gp) (u : Value) (hb : b < W.heap.size) (hf : FVal W u x.f) (hr : W.rangeAt b 0 [u, .int .i64 x.lo, .int .i64 x.hi]) : Gs W (.slice (some ⟨b, 0, none⟩) 1 1) [x]
  | two (b : Nat) (x y : Gp) (u v : Value) (hb : b < W.heap.size) (hf : FVal W u x.f) (hg : FVal W v y.f) (hr : W.rangeAt b 0 [u, .int .i64 x.lo, .int .i64 x.hi]) (hs : W.rangeAt b 3 [v, .int .i64 y.lo, .int .i64 y.hi]) : Gs W (.slice (some ⟨b, 0, none⟩) 2 2) [x, y]
theorem Gs.later {W W' : World} {v : Value} {l : List Gp} (h : Gs W v l) (hb : Below W.heap.size W W') : Gs W' v l := by
  cases h with
  | nil => exact .nil
  | one b x u h1 h2 h3 => exact .one b x u (Nat.lt_of_lt_of_le h1 hb.size) (h2.later hb) (rangeAt_block h3 (hb.block b h1))
  | two b x y u v h1 h2 h3 h4 h5 => exact .two b x y u v (Nat.lt_of_lt_of_le h1 hb.size) (h2.later hb) (h3.later hb) (rangeAt_block h4 (hb.block b h1)) (rangeAt_block h5 (hb.block b h1))
theorem is_any (c : Int) (w : World) :
    Calls Tryz.prog 157 #[.int .i64 c] w fun e w' => ∃ g, e = .returned (.func (.func 187) #[] #[.pointer (some ⟨g, 0, none⟩)]) ∧ g < w'.heap.size ∧ w'.cell? ⟨g, 0, none⟩ = some (.int .i64 c) ∧ Below w.heap.size w w' := by
  go_enter Tryz.func157, Tryz.ntmps157
  go_wp2; go_ret; exact ⟨_, rfl, by simp, by rw [World.cell?_alloc_mark]; rfl, (Below.refl _ _).alloc (Nat.le_refl _) _⟩
theorem is1_any (g : Nat) (c x : Int) (w : World) (hc : w.cell? ⟨g, 0, none⟩ = some (.int .i64 c)) :
    Calls Tryz.prog 187 #[.int .i64 x, .pointer (some ⟨g, 0, none⟩)] w fun e w' => e = .returned (.bool (x == c)) ∧ w' = w := by
  go_enter Tryz.func187, Tryz.ntmps187
  go_wp2; go_ret; exact ⟨rfl, rfl⟩
def GOk (k : Int) (w : World) (e : Ending) (w' : World) : Prop := ∃ v, e = .returned v ∧ Gs w' v (groupsL k) ∧ Below w.heap.size w w'
theorem groups_e11 (k : Int) (hk : k = 6 ∨ k = 7 ∨ k = 13 ∨ k = 14 ∨ k = 15 ∨ k = 17 ∨ k = 28 ∨ k = 30) (w : World) : Calls Tryz.prog 98 #[.int .i64 k] w fun e w' => GOk k w e w' := by
  have HR : Hid (groupsL k = [⟨.e, 1, 1⟩]) := hid (by rcases hk with rfl | rfl | rfl | rfl | rfl | rfl | rfl | rfl <;> rfl); rcases hk with rfl | rfl | rfl | rfl | rfl | rfl | rfl | rfl
  all_goals
    go_enter Tryz.func98, Tryz.ntmps98
    go_wp2; go_ret; refine ⟨_, rfl, by rw [HR.out]; exact .one _ _ _ (by simp) .e (range_new w [_, _, _] _), (Below.refl _ _).alloc (Nat.le_refl _) _⟩
theorem groups_s (k : Int) (hk : k = 5) (w : World) : Calls Tryz.prog 98 #[.int .i64 k] w fun e w' => GOk k w e w' := by
  have HR : Hid (groupsL k = [⟨.s, 0, 2000⟩]) := hid (by rcases hk with rfl <;> rfl); subst hk; go_enter Tryz.func98, Tryz.ntmps98
  go_wp2; go_ret; refine ⟨_, rfl, by rw [HR.out]; exact .one _ _ _ (by simp) .s (range_new w [_, _, _] _), (Below.refl _ _).alloc (Nat.le_refl _) _⟩
theorem groups_e22 (k : Int) (hk : k = 26 ∨ k = 27) (w : World) : Calls Tryz.prog 98 #[.int .i64 k] w fun e w' => GOk k w e w' := by
  have HR : Hid (groupsL k = [⟨.e, 2, 2⟩]) := hid (by rcases hk with rfl | rfl <;> rfl); rcases hk with rfl | rfl
  all_goals
    go_enter Tryz.func98, Tryz.ntmps98
    go_wp2; go_ret; refine ⟨_, rfl, by rw [HR.out]; exact .one _ _ _ (by simp) .e (range_new w [_, _, _] _), (Below.refl _ _).alloc (Nat.le_refl _) _⟩
theorem groups_e33 (k : Int) (hk : k = 8) (w : World) : Calls Tryz.prog 98 #[.int .i64 k] w fun e w' => GOk k w e w' := by
  have HR : Hid (groupsL k = [⟨.e, 3, 3⟩]) := hid (by rcases hk with rfl <;> rfl); subst hk; go_enter Tryz.func98, Tryz.ntmps98
  go_wp2; go_ret; refine ⟨_, rfl, by rw [HR.out]; exact .one _ _ _ (by simp) .e (range_new w [_, _, _] _), (Below.refl _ _).alloc (Nat.le_refl _) _⟩
theorem groups_e19 (k : Int) (hk : k = 22) (w : World) : Calls Tryz.prog 98 #[.int .i64 k] w fun e w' => GOk k w e w' := by
  have HR : Hid (groupsL k = [⟨.e, 1, 9⟩]) := hid (by rcases hk with rfl <;> rfl); subst hk; go_enter Tryz.func98, Tryz.ntmps98
  go_wp2; go_ret; refine ⟨_, rfl, by rw [HR.out]; exact .one _ _ _ (by simp) .e (range_new w [_, _, _] _), (Below.refl _ _).alloc (Nat.le_refl _) _⟩
theorem groups_e08 (k : Int) (hk : k = 23) (w : World) : Calls Tryz.prog 98 #[.int .i64 k] w fun e w' => GOk k w e w' := by
  have HR : Hid (groupsL k = [⟨.e, 0, 8⟩]) := hid (by rcases hk with rfl <;> rfl); subst hk; go_enter Tryz.func98, Tryz.ntmps98
  go_wp2; go_ret; refine ⟨_, rfl, by rw [HR.out]; exact .one _ _ _ (by simp) .e (range_new w [_, _, _] _), (Below.refl _ _).alloc (Nat.le_refl _) _⟩
theorem groups_m (k : Int) (hk : k = 1) (w : World) : Calls Tryz.prog 98 #[.int .i64 k] w fun e w' => GOk k w e w' := by
  have HR : Hid (groupsL k = [⟨.k 2, 0, 2000⟩, ⟨.k 3, 0, 2000⟩]) := hid (by rcases hk with rfl <;> rfl); have I0 := hid (fun W => is_any 2 W); have I1 := hid (fun W => is_any 3 W); subst hk; go_enter Tryz.func98, Tryz.ntmps98
  go_wp2_with fail
  refine (I0.out _).mono ?_; rintro e w0 ⟨g0, rfl, hg0, hc0, hb0⟩; have F0 := hid (FVal.k g0 _ hg0 hc0); have B0 := hid hb0; clear hg0 hc0 hb0; go_wp2_with fail
  refine (I1.out _).mono ?_; rintro e w1 ⟨g1, rfl, hg1, hc1, hb1⟩; have F1 := hid (FVal.k g1 _ hg1 hc1); have B1 := hid hb1; clear hg1 hc1 hb1; go_wp2; go_ret; have A := fun o => ((Below.refl w1.heap.size w1).alloc (Nat.le_refl _) o)
  refine ⟨_, rfl, by rw [HR.out]; exact .two _ _ _ _ _ (by simp) ((F0.out.later B1.out).later (A _)) (F1.out.later (A _)) (rangeAt_left (ys := [_, _, _]) (range_new w1 [_, _, _, _, _, _] _)) (rangeAt_right (xs := [_, _, _]) (range_new w1 [_, _, _, _, _, _] _) rfl), (chain2 B0.out B1.out).trans ((A _).mono (by have := (chain2 B0.out B1.out).size; omega))⟩
theorem groups_f (k : Int) (hk : k = 3 ∨ k = 24) (w : World) : Calls Tryz.prog 98 #[.int .i64 k] w fun e w' => GOk k w e w' := by
  have HR : Hid (groupsL k = [⟨.k 4, 0, 8⟩, ⟨.k 5, 1, 1⟩]) := hid (by rcases hk with rfl | rfl <;> rfl); have I0 := hid (fun W => is_any 4 W); have I1 := hid (fun W => is_any 5 W); rcases hk with rfl | rfl
  all_goals
    go_enter Tryz.func98, Tryz.ntmps98
    go_wp2_with fail
    refine (I0.out _).mono ?_; rintro e w0 ⟨g0, rfl, hg0, hc0, hb0⟩; have F0 := hid (FVal.k g0 _ hg0 hc0); have B0 := hid hb0; clear hg0 hc0 hb0; go_wp2_with fail
    refine (I1.out _).mono ?_; rintro e w1 ⟨g1, rfl, hg1, hc1, hb1⟩; have F1 := hid (FVal.k g1 _ hg1 hc1); have B1 := hid hb1; clear hg1 hc1 hb1; go_wp2; go_ret; have A := fun o => ((Below.refl w1.heap.size w1).alloc (Nat.le_refl _) o)
    refine ⟨_, rfl, by rw [HR.out]; exact .two _ _ _ _ _ (by simp) ((F0.out.later B1.out).later (A _)) (F1.out.later (A _)) (rangeAt_left (ys := [_, _, _]) (range_new w1 [_, _, _, _, _, _] _)) (rangeAt_right (xs := [_, _, _]) (range_new w1 [_, _, _, _, _, _] _) rfl), (chain2 B0.out B1.out).trans ((A _).mono (by have := (chain2 B0.out B1.out).size; omega))⟩
theorem groups_i (k : Int) (hk : k = 9) (w : World) : Calls Tryz.prog 98 #[.int .i64 k] w fun e w' => GOk k w e w' := by
  have HR : Hid (groupsL k = [⟨.e, 1, 1⟩, ⟨.k 5, 1, 2⟩]) := hid (by rcases hk with rfl <;> rfl); have I0 := hid (fun W => is_any 5 W); subst hk; go_enter Tryz.func98, Tryz.ntmps98
  go_wp2_with fail
  refine (I0.out _).mono ?_; rintro e w0 ⟨g0, rfl, hg0, hc0, hb0⟩; have F0 := hid (FVal.k g0 _ hg0 hc0); have B0 := hid hb0; clear hg0 hc0 hb0; go_wp2; go_ret; have A := fun o => ((Below.refl w0.heap.size w0).alloc (Nat.le_refl _) o)
  refine ⟨_, rfl, by rw [HR.out]; exact .two _ _ _ _ _ (by simp) .e (F0.out.later (A _)) (rangeAt_left (ys := [_, _, _]) (range_new w0 [_, _, _, _, _, _] _)) (rangeAt_right (xs := [_, _, _]) (range_new w0 [_, _, _, _, _, _] _) rfl), B0.out.trans ((A _).mono (by have := B0.out.size; omega))⟩
theorem groups_w (k : Int) (hk : k = 10) (w : World) : Calls Tryz.prog 98 #[.int .i64 k] w fun e w' => GOk k w e w' := by
  have HR : Hid (groupsL k = [⟨.e, 1, 1⟩, ⟨.k 5, 1, 1⟩]) := hid (by rcases hk with rfl <;> rfl); have I0 := hid (fun W => is_any 5 W); subst hk; go_enter Tryz.func98, Tryz.ntmps98
  go_wp2_with fail
  refine (I0.out _).mono ?_; rintro e w0 ⟨g0, rfl, hg0, hc0, hb0⟩; have F0 := hid (FVal.k g0 _ hg0 hc0); have B0 := hid hb0; clear hg0 hc0 hb0; go_wp2; go_ret; have A := fun o => ((Below.refl w0.heap.size w0).alloc (Nat.le_refl _) o)
  refine ⟨_, rfl, by rw [HR.out]; exact .two _ _ _ _ _ (by simp) .e (F0.out.later (A _)) (rangeAt_left (ys := [_, _, _]) (range_new w0 [_, _, _, _, _, _] _)) (rangeAt_right (xs := [_, _, _]) (range_new w0 [_, _, _, _, _, _] _) rfl), B0.out.trans ((A _).mono (by have := B0.out.size; omega))⟩
theorem groups_0 (k : Int) (hk : k ≠ 1 ∧ k ≠ 3 ∧ k ≠ 24 ∧ k ≠ 5 ∧ k ≠ 6 ∧ k ≠ 7 ∧ k ≠ 13 ∧ k ≠ 14 ∧ k ≠ 15 ∧ k ≠ 17 ∧ k ≠ 28 ∧ k ≠ 30 ∧ k ≠ 26 ∧ k ≠ 27 ∧ k ≠ 8 ∧ k ≠ 9 ∧ k ≠ 10 ∧ k ≠ 22 ∧ k ≠ 23) (w : World) : Calls Tryz.prog 98 #[.int .i64 k] w fun e w' => GOk k w e w' := by
  have HR : Hid (groupsL k = []) := hid (by unfold groupsL; simp [hk])
  obtain ⟨n1, n3, n24, n5, n6, n7, n13, n14, n15, n17, n28, n30, n26, n27, n8, n9, n10, n22, n23⟩ := hk; have m1 : (k == 1) = false := beq_false_of_ne n1; have m3 : (k == 3) = false := beq_false_of_ne n3; have m24 : (k == 24) = false := beq_false_of_ne n24; have m5 : (k == 5) = false := beq_false_of_ne n5; have m6 : (k == 6) = false := beq_false_of_ne n6; have m7 : (k == 7) = false := beq_false_of_ne n7; have m13 : (k == 13) = false := beq_false_of_ne n13; have m14 : (k == 14) = false := beq_false_of_ne n14; have m15 : (k == 15) = false := beq_false_of_ne n15; have m17 : (k == 17) = false := beq_false_of_ne n17; have m28 : (k == 28) = false := beq_false_of_ne n28; have m30 : (k == 30) = false := beq_false_of_ne n30; have m26 : (k == 26) = false := beq_false_of_ne n26; have m27 : (k == 27) = false := beq_false_of_ne n27; have m8 : (k == 8) = false := beq_false_of_ne n8; have m9 : (k == 9) = false := beq_false_of_ne n9; have m10 : (k == 10) = false := beq_false_of_ne n10; have m22 : (k == 22) = false := beq_false_of_ne n22; have m23 : (k == 23) = false := beq_false_of_ne n23; clear n1 n3 n24 n5 n6 n7 n13 n14 n15 n17 n28 n30 n26 n27 n8 n9 n10 n22 n23; go_enter Tryz.func98, Tryz.ntmps98
  go_wp2; go_ret; exact ⟨_, rfl, by rw [HR.out]; exact .nil, Below.refl _ _⟩
theorem groups_any (k : Int) (w : World) : Calls Tryz.prog 98 #[.int .i64 k] w fun e w' => GOk k w e w' := by
  by_cases a1 : k = 6 ∨ k = 7 ∨ k = 13 ∨ k = 14 ∨ k = 15 ∨ k = 17 ∨ k = 28 ∨ k = 30
  · exact groups_e11 k a1 w
  by_cases a2 : k = 5
  · exact groups_s k a2 w
  by_cases a3 : k = 26 ∨ k = 27
  · exact groups_e22 k a3 w
  by_cases a4 : k = 8
  · exact groups_e33 k a4 w
  by_cases a5 : k = 22
  · exact groups_e19 k a5 w
  by_cases a6 : k = 23
  · exact groups_e08 k a6 w
  by_cases a7 : k = 1
  · exact groups_m k a7 w
  by_cases a8 : k = 3 ∨ k = 24
  · exact groups_f k a8 w
  by_cases a9 : k = 9
  · exact groups_i k a9 w
  by_cases b1 : k = 10
  · exact groups_w k b1 w
  exact groups_0 k (by omega) w
end Go.Proofs.YtmljjpdodcpohaaGreatDoor.Tr

