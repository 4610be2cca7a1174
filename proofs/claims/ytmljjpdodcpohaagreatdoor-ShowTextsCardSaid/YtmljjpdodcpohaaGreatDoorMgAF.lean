/- The walk of lex; A name for a text that stands elsewhere; The walks of tree; The walk of tree; The walk of tree; The walk of tree; The walk of tree. No condition but those that each states. -/
import Derived.Test.YtmljjpdodcpohaaGreatDoorMgAE
namespace Go.Proofs.YtmljjpdodcpohaaGreatDoor.Lx
open Lib (hid)
set_option maxHeartbeats 1000000
open Go.RowKit Dk
theorem spanN_full (p : UInt8 → Bool) : ∀ l : List UInt8, spanN p l = l.length ↔ l.all p = true
  | [] => by simp [spanN]
  | c :: r => by
    have h := spanN_full p r; have hle := spanN_le p r; unfold spanN; by_cases hc : p c = true
    · rw [if_pos hc, List.length_cons, List.all_cons, hc, Bool.true_and, ← h]; omega
    · rw [if_neg hc, List.length_cons, List.all_cons]; simp [hc]
theorem isName_cons (c : UInt8) (r : List UInt8) : isName (c :: r) = (decide ((c :: r).length ≤ 16) && isL c && decide (spanN isW (c :: r) = (c :: r).length) && !isKey (c :: r)) := by
  unfold isName
  have h : (c :: r).all isW = decide (spanN isW (c :: r) = (c :: r).length) := by
    cases h : (c :: r).all isW with
    | true => exact (decide_eq_true ((spanN_full _ _).2 h)).symm
    | false => exact (decide_eq_false (fun e => by rw [(spanN_full _ _).1 e] at h; cases h)).symm
  rw [h]; simp
theorem i32_byte (c : UInt8) : IntKind.i32.wrap (c.toNat : Int) = (c.toNat : Int) := by
  have := c.toNat_lt; simp [IntKind.wrap, IntKind.bits, IntKind.signed]; omega
theorem name_nil (w : World) : Calls Tryz.prog 95 #[.string ⟨#[]⟩] w fun e w' => e = .returned (.bool (isName [])) ∧ Below w.heap.size w w' := by
  go_enter Tryz.func95, Tryz.ntmps95
  go_wp2; go_ret; exact ⟨rfl, Below.refl _ _⟩
theorem name_cons (c : UInt8) (r : List UInt8) (w : World) (hs : (c :: r).length ≤ 2 ^ 40) : Calls Tryz.prog 95 #[.string (strOf (c :: r))] w fun e w' => e = .returned (.bool (isName (c :: r))) ∧ Below w.heap.size w w' := by
  have hsz := strOf_size (c :: r); have hne : ((strOf (c :: r)).toList == []) = false := by rw [strOf_tl]; rfl
  have hne2 : ((strOf (c :: r)).toList != []) = true := by rw [strOf_tl]; rfl
  have hpos : 0 < (strOf (c :: r)).size := by rw [hsz]; simp
  have hidx : ∀ W : World, (Instr.index 9 (.string (strOf (c :: r))) (.int .i64 0)).run Tryz.prog W = .ok (.int .u8 (c.toNat : Int)) W := fun W => by
    have h1 : ((strOf (c :: r))[0]'hpos) = c := rfl; rw [← h1]; go_simp
  have hcv := i32_byte c; have CL := hid (fun W => letter_any (c.toNat : Int) W)
  have CW : Hid (∀ W, Calls Tryz.prog 156 #[.string (strOf (c :: r)), .int .i64 0] W fun e w' => e = .returned (.int .i64 (spanN isW (c :: r) : Nat)) ∧ Below W.heap.size W w') := hid (fun W => by
    have := wordEnd_any (strOf (c :: r)) 0 W (Nat.zero_le _) (by omega); rw [show from' (strOf (c :: r)) 0 = c :: r by simp [from', strOf], Nat.zero_add] at this
    exact this)
  have CK := hid (fun W => key_any (c :: r) W); have HN := hid (isName_cons c r); generalize isName (c :: r) = N at *; generalize (c :: r).length = m at *; generalize spanN isW (c :: r) = n at *; generalize isKey (c :: r) = K at *; generalize strOf (c :: r) = s at *; by_cases h16 : m ≤ 16
  · cases hl : isL c with
    | false =>
      have k1 : rL (c.toNat : Int) = false := hl; rw [k1] at CL; have HF : Hid (N = false) := hid (by rw [HN.out, hl]; simp)
      clear k1 hl; go_enter Tryz.func95, Tryz.ntmps95
      go_wp2_with (go_at_call 138; refine (CL.out _).mono ?_; rintro e w' ⟨rfl, rfl⟩)
      go_ret; exact ⟨by rw [HF.out]; rfl, Below.refl _ _⟩
    | true =>
      have k1 : rL (c.toNat : Int) = true := hl; rw [k1] at CL; by_cases hn : n = m
      · have HF : Hid (N = !K) := hid (by rw [HN.out, hl]; simp [h16, hn])
        subst hn; clear k1 hl; cases K
        all_goals
          go_enter Tryz.func95, Tryz.ntmps95
          go_wp2_with (first
            | (go_at_call 138; refine (CL.out _).mono ?_; rintro e w' ⟨rfl, rfl⟩)
            | (go_at_call 156; refine (CW.out _).mono ?_; rintro e w' ⟨rfl, hb⟩; have HB := hid hb; clear hb)
            | (go_at_call 99; refine (CK.out _).mono ?_; rintro e w' ⟨rfl, rfl⟩))
          go_ret; exact ⟨by rw [HF.out]; rfl, HB.out⟩
      · have HF : Hid (N = false) := hid (by rw [HN.out, hl]; simp [hn])
        have hnm : ((n : Int) == (m : Int)) = false := by simp; omega
        clear k1 hl; go_enter Tryz.func95, Tryz.ntmps95
        go_wp2_with (first
          | (go_at_call 138; refine (CL.out _).mono ?_; rintro e w' ⟨rfl, rfl⟩)
          | (go_at_call 156; refine (CW.out _).mono ?_; rintro e w' ⟨rfl, hb⟩; have HB := hid hb; clear hb))
        go_ret; exact ⟨by rw [HF.out]; rfl, HB.out⟩
  · have HF : Hid (N = false) := hid (by rw [HN.out]; simp [h16])
    go_enter Tryz.func95, Tryz.ntmps95
    go_wp2; go_ret; exact ⟨by rw [HF.out]; rfl, Below.refl _ _⟩
theorem name_any (l : List UInt8) (w : World) (hs : l.length ≤ 2 ^ 40) : Calls Tryz.prog 95 #[.string (strOf l)] w fun e w' => e = .returned (.bool (isName l)) ∧ Below w.heap.size w w' := by
  cases l with
  | nil => exact name_nil w
  | cons c r => exact name_cons c r w hs
end Go.Proofs.YtmljjpdodcpohaaGreatDoor.Lx

namespace Go.Proofs.YtmljjpdodcpohaaGreatDoor.Tr
set_option maxHeartbeats 4000000
open Go.RowKit Dk Lx
def binList : List (List UInt8) := [[43], [45], [42], [47], [37], [46, 46], [61, 61], [33, 61], [60], [60, 61], [97, 110, 100], [111, 114]]
def unList : List (List UInt8) := [[45], [110, 111, 116], [108, 101, 110]]
def isBin (l : List UInt8) : Bool := binList.contains l
def isUn (l : List UInt8) : Bool := unList.contains l
theorem isBin_iff (l : List UInt8) : isBin l = true ↔ l ∈ binList := by unfold isBin; exact List.contains_iff_mem
theorem isUn_iff (l : List UInt8) : isUn l = true ↔ l ∈ unList := by unfold isUn; exact List.contains_iff_mem
theorem bin_yes (l : List UInt8) (h : l ∈ binList) (w : World) : Calls Tryz.prog 96 #[.string (strOf l)] w fun e w' => e = .returned (.bool true) ∧ w = w' := by
  have hb : ∀ m, m ∈ binList → ((strOf l).toList == m) = decide (l = m) := fun m _ => by
    have := str_beq l m; rwa [strOf_tl m] at this
  simp only [binList, List.mem_cons, List.not_mem_nil, or_false, forall_eq_or_imp, forall_eq] at hb; obtain ⟨h1, h2, h3, h4, h5, h6, h7, h8, h9, h10, h11, h12⟩ := hb; simp only [binList, List.mem_cons, List.not_mem_nil, or_false] at h; generalize strOf l = s at *; rcases h with rfl | rfl | rfl | rfl | rfl | rfl | rfl | rfl | rfl | rfl | rfl | rfl
  all_goals
    first | replace h1 := h1.trans (show decide _ = true by decide) | replace h1 := h1.trans (show decide _ = false by decide)
    first | replace h2 := h2.trans (show decide _ = true by decide) | replace h2 := h2.trans (show decide _ = false by decide)
    first | replace h3 := h3.trans (show decide _ = true by decide) | replace h3 := h3.trans (show decide _ = false by decide)
    first | replace h4 := h4.trans (show decide _ = true by decide) | replace h4 := h4.trans (show decide _ = false by decide)
    first | replace h5 := h5.trans (show decide _ = true by decide) | replace h5 := h5.trans (show decide _ = false by decide)
    first | replace h6 := h6.trans (show decide _ = true by decide) | replace h6 := h6.trans (show decide _ = false by decide)
    first | replace h7 := h7.trans (show decide _ = true by decide) | replace h7 := h7.trans (show decide _ = false by decide)
    first | replace h8 := h8.trans (show decide _ = true by decide) | replace h8 := h8.trans (show decide _ = false by decide)
    first | replace h9 := h9.trans (show decide _ = true by decide) | replace h9 := h9.trans (show decide _ = false by decide)
    first | replace h10 := h10.trans (show decide _ = true by decide) | replace h10 := h10.trans (show decide _ = false by decide)
    first | replace h11 := h11.trans (show decide _ = true by decide) | replace h11 := h11.trans (show decide _ = false by decide)
    first | replace h12 := h12.trans (show decide _ = true by decide) | replace h12 := h12.trans (show decide _ = false by decide)
    go_enter Tryz.func96, Tryz.ntmps96
    go_wp2; go_ret; exact ⟨rfl, rfl⟩
theorem bin_no (l : List UInt8) (h : l ∉ binList) (w : World) : Calls Tryz.prog 96 #[.string (strOf l)] w fun e w' => e = .returned (.bool false) ∧ w = w' := by
  have hb : ∀ m, m ∈ binList → ((strOf l).toList == m) = false := fun m hm => by
    rw [strOf_tl]; exact beq_false_of_ne (fun e => h (e ▸ hm))
  simp only [binList, List.mem_cons, List.not_mem_nil, or_false, forall_eq_or_imp, forall_eq] at hb; obtain ⟨h1, h2, h3, h4, h5, h6, h7, h8, h9, h10, h11, h12⟩ := hb; generalize strOf l = s at *; go_enter Tryz.func96, Tryz.ntmps96
  go_wp2; go_ret; exact ⟨rfl, rfl⟩
theorem bin_any (l : List UInt8) (w : World) : Calls Tryz.prog 96 #[.string (strOf l)] w fun e w' => e = .returned (.bool (isBin l)) ∧ w = w' := by
  cases h : isBin l with
  | true => exact bin_yes l ((isBin_iff l).1 h) w
  | false => exact bin_no l (fun hm => by rw [(isBin_iff l).2 hm] at h; cases h) w
theorem un_yes (l : List UInt8) (h : l ∈ unList) (w : World) : Calls Tryz.prog 97 #[.string (strOf l)] w fun e w' => e = .returned (.bool true) ∧ w = w' := by
  have hb : ∀ m, m ∈ unList → ((strOf l).toList == m) = decide (l = m) := fun m _ => by
    have := str_beq l m; rwa [strOf_tl m] at this
  simp only [unList, List.mem_cons, List.not_mem_nil, or_false, forall_eq_or_imp, forall_eq] at hb; obtain ⟨h1, h2, h3⟩ := hb; simp only [unList, List.mem_cons, List.not_mem_nil, or_false] at h; generalize strOf l = s at *; rcases h with rfl | rfl | rfl
  all_goals
    first | replace h1 := h1.trans (show decide _ = true by decide) | replace h1 := h1.trans (show decide _ = false by decide)
    first | replace h2 := h2.trans (show decide _ = true by decide) | replace h2 := h2.trans (show decide _ = false by decide)
    first | replace h3 := h3.trans (show decide _ = true by decide) | replace h3 := h3.trans (show decide _ = false by decide)
    go_enter Tryz.func97, Tryz.ntmps97
    go_wp2; go_ret; exact ⟨rfl, rfl⟩
theorem un_no (l : List UInt8) (h : l ∉ unList) (w : World) : Calls Tryz.prog 97 #[.string (strOf l)] w fun e w' => e = .returned (.bool false) ∧ w = w' := by
  have hb : ∀ m, m ∈ unList → ((strOf l).toList == m) = false := fun m hm => by
    rw [strOf_tl]; exact beq_false_of_ne (fun e => h (e ▸ hm))
  simp only [unList, List.mem_cons, List.not_mem_nil, or_false, forall_eq_or_imp, forall_eq] at hb; obtain ⟨h1, h2, h3⟩ := hb; generalize strOf l = s at *; go_enter Tryz.func97, Tryz.ntmps97
  go_wp2; go_ret; exact ⟨rfl, rfl⟩
theorem un_any (l : List UInt8) (w : World) : Calls Tryz.prog 97 #[.string (strOf l)] w fun e w' => e = .returned (.bool (isUn l)) ∧ w = w' := by
  cases h : isUn l with
  | true => exact un_yes l ((isUn_iff l).1 h) w
  | false => exact un_no l (fun hm => by rw [(isUn_iff l).2 hm] at h; cases h) w
end Go.Proofs.YtmljjpdodcpohaaGreatDoor.Tr

namespace Go.Proofs.YtmljjpdodcpohaaGreatDoor.Tr
open Lib (hid)
set_option maxRecDepth 100000
set_option maxHeartbeats 4000000
open Go.RowKit Dk Lx
theorem vf_0 (k d z : Int) (Q S : ByteArray) (a b : Bool) (hk : k ≠ 1 ∧ k ≠ 2 ∧ k ≠ 3 ∧ k ≠ 4 ∧ k ≠ 6 ∧ k ≠ 7 ∧ k ≠ 21 ∧ k ≠ 19 ∧ k ≠ 20 ∧ k ≠ 23 ∧ k ≠ 27 ∧ k ≠ 28) (ha : (Q.toList == []) = a) (hb : (S.toList == []) = b) (w : World) :
    Calls Tryz.prog 53 #[.agg #[.int .i64 k, .int .i64 d, .string Q, .int .i64 z, .string S]] w fun e w' => e = .returned (.bool (a && decide (z = 0) && b)) ∧ Below w.heap.size w w' := by
  have HB : Hid (Below w.heap.size w (w.alloc (.cells #[.int .i64 k, .int .i64 d, .string Q, .int .i64 z, .string S] 58))) := hid ((Below.refl _ _).alloc (Nat.le_refl _) _)
  have HX : Hid (NB (w.alloc (.cells #[.int .i64 k, .int .i64 d, .string Q, .int .i64 z, .string S] 58)) w.heap.size ⟨k, d, Q.data.toList, z, S.data.toList⟩) := hid (by
    have := nb_new w ⟨k, d, Q.data.toList, z, S.data.toList⟩ 58; unfold Nd.cells at this; rw [strOf_self', strOf_self'] at this
    exact this)
  obtain ⟨n1, n2, n3, n4, n6, n7, n21, n19, n20, n23, n27, n28⟩ := hk; have m1 : (k == 1) = false := beq_false_of_ne n1; have m2 : (k == 2) = false := beq_false_of_ne n2; have m3 : (k == 3) = false := beq_false_of_ne n3; have m4 : (k == 4) = false := beq_false_of_ne n4; have m6 : (k == 6) = false := beq_false_of_ne n6; have m7 : (k == 7) = false := beq_false_of_ne n7; have m21 : (k == 21) = false := beq_false_of_ne n21; have m19 : (k == 19) = false := beq_false_of_ne n19; have m20 : (k == 20) = false := beq_false_of_ne n20; have m23 : (k == 23) = false := beq_false_of_ne n23; have m27 : (k == 27) = false := beq_false_of_ne n27; have m28 : (k == 28) = false := beq_false_of_ne n28; clear n1 n2 n3 n4 n6 n7 n21 n19 n20 n23 n27 n28; cases a with
  | true =>
    by_cases p1 : z = 0
    · subst p1
      cases b with
      | true =>
        have HF : Hid ((true && decide ((0 : Int) = 0) && true) = true) := hid (by simp []); rw [HF.out]; clear HF; go_enter Tryz.func53, Tryz.ntmps53
        go_wp2_with fail
        try generalize World.alloc w _ = W0 at HB HX ⊢
        have HA := HX.out.at; simp only [strOf_self'] at HA; obtain ⟨c0, c1, c2, c3, c4⟩ := HA; go_wp2; go_ret; exact ⟨rfl, HB.out⟩
      | false =>
        have HF : Hid ((true && decide ((0 : Int) = 0) && false) = false) := hid (by simp []); rw [HF.out]; clear HF; go_enter Tryz.func53, Tryz.ntmps53
        go_wp2_with fail
        try generalize World.alloc w _ = W0 at HB HX ⊢
        have HA := HX.out.at; simp only [strOf_self'] at HA; obtain ⟨c0, c1, c2, c3, c4⟩ := HA; go_wp2; go_ret; exact ⟨rfl, HB.out⟩
    · have pp1 : (z == 0) = false := by simpa using p1
      have HF : Hid ((true && decide (z = 0) && b) = false) := hid (by simp [p1]); rw [HF.out]; clear HF; go_enter Tryz.func53, Tryz.ntmps53
      go_wp2_with fail
      try generalize World.alloc w _ = W0 at HB HX ⊢
      have HA := HX.out.at; simp only [strOf_self'] at HA; obtain ⟨c0, c1, c2, c3, c4⟩ := HA; go_wp2; go_ret; exact ⟨rfl, HB.out⟩
  | false =>
    have HF : Hid ((false && decide (z = 0) && b) = false) := hid (by simp []); rw [HF.out]; clear HF; go_enter Tryz.func53, Tryz.ntmps53
    go_wp2_with fail
    try generalize World.alloc w _ = W0 at HB HX ⊢
    have HA := HX.out.at; simp only [strOf_self'] at HA; obtain ⟨c0, c1, c2, c3, c4⟩ := HA; go_wp2; go_ret; exact ⟨rfl, HB.out⟩
end Go.Proofs.YtmljjpdodcpohaaGreatDoor.Tr

namespace Go.Proofs.YtmljjpdodcpohaaGreatDoor.Tr
open Lib (hid)
set_option maxRecDepth 100000
set_option maxHeartbeats 4000000
open Go.RowKit Dk Lx
theorem vf_1 (k d z : Int) (Q S : ByteArray) (a b : Bool) (hk : k = 1) (Ca : Hid (∀ W, Calls Tryz.prog 95 #[.string Q] W fun e w' => e = .returned (.bool a) ∧ Below W.heap.size W w')) (hb : (S.toList == []) = b) (w : World) :
    Calls Tryz.prog 53 #[.agg #[.int .i64 k, .int .i64 d, .string Q, .int .i64 z, .string S]] w fun e w' => e = .returned (.bool (a && decide (1 ≤ z) && decide (z ≤ 2147483647) && b)) ∧ Below w.heap.size w w' := by
  have HB : Hid (Below w.heap.size w (w.alloc (.cells #[.int .i64 k, .int .i64 d, .string Q, .int .i64 z, .string S] 58))) := hid ((Below.refl _ _).alloc (Nat.le_refl _) _)
  have HX : Hid (NB (w.alloc (.cells #[.int .i64 k, .int .i64 d, .string Q, .int .i64 z, .string S] 58)) w.heap.size ⟨k, d, Q.data.toList, z, S.data.toList⟩) := hid (by
    have := nb_new w ⟨k, d, Q.data.toList, z, S.data.toList⟩ 58; unfold Nd.cells at this; rw [strOf_self', strOf_self'] at this
    exact this)
  subst hk; cases a with
  | true =>
    by_cases p1 : 1 ≤ z
    · skip
      by_cases p2 : z ≤ 2147483647
      · skip
        cases b with
        | true =>
          have HF : Hid ((true && decide (1 ≤ z) && decide (z ≤ 2147483647) && true) = true) := hid (by simp [p1, p2]); rw [HF.out]; clear HF; go_enter Tryz.func53, Tryz.ntmps53
          go_wp2_with fail
          try generalize World.alloc w _ = W0 at HB HX ⊢
          have HA := HX.out.at; simp only [strOf_self'] at HA; obtain ⟨c0, c1, c2, c3, c4⟩ := HA; go_wp2_with fail
          refine (Ca.out _).mono ?_; rintro e W1 ⟨rfl, hb⟩; have HB1 := hid (chain2 HB.out hb); have HX1 := (HX.out.later hb).at; simp only [strOf_self'] at HX1; obtain ⟨d0, d1, d2, d3, d4⟩ := HX1; clear hb Ca; go_wp2; go_ret; exact ⟨rfl, HB1.out⟩
        | false =>
          have HF : Hid ((true && decide (1 ≤ z) && decide (z ≤ 2147483647) && false) = false) := hid (by simp [p1, p2]); rw [HF.out]; clear HF; go_enter Tryz.func53, Tryz.ntmps53
          go_wp2_with fail
          try generalize World.alloc w _ = W0 at HB HX ⊢
          have HA := HX.out.at; simp only [strOf_self'] at HA; obtain ⟨c0, c1, c2, c3, c4⟩ := HA; go_wp2_with fail
          refine (Ca.out _).mono ?_; rintro e W1 ⟨rfl, hb⟩; have HB1 := hid (chain2 HB.out hb); have HX1 := (HX.out.later hb).at; simp only [strOf_self'] at HX1; obtain ⟨d0, d1, d2, d3, d4⟩ := HX1; clear hb Ca; go_wp2; go_ret; exact ⟨rfl, HB1.out⟩
      · skip
        have HF : Hid ((true && decide (1 ≤ z) && decide (z ≤ 2147483647) && b) = false) := hid (by simp [p1, p2]); rw [HF.out]; clear HF; go_enter Tryz.func53, Tryz.ntmps53
        go_wp2_with fail
        try generalize World.alloc w _ = W0 at HB HX ⊢
        have HA := HX.out.at; simp only [strOf_self'] at HA; obtain ⟨c0, c1, c2, c3, c4⟩ := HA; go_wp2_with fail
        refine (Ca.out _).mono ?_; rintro e W1 ⟨rfl, hb⟩; have HB1 := hid (chain2 HB.out hb); have HX1 := (HX.out.later hb).at; simp only [strOf_self'] at HX1; obtain ⟨d0, d1, d2, d3, d4⟩ := HX1; clear hb Ca; go_wp2; go_ret; exact ⟨rfl, HB1.out⟩
    · skip
      have HF : Hid ((true && decide (1 ≤ z) && decide (z ≤ 2147483647) && b) = false) := hid (by simp [p1]); rw [HF.out]; clear HF; go_enter Tryz.func53, Tryz.ntmps53
      go_wp2_with fail
      try generalize World.alloc w _ = W0 at HB HX ⊢
      have HA := HX.out.at; simp only [strOf_self'] at HA; obtain ⟨c0, c1, c2, c3, c4⟩ := HA; go_wp2_with fail
      refine (Ca.out _).mono ?_; rintro e W1 ⟨rfl, hb⟩; have HB1 := hid (chain2 HB.out hb); have HX1 := (HX.out.later hb).at; simp only [strOf_self'] at HX1; obtain ⟨d0, d1, d2, d3, d4⟩ := HX1; clear hb Ca; go_wp2; go_ret; exact ⟨rfl, HB1.out⟩
  | false =>
    have HF : Hid ((false && decide (1 ≤ z) && decide (z ≤ 2147483647) && b) = false) := hid (by simp []); rw [HF.out]; clear HF; go_enter Tryz.func53, Tryz.ntmps53
    go_wp2_with fail
    try generalize World.alloc w _ = W0 at HB HX ⊢
    have HA := HX.out.at; simp only [strOf_self'] at HA; obtain ⟨c0, c1, c2, c3, c4⟩ := HA; go_wp2_with fail
    refine (Ca.out _).mono ?_; rintro e W1 ⟨rfl, hb⟩; have HB1 := hid (chain2 HB.out hb); have HX1 := (HX.out.later hb).at; simp only [strOf_self'] at HX1; obtain ⟨d0, d1, d2, d3, d4⟩ := HX1; clear hb Ca; go_wp2; go_ret; exact ⟨rfl, HB1.out⟩
end Go.Proofs.YtmljjpdodcpohaaGreatDoor.Tr

namespace Go.Proofs.YtmljjpdodcpohaaGreatDoor.Tr
open Lib (hid)
set_option maxRecDepth 100000
set_option maxHeartbeats 4000000
open Go.RowKit Dk Lx
theorem vf_2 (k d z : Int) (Q S : ByteArray) (a b : Bool) (hk : k = 2) (Ca : Hid (∀ W, Calls Tryz.prog 95 #[.string Q] W fun e w' => e = .returned (.bool a) ∧ Below W.heap.size W w')) (Cb : Hid (∀ W, Calls Tryz.prog 95 #[.string S] W fun e w' => e = .returned (.bool b) ∧ Below W.heap.size W w')) (w : World) :
    Calls Tryz.prog 53 #[.agg #[.int .i64 k, .int .i64 d, .string Q, .int .i64 z, .string S]] w fun e w' => e = .returned (.bool (a && decide (0 ≤ z) && decide (z ≤ 8) && b)) ∧ Below w.heap.size w w' := by
  have HB : Hid (Below w.heap.size w (w.alloc (.cells #[.int .i64 k, .int .i64 d, .string Q, .int .i64 z, .string S] 58))) := hid ((Below.refl _ _).alloc (Nat.le_refl _) _)
  have HX : Hid (NB (w.alloc (.cells #[.int .i64 k, .int .i64 d, .string Q, .int .i64 z, .string S] 58)) w.heap.size ⟨k, d, Q.data.toList, z, S.data.toList⟩) := hid (by
    have := nb_new w ⟨k, d, Q.data.toList, z, S.data.toList⟩ 58; unfold Nd.cells at this; rw [strOf_self', strOf_self'] at this
    exact this)
  subst hk; cases a with
  | true =>
    by_cases p1 : 0 ≤ z
    · skip
      by_cases p2 : z ≤ 8
      · skip
        cases b with
        | true =>
          have HF : Hid ((true && decide (0 ≤ z) && decide (z ≤ 8) && true) = true) := hid (by simp [p1, p2]); rw [HF.out]; clear HF; go_enter Tryz.func53, Tryz.ntmps53
          go_wp2_with fail
          try generalize World.alloc w _ = W0 at HB HX ⊢
          have HA := HX.out.at; simp only [strOf_self'] at HA; obtain ⟨c0, c1, c2, c3, c4⟩ := HA; go_wp2_with fail
          refine (Ca.out _).mono ?_; rintro e W1 ⟨rfl, hb⟩; have HB1 := hid (chain2 HB.out hb); have HX1 := (HX.out.later hb).at; simp only [strOf_self'] at HX1; obtain ⟨d0, d1, d2, d3, d4⟩ := HX1; clear hb Ca; go_wp2_with fail
          refine (Cb.out _).mono ?_; rintro e W2 ⟨rfl, hb⟩; have HB2 := hid (chain2 HB1.out hb); clear hb Cb; go_wp2; go_ret; exact ⟨rfl, HB2.out⟩
        | false =>
          have HF : Hid ((true && decide (0 ≤ z) && decide (z ≤ 8) && false) = false) := hid (by simp [p1, p2]); rw [HF.out]; clear HF; go_enter Tryz.func53, Tryz.ntmps53
          go_wp2_with fail
          try generalize World.alloc w _ = W0 at HB HX ⊢
          have HA := HX.out.at; simp only [strOf_self'] at HA; obtain ⟨c0, c1, c2, c3, c4⟩ := HA; go_wp2_with fail
          refine (Ca.out _).mono ?_; rintro e W1 ⟨rfl, hb⟩; have HB1 := hid (chain2 HB.out hb); have HX1 := (HX.out.later hb).at; simp only [strOf_self'] at HX1; obtain ⟨d0, d1, d2, d3, d4⟩ := HX1; clear hb Ca; go_wp2_with fail
          refine (Cb.out _).mono ?_; rintro e W2 ⟨rfl, hb⟩; have HB2 := hid (chain2 HB1.out hb); clear hb Cb; go_wp2; go_ret; exact ⟨rfl, HB2.out⟩
      · skip
        have HF : Hid ((true && decide (0 ≤ z) && decide (z ≤ 8) && b) = false) := hid (by simp [p1, p2]); rw [HF.out]; clear HF; go_enter Tryz.func53, Tryz.ntmps53
        go_wp2_with fail
        try generalize World.alloc w _ = W0 at HB HX ⊢
        have HA := HX.out.at; simp only [strOf_self'] at HA; obtain ⟨c0, c1, c2, c3, c4⟩ := HA; go_wp2_with fail
        refine (Ca.out _).mono ?_; rintro e W1 ⟨rfl, hb⟩; have HB1 := hid (chain2 HB.out hb); have HX1 := (HX.out.later hb).at; simp only [strOf_self'] at HX1; obtain ⟨d0, d1, d2, d3, d4⟩ := HX1; clear hb Ca; go_wp2; go_ret; exact ⟨rfl, HB1.out⟩
    · skip
      have HF : Hid ((true && decide (0 ≤ z) && decide (z ≤ 8) && b) = false) := hid (by simp [p1]); rw [HF.out]; clear HF; go_enter Tryz.func53, Tryz.ntmps53
      go_wp2_with fail
      try generalize World.alloc w _ = W0 at HB HX ⊢
      have HA := HX.out.at; simp only [strOf_self'] at HA; obtain ⟨c0, c1, c2, c3, c4⟩ := HA; go_wp2_with fail
      refine (Ca.out _).mono ?_; rintro e W1 ⟨rfl, hb⟩; have HB1 := hid (chain2 HB.out hb); have HX1 := (HX.out.later hb).at; simp only [strOf_self'] at HX1; obtain ⟨d0, d1, d2, d3, d4⟩ := HX1; clear hb Ca; go_wp2; go_ret; exact ⟨rfl, HB1.out⟩
  | false =>
    have HF : Hid ((false && decide (0 ≤ z) && decide (z ≤ 8) && b) = false) := hid (by simp []); rw [HF.out]; clear HF; go_enter Tryz.func53, Tryz.ntmps53
    go_wp2_with fail
    try generalize World.alloc w _ = W0 at HB HX ⊢
    have HA := HX.out.at; simp only [strOf_self'] at HA; obtain ⟨c0, c1, c2, c3, c4⟩ := HA; go_wp2_with fail
    refine (Ca.out _).mono ?_; rintro e W1 ⟨rfl, hb⟩; have HB1 := hid (chain2 HB.out hb); have HX1 := (HX.out.later hb).at; simp only [strOf_self'] at HX1; obtain ⟨d0, d1, d2, d3, d4⟩ := HX1; clear hb Ca; go_wp2; go_ret; exact ⟨rfl, HB1.out⟩
end Go.Proofs.YtmljjpdodcpohaaGreatDoor.Tr

namespace Go.Proofs.YtmljjpdodcpohaaGreatDoor.Tr
open Lib (hid)
set_option maxRecDepth 100000
set_option maxHeartbeats 4000000
open Go.RowKit Dk Lx
theorem vf_3 (k d z : Int) (Q S : ByteArray) (a b : Bool) (hk : k = 3 ∨ k = 4 ∨ k = 6 ∨ k = 7 ∨ k = 21) (Ca : Hid (∀ W, Calls Tryz.prog 95 #[.string Q] W fun e w' => e = .returned (.bool a) ∧ Below W.heap.size W w')) (hb : (S.toList == []) = b) (w : World) :
    Calls Tryz.prog 53 #[.agg #[.int .i64 k, .int .i64 d, .string Q, .int .i64 z, .string S]] w fun e w' => e = .returned (.bool (a && decide (z = 0) && b)) ∧ Below w.heap.size w w' := by
  have HB : Hid (Below w.heap.size w (w.alloc (.cells #[.int .i64 k, .int .i64 d, .string Q, .int .i64 z, .string S] 58))) := hid ((Below.refl _ _).alloc (Nat.le_refl _) _)
  have HX : Hid (NB (w.alloc (.cells #[.int .i64 k, .int .i64 d, .string Q, .int .i64 z, .string S] 58)) w.heap.size ⟨k, d, Q.data.toList, z, S.data.toList⟩) := hid (by
    have := nb_new w ⟨k, d, Q.data.toList, z, S.data.toList⟩ 58; unfold Nd.cells at this; rw [strOf_self', strOf_self'] at this
    exact this)
  rcases hk with rfl | rfl | rfl | rfl | rfl
  all_goals
    cases a with
    | true =>
      by_cases p1 : z = 0
      · subst p1
        cases b with
        | true =>
          have HF : Hid ((true && decide ((0 : Int) = 0) && true) = true) := hid (by simp []); rw [HF.out]; clear HF; go_enter Tryz.func53, Tryz.ntmps53
          go_wp2_with fail
          try generalize World.alloc w _ = W0 at HB HX ⊢
          have HA := HX.out.at; simp only [strOf_self'] at HA; obtain ⟨c0, c1, c2, c3, c4⟩ := HA; go_wp2_with fail
          refine (Ca.out _).mono ?_; rintro e W1 ⟨rfl, hb⟩; have HB1 := hid (chain2 HB.out hb); have HX1 := (HX.out.later hb).at; simp only [strOf_self'] at HX1; obtain ⟨d0, d1, d2, d3, d4⟩ := HX1; clear hb Ca; go_wp2; go_ret; exact ⟨rfl, HB1.out⟩
        | false =>
          have HF : Hid ((true && decide ((0 : Int) = 0) && false) = false) := hid (by simp []); rw [HF.out]; clear HF; go_enter Tryz.func53, Tryz.ntmps53
          go_wp2_with fail
          try generalize World.alloc w _ = W0 at HB HX ⊢
          have HA := HX.out.at; simp only [strOf_self'] at HA; obtain ⟨c0, c1, c2, c3, c4⟩ := HA; go_wp2_with fail
          refine (Ca.out _).mono ?_; rintro e W1 ⟨rfl, hb⟩; have HB1 := hid (chain2 HB.out hb); have HX1 := (HX.out.later hb).at; simp only [strOf_self'] at HX1; obtain ⟨d0, d1, d2, d3, d4⟩ := HX1; clear hb Ca; go_wp2; go_ret; exact ⟨rfl, HB1.out⟩
      · have pp1 : (z == 0) = false := by simpa using p1
        have HF : Hid ((true && decide (z = 0) && b) = false) := hid (by simp [p1]); rw [HF.out]; clear HF; go_enter Tryz.func53, Tryz.ntmps53
        go_wp2_with fail
        try generalize World.alloc w _ = W0 at HB HX ⊢
        have HA := HX.out.at; simp only [strOf_self'] at HA; obtain ⟨c0, c1, c2, c3, c4⟩ := HA; go_wp2_with fail
        refine (Ca.out _).mono ?_; rintro e W1 ⟨rfl, hb⟩; have HB1 := hid (chain2 HB.out hb); have HX1 := (HX.out.later hb).at; simp only [strOf_self'] at HX1; obtain ⟨d0, d1, d2, d3, d4⟩ := HX1; clear hb Ca; go_wp2; go_ret; exact ⟨rfl, HB1.out⟩
    | false =>
      have HF : Hid ((false && decide (z = 0) && b) = false) := hid (by simp []); rw [HF.out]; clear HF; go_enter Tryz.func53, Tryz.ntmps53
      go_wp2_with fail
      try generalize World.alloc w _ = W0 at HB HX ⊢
      have HA := HX.out.at; simp only [strOf_self'] at HA; obtain ⟨c0, c1, c2, c3, c4⟩ := HA; go_wp2_with fail
      refine (Ca.out _).mono ?_; rintro e W1 ⟨rfl, hb⟩; have HB1 := hid (chain2 HB.out hb); have HX1 := (HX.out.later hb).at; simp only [strOf_self'] at HX1; obtain ⟨d0, d1, d2, d3, d4⟩ := HX1; clear hb Ca; go_wp2; go_ret; exact ⟨rfl, HB1.out⟩
end Go.Proofs.YtmljjpdodcpohaaGreatDoor.Tr

