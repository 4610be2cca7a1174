/- The walks of the document's each, Room, Write and Read of a slot: their contracts. No condition but those that each states. -/
import Derived.Test.YthddiijnomhpfaaSlD
import Derived.Test.YthddiijnomhpfaaSlM
import Derived.Test.YthddiijnomhpfaaDkRg
namespace Go.Proofs.Ythddiijnomhpfaa.Sl
open Go.RowKit Dk

variable {F : Nat → Prop} {g : Nat} {S : DS}

theorem slot_tests (slot : Int) : (badSlot slot = true ∧ decide (slot < 0) = true) ∨ (badSlot slot = true ∧ decide (slot < 0) = false ∧ decide ((1 : Int) < slot) = true) ∨ (badSlot slot = false ∧ decide (slot < 0) = false ∧ decide ((1 : Int) < slot) = false) := by
  by_cases h1 : slot < 0
  · exact .inl ⟨decide_eq_true (.inl h1), decide_eq_true h1⟩
  · by_cases h2 : 2 ≤ slot
    · exact .inr (.inl ⟨decide_eq_true (.inr h2), decide_eq_false h1, decide_eq_true (by omega)⟩)
    · exact .inr (.inr ⟨decide_eq_false (fun e => e.elim h1 h2), decide_eq_false h1, decide_eq_false (by omega)⟩)

set_option maxHeartbeats 400000 in
theorem ref_each (w : World) (h : RefAt w F g S) :
    Calls Try.prog 31 #[.pointer (some ⟨g, 0, none⟩)] w fun e w' => e = .returned (.int .i64 ((each S : Nat) : Int)) ∧ w = w' := by
  obtain ⟨vl, vw, a, m, hR, -⟩ := h
  obtain ⟨gl, cl, rfl⟩ := hR.formL
  have c0 := hR.cell (i := 0) rfl
  have h0 := hR.ok.lo
  have h1 := hR.ok.hi
  have H : Hid (((S.L.length : Int) - 8) / 2 = ((each S : Nat) : Int)) := Lib.hid (by unfold each per; omega)
  have g0 : (16 : Int) ≤ (S.L.length : Int) := by omega
  have g1 : (S.L.length : Int) ≤ 512 := by omega
  clear hR h0 h1
  generalize S.L.length = n at *
  go_enter Try.func31, Try.ntmps31
  go_wp2
  go_ret
  exact ⟨congrArg (fun x : Int => Ending.returned (.int .i64 x)) H.out, rfl⟩

set_option maxHeartbeats 400000 in
theorem ref_room (w : World) (h : RefAt w F g S) :
    Calls Try.prog 15 #[.pointer (some ⟨g, 0, none⟩)] w fun e w' => e = .returned (.int .i64 ((64 * each S : Nat) : Int)) ∧ w = w' := by
  have HC := Lib.hid (ref_each w h)
  obtain ⟨vl, vw, a, m, hR, -⟩ := h
  have hp := each_le' hR.ok
  have H : Hid (wrap64 (64 * ((each S : Nat) : Int)) = ((64 * each S : Nat) : Int)) := Lib.hid (by unfold wrap64; omega)
  clear hR hp
  generalize each S = k at *
  go_enter Try.func15, Try.ntmps15
  go_wp2_with fail
  refine HC.out.mono ?_
  rintro e w' ⟨rfl, rfl⟩
  go_wp2
  go_ret
  exact ⟨congrArg (fun x : Int => Ending.returned (.int .i64 x)) H.out, rfl⟩

theorem ref_ok {w : World} (h : RefAt w F g S) : S.Ok := by obtain ⟨vl, vw, a, m, hR, -⟩ := h; exact hR.ok

set_option maxHeartbeats 400000 in
theorem rwrite_bad (slot : Int) (s : ByteArray) (w : World) (hb : badSlot slot = true) :
    Calls Try.prog 25 #[.pointer (some ⟨g, 0, none⟩), .int .i64 slot, .string s] w fun e w' => e = .returned (.int .i64 1) ∧ w = w' := by
  rcases slot_tests slot with ⟨_, t0⟩ | ⟨_, t0, t1⟩ | ⟨h, _⟩
  · go_enter Try.func25, Try.ntmps25
    go_wp2
    go_ret
    exact ⟨rfl, rfl⟩
  · go_enter Try.func25, Try.ntmps25
    go_wp2
    go_ret
    exact ⟨rfl, rfl⟩
  · rw [hb] at h; cases h

set_option maxHeartbeats 400000 in
theorem rwrite_full (slot : Int) (s : ByteArray) (w : World) (h : RefAt w F g S) (hb : badSlot slot = false) (hf : 64 * each S < s.size) :
    Calls Try.prog 25 #[.pointer (some ⟨g, 0, none⟩), .int .i64 slot, .string s] w fun e w' => e = .returned (.int .i64 6) ∧ w = w' := by
  have HR := Lib.hid (ref_room w h)
  have hf' : ((64 * each S : Nat) : Int) < (s.size : Int) := by omega
  generalize ((64 * each S : Nat) : Int) = R at *
  have t2 : decide (R < (s.size : Int)) = true := decide_eq_true hf'
  clear h hf
  rcases slot_tests slot with ⟨h, _⟩ | ⟨h, _⟩ | ⟨_, t0, t1⟩
  · rw [hb] at h; cases h
  · rw [hb] at h; cases h
  · go_enter Try.func25, Try.ntmps25
    go_wp2_with fail
    refine HR.out.mono ?_
    rintro e w' ⟨rfl, rfl⟩
    go_wp2
    go_ret
    exact ⟨rfl, rfl⟩

/-- While the blocks are written. -/
structure RwI (w wr : World) (F : Nat → Prop) (g : Nat) (T : DS) : Prop where
  d : RefAt wr (More F w) g T
  only : Only F w wr

theorem RwI.later {w wr w' : World} {T : DS} (h : RwI w wr F g T) (k : Below wr.heap.size wr w') : RwI w w' F g T := ⟨h.d.below k, h.only.trans (Only.of_below (F := F) k) (fun _ _ h => h)⟩
theorem RwI.next {w wr w' : World} {T U : DS} (h : RwI w wr F g T) (hd : RefAt w' (More (More F w) wr) g U) (k : Only (More F w) wr w') : RwI w w' F g U :=
  ⟨hd.mono (fun _ e => e.elim id (fun e => .inr (Nat.le_trans h.only.size e))), h.only.trans k (fun _ hi e => e.elim id (fun e => absurd hi (Nat.not_lt.2 e)))⟩

theorem strOf_app (a b : Bytes) : strOf a ++ strOf b = strOf (a ++ b) := by
  apply ByteArray.ext; simp [strOf]
theorem str_cut (l : Bytes) (i j : Nat) : (strOf l).extract i j = strOf ((l.take j).drop i) := by
  have e : ((strOf l).extract i j).data.toList = (l.take j).drop i := by
    simp [strOf, ByteArray.data_extract, List.extract_eq_take_drop, List.drop_take]
  rw [← e, strOf_self]

theorem zero_from (k : Nat) : (strOf zeroB).extract k 64 = strOf (List.replicate (64 - k) 0) := by
  rw [str_cut]
  unfold zeroB
  rw [List.take_replicate, List.drop_replicate]
  simp

/-- The first blocks of what is left of a text, and what then is left. -/
theorem rest_big {l : Bytes} {j : Nat} (h : 64 < (l.drop (64 * j)).length) : blkOf l j = (l.drop (64 * j)).take 64 ∧ (l.drop (64 * j)).drop 64 = l.drop (64 * (j + 1)) := by
  have e : ((l.drop (64 * j)).take 64).length = 64 := by rw [List.length_take]; omega
  refine ⟨?_, ?_⟩
  · unfold blkOf; rw [e]; simp
  · rw [List.drop_drop, Nat.mul_succ]
theorem rest_small {l : Bytes} {j : Nat} (h : (l.drop (64 * j)).length ≤ 64) : blkOf l j = l.drop (64 * j) ++ List.replicate (64 - (l.drop (64 * j)).length) 0 ∧ l.drop (64 * (j + 1)) = [] := by
  refine ⟨?_, ?_⟩
  · unfold blkOf; rw [List.take_of_length_le h]
  · rw [List.length_drop] at h
    exact List.drop_eq_nil_of_le (by omega)

theorem strOf_nil_size {l : Bytes} (h : l = []) : (strOf l).size = 0 := by subst h; rfl

set_option maxHeartbeats 2000000 in
set_option maxRecDepth 100000 in
theorem rwrite_go (slot : Int) (l : Bytes) (w : World) (h : RefAt w F g S) (hb : badSlot slot = false) (hf : l.length ≤ 64 * each S) (hc : S.c + 1000 ≤ 2 ^ 40) (ho : S.ops + 1000 ≤ 2 ^ 40) :
    Calls Try.prog 25 #[.pointer (some ⟨g, 0, none⟩), .int .i64 slot, .string (strOf l)] w fun e w' => e = .returned (.int .i64 (if (wrs S (first S slot) l (nb l.length)).2 = 0 then (wrs S (first S slot) l (nb l.length)).1.sy else wrs S (first S slot) l (nb l.length)).2) ∧ RwI w w' F g (if (wrs S (first S slot) l (nb l.length)).2 = 0 then (wrs S (first S slot) l (nb l.length)).1.sy else wrs S (first S slot) l (nb l.length)).1 := by
  have HR := Lib.hid (ref_room w h)
  have HEA := Lib.hid (ref_each w h)
  have he := each_le' (ref_ok h)
  have hfl := first_le' (ref_ok h) hb
  have hhi := (ref_ok h).hi
  have hn : nb l.length ≤ each S := nb_le hf
  have hf' : ((strOf l).size : Int) ≤ ((64 * each S : Nat) : Int) := by rw [strOf_size]; omega
  have HFI : Hid (wrap64 (8 + wrap64 (slot * ((each S : Nat) : Int))) = ((first S slot : Nat) : Int)) := Lib.hid (by
    unfold first
    rcases bad_no hb with rfl | rfl
    · unfold wrap64; simp
    · unfold wrap64; simp; omega)
  generalize hB : first S slot = b at *
  have CW : Hid (∀ (j : Nat) W, j < nb l.length → (wrs S b l j).2 = 0 → RwI w W F g (wrs S b l j).1 → Calls Try.prog 43 #[.pointer (some ⟨g, 0, none⟩), .int .i64 ((b : Int) + (j : Int)), .string (strOf (blkOf l j))] W fun e w' => e = .returned (.int .i64 (wrs S b l (j + 1)).2) ∧ RwI w w' F g (wrs S b l (j + 1)).1) :=
    Lib.hid (fun j W hj h0 hW => by
      have hfew := wrs_few S b l j
      have := r_write ((b + j : Nat) : Int) (strOf (blkOf l j)) W hW.d (by omega) (by omega)
      rw [wrs_next h0]
      exact this.mono fun _ _ ⟨a, c, d⟩ => ⟨a, hW.next c d⟩)
  have CS : Hid (∀ W, RwI w W F g (wrs S b l (nb l.length)).1 → Calls Try.prog 44 #[.pointer (some ⟨g, 0, none⟩)] W fun e w' => e = .returned (.int .i64 (wrs S b l (nb l.length)).1.sy.2) ∧ RwI w w' F g (wrs S b l (nb l.length)).1.sy.1) :=
    Lib.hid (fun W hW => by
      have hfew := wrs_few S b l (nb l.length)
      exact (r_sync W hW.d (by omega) (by omega)).mono fun _ _ ⟨a, c, d⟩ => ⟨a, hW.next c d⟩)
  have CZ : Hid (∀ W, Calls Try.prog 24 #[] W fun e w' => e = .returned (.string (strOf zeroB)) ∧ Below W.heap.size W w') := Lib.hid ref_zero
  have HS : Hid (∀ k n, k ≤ n → (wrs S b l k).2 ≠ 0 → wrs S b l n = wrs S b l k) := Lib.hid (fun k n hk h0 => wrs_stop S b l h0 n hk)
  have HK : Hid (∀ k, (wrs S b l k).2 = 0 → (wrs S b l (k + 1)).2 = 0 ∨ (wrs S b l (k + 1)).2 = 1 ∨ (wrs S b l (k + 1)).2 = 7) := Lib.hid (fun k h0 => by
    rw [wrs_next h0]
    exact wr_codes _ _ _)
  have H0 : Hid (RwI w w F g (wrs S b l 0).1) := Lib.hid ⟨h.more, Only.refl _ _⟩
  have H00 : (wrs S b l 0).2 = 0 := rfl
  have HL0 : Hid (strOf l = strOf (l.drop (64 * 0))) := Lib.hid rfl
  have hzs : (strOf zeroB).size = 64 := by rw [strOf_size]; rfl
  generalize wrs S b l = q at *
  have HZ : Hid ((q (nb l.length)).2 = 0 → (if (q (nb l.length)).2 = 0 then (q (nb l.length)).1.sy else q (nb l.length)) = (q (nb l.length)).1.sy) := Lib.hid (fun h => if_pos h)
  have HY : Hid ((q (nb l.length)).2 ≠ 0 → (if (q (nb l.length)).2 = 0 then (q (nb l.length)).1.sy else q (nb l.length)) = q (nb l.length)) := Lib.hid (fun h => if_neg h)
  generalize (if (q (nb l.length)).2 = 0 then (q (nb l.length)).1.sy else q (nb l.length)) = Z at *
  have HNB : Hid (∀ j, j ≤ nb l.length → ((l.drop (64 * j)).length = 0 ↔ j = nb l.length)) := Lib.hid (fun j hj => by rw [List.length_drop]; unfold nb at *; omega)
  generalize nb l.length = n at *
  generalize ((64 * each S : Nat) : Int) = R at *
  have t2 : decide (R < ((strOf l).size : Int)) = false := decide_eq_false (by omega)
  generalize ((each S : Nat) : Int) = E at *
  have hq1 := HFI.out
  clear h hc ho hB
  obtain ⟨t0, t1⟩ : decide (slot < 0) = false ∧ decide ((1 : Int) < slot) = false := by
    rcases slot_tests slot with ⟨h, _⟩ | ⟨h, _⟩ | ⟨_, h⟩
    · rw [hb] at h; cases h
    · rw [hb] at h; cases h
    · exact h
  clear hb
  obtain ⟨ZB, hZB⟩ : ∃ ZB, strOf zeroB = ZB := ⟨_, rfl⟩
  have HZB := Lib.hid hZB
  rw [hZB] at CZ hzs
  clear hZB
  go_enter Try.func25, Try.ntmps25
  go_wp2_with fail
  refine HR.out.mono ?_
  rintro e w' ⟨rfl, rfl⟩
  go_wp2_with fail
  refine HEA.out.mono ?_
  rintro e w' ⟨rfl, rfl⟩
  go_wp2
  go_loopw [2, 7] (fun vs va wr => ∃ j : Nat, j ≤ n ∧ vs = .string (strOf (l.drop (64 * j))) ∧ va = .int .i64 ((b : Int) + (j : Int)) ∧ (q j).2 = 0 ∧ Hid (RwI w wr F g (q j).1)) (fun vs _ _ => match vs with | .string s => s.size | _ => 0)
  case atStart => exact ⟨0, Nat.zero_le _, congrArg Value.string HL0.out, by simpa using hq1, H00, H0⟩
  case round =>
    clear H0 H00 HR HEA HFI hq1 t2 HL0
    obtain ⟨j, hj, rfl, rfl, h0, hI⟩ := hrel
    have z0 : (0 : Int) ≤ (j : Int) := by omega
    have z1 : (j : Int) ≤ 252 := by omega
    have z3 : (0 : Int) ≤ (b : Int) := by omega
    have z4 : (b : Int) ≤ 512 := by omega
    have hnb := HNB.out j hj
    have hsz : (strOf (l.drop (64 * j))).size = (l.drop (64 * j)).length := strOf_size _
    by_cases hlt : j < n
    · have hpos : 0 < (l.drop (64 * j)).length := Nat.pos_of_ne_zero (fun e => by have := hnb.1 e; omega)
      by_cases hbig : 64 < (l.drop (64 * j)).length
      · obtain ⟨e1, e2⟩ := rest_big hbig
        have hY : (strOf (l.drop (64 * j))).extract 0 64 = strOf (blkOf l j) := by rw [str_cut, e1]; rfl
        have hN : (strOf (l.drop (64 * j))).extract 64 (strOf (l.drop (64 * j))).size = strOf (l.drop (64 * (j + 1))) := by rw [hsz, str_cut, List.take_of_length_le (Nat.le_refl _), e2]
        have hys : (strOf (blkOf l j)).size = 64 := by rw [strOf_size, blkOf_length]
        have hV : ZB.extract 64 64 = strOf [] := by rw [← HZB.out]; exact zero_from 64
        have hA : strOf (blkOf l j) ++ strOf [] = strOf (blkOf l j) := by rw [strOf_app, List.append_nil]
        have HMS : Hid ((strOf (l.drop (64 * (j + 1)))).size < (strOf (l.drop (64 * j))).size) := Lib.hid (by rw [hsz, strOf_size, ← e2, List.length_drop]; omega)
        have d1 : (64 : Int) < ((strOf (l.drop (64 * j))).size : Int) := by omega
        clear e1 e2 hbig hpos hnb hsz
        have CWj := Lib.hid (CW.out j)
        generalize strOf (blkOf l j) = Y at *
        generalize hDn : strOf (l.drop (64 * (j + 1))) = D2 at *
        have HNX := Lib.hid (congrArg Value.string hDn.symm)
        clear hDn
        generalize strOf (l.drop (64 * j)) = D at *
        generalize strOf [] = NN at *
        go_wp2_with fail
        refine (CZ.out wr).mono ?_
        rintro e w1 ⟨rfl, hb1⟩
        have HI1 := Lib.hid (hI.out.later hb1)
        clear hb1 hI
        go_wp2_with fail
        refine (CWj.out w1 hlt h0 HI1.out).mono ?_
        rintro e w2 ⟨rfl, hI2⟩
        have HI2 := Lib.hid hI2
        clear hI2 HI1
        have hk := HK.out j h0
        have HE := Lib.hid (HS.out (j + 1) n (by omega))
        obtain ⟨x, hx⟩ : ∃ x, (q (j + 1)).2 = x := ⟨_, rfl⟩
        rw [hx] at hk ⊢
        rcases hk with rfl | rfl | rfl
        · go_wp2
          go_roundw
          case rel => exact ⟨j + 1, by omega, HNX.out, by go_num, hx, HI2⟩
          case measure => exact HMS.out
        · go_wp2
          go_ret
          have hq := HE.out (by rw [hx]; decide)
          rw [HY.out (by rw [hq, hx]; decide), hq]
          exact ⟨by rw [hx]; rfl, HI2.out⟩
        · go_wp2
          go_ret
          have hq := HE.out (by rw [hx]; decide)
          rw [HY.out (by rw [hq, hx]; decide), hq]
          exact ⟨by rw [hx]; rfl, HI2.out⟩
      · obtain ⟨e1, e2⟩ := rest_small (l := l) (j := j) (by omega)
        have hV : ZB.extract (strOf (l.drop (64 * j))).size 64 = strOf (List.replicate (64 - (l.drop (64 * j)).length) 0) := by rw [← HZB.out, hsz]; exact zero_from _
        have hA : strOf (l.drop (64 * j)) ++ strOf (List.replicate (64 - (l.drop (64 * j)).length) 0) = strOf (blkOf l j) := by rw [strOf_app, e1]
        have HMS : Hid (ByteArray.empty.size < (strOf (l.drop (64 * j))).size) := Lib.hid (by rw [hsz]; exact hpos)
        have HNX : Hid (Value.string ByteArray.empty = Value.string (strOf (l.drop (64 * (j + 1))))) := Lib.hid (by rw [e2]; rfl)
        have d1 : ((strOf (l.drop (64 * j))).size : Int) ≤ 64 := by omega
        have d2 : (0 : Int) < ((strOf (l.drop (64 * j))).size : Int) := by omega
        have d4 : ((strOf (List.replicate (64 - (l.drop (64 * j)).length) 0)).size : Int) ≤ 64 := by rw [strOf_size, List.length_replicate]; omega
        have d3 : decide ((64 : Int) < ((strOf (l.drop (64 * j))).size : Int)) = false := decide_eq_false (by omega)
        clear e1 e2 hbig hpos hnb hsz
        have CWj := Lib.hid (CW.out j)
        generalize strOf (blkOf l j) = Y at *
        generalize strOf (List.replicate (64 - (l.drop (64 * j)).length) 0) = V at *
        generalize strOf (l.drop (64 * j)) = D at *
        go_wp2_with fail
        refine (CZ.out wr).mono ?_
        rintro e w1 ⟨rfl, hb1⟩
        have HI1 := Lib.hid (hI.out.later hb1)
        clear hb1 hI
        go_wp2_with fail
        refine (CWj.out w1 hlt h0 HI1.out).mono ?_
        rintro e w2 ⟨rfl, hI2⟩
        have HI2 := Lib.hid hI2
        clear hI2 HI1
        have hk := HK.out j h0
        have HE := Lib.hid (HS.out (j + 1) n (by omega))
        obtain ⟨x, hx⟩ : ∃ x, (q (j + 1)).2 = x := ⟨_, rfl⟩
        rw [hx] at hk ⊢
        rcases hk with rfl | rfl | rfl
        · go_wp2
          go_roundw
          case rel => exact ⟨j + 1, by omega, HNX.out, by go_num, hx, HI2⟩
          case measure => exact HMS.out
        · go_wp2
          go_ret
          have hq := HE.out (by rw [hx]; decide)
          rw [HY.out (by rw [hq, hx]; decide), hq]
          exact ⟨by rw [hx]; rfl, HI2.out⟩
        · go_wp2
          go_ret
          have hq := HE.out (by rw [hx]; decide)
          rw [HY.out (by rw [hq, hx]; decide), hq]
          exact ⟨by rw [hx]; rfl, HI2.out⟩
    · obtain rfl : j = n := by omega
      have e0 := hnb.2 rfl
      have d3 : decide ((0 : Int) < ((strOf (l.drop (64 * j))).size : Int)) = false := decide_eq_false (by omega)
      have d4 : decide (0 < (strOf (l.drop (64 * j))).size) = false := decide_eq_false (by omega)
      clear hnb hsz e0
      generalize strOf (l.drop (64 * j)) = D at *
      go_wp2_with fail
      refine (CS.out wr hI.out).mono ?_
      rintro e w2 ⟨rfl, hI2⟩
      have HI2 := Lib.hid hI2
      clear hI2
      go_wp2
      go_ret
      rw [HZ.out h0]
      exact ⟨rfl, HI2.out⟩

/-- The document's Write of a slot, as the same function over states. -/
theorem r_sw (slot : Int) (s : ByteArray) (w : World) (h : RefAt w F g S) (hc : S.c + 1000 ≤ 2 ^ 40) (ho : S.ops + 1000 ≤ 2 ^ 40) :
    Calls Try.prog 25 #[.pointer (some ⟨g, 0, none⟩), .int .i64 slot, .string s] w fun e w' => e = .returned (.int .i64 (DS.sw S slot s).2) ∧ RefAt w' (More F w) g (DS.sw S slot s).1 ∧ Only F w w' := by
  unfold DS.sw
  by_cases h1 : badSlot slot = true
  · rw [if_pos h1]
    exact (rwrite_bad slot s w h1).mono fun _ _ ⟨a, b⟩ => by subst b; exact ⟨a, h.more, Only.refl _ _⟩
  · rw [if_neg h1]
    have h1' : badSlot slot = false := by cases e : badSlot slot; rfl; exact absurd e h1
    by_cases h2 : 64 * each S < s.size
    · rw [if_pos h2]
      exact (rwrite_full slot s w h h1' h2).mono fun _ _ ⟨a, b⟩ => by subst b; exact ⟨a, h.more, Only.refl _ _⟩
    · rw [if_neg h2]
      obtain ⟨l, rfl, hl⟩ := toS s
      rw [← hl, strOf_toList]
      exact (rwrite_go slot l w h h1' (by omega) hc ho).mono fun _ _ ⟨a, b⟩ => ⟨a, b.d, b.only⟩

end Go.Proofs.Ythddiijnomhpfaa.Sl
