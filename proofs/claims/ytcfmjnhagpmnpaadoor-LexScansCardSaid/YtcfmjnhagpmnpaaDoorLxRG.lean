/- The walk of chrysalisref08.one: its contract. No condition but those that each states. -/
import Derived.Test.YtcfmjnhagpmnpaaDoorLxRF
import Derived.Test.YtcfmjnhagpmnpaaDoorLxRC
import Derived.Test.YtcfmjnhagpmnpaaDoorLxRE
import Derived.Test.YtcfmjnhagpmnpaaDoorLxH
namespace Go.Proofs.YtcfmjnhagpmnpaaDoor.Lx
open Go.RowKit Dk

def lenOf : One → Int
  | .bad _ => 0
  | .tok _ _ _ len => (len : Int)
/-- What the document's one answers: the token, its length, the fault. -/
def oneR (p : Nat) (o : One) : Value := .tuple #[.agg (tkOf p o).cells.toArray, .int .i64 (lenOf o), .int .i64 (errOf o)]

theorem TB.kind {W : World} {B : Nat} {t : Tk} (h : TB W B t) (k : Int) : TB (W.setCell ⟨B, 0, none⟩ (.int .i64 k)) B ⟨k, t.text, t.n, t.place⟩ := by
  refine ⟨fun j v hv => ?_, by simpa [World.setCells] using World.there_setCells h.room B 0 [.int .i64 k], by simpa using h.lt⟩
  by_cases e : j = 0
  · subst e
    have : v = .int .i64 k := by simpa [Tk.cells] using hv.symm
    subst this
    obtain ⟨y, hy⟩ := Option.isSome_iff_exists.1 (h.room 0 (by decide)).1
    exact World.cell?_setCell_same _ _ _ hy
  · rw [World.cell?_setCell_other _ _ _ _ (by intro e'; simp at e'; first | done | omega)]
    refine h.cells j v ?_
    rw [← hv]
    match j, e with
    | j + 1, _ => rfl

theorem TW.kind {w W : World} {t : Tk} (h : TW w W t) {B : Nat} (h1 : w.heap.size < B) (k : Value) : TW w (W.setCell ⟨B, 0, none⟩ k) t := by
  have hb : Below B W (W.setCell ⟨B, 0, none⟩ k) := (Below.refl B W).setCell (Nat.le_refl _) k
  exact ⟨h.1.of_block (hb.block _ h1) hb.size, h.2.setCell (Nat.le_of_lt h1) k⟩

set_option maxHeartbeats 4000000 in
set_option maxRecDepth 100000 in
theorem rone_text (s : ByteArray) (a : Nat) (c : UInt8) (r : List UInt8) (w : World) (hl : from' s a = c :: r) (hs : s.size ≤ 2 ^ 40) (h1 : isL c = false) (h2 : isD c = false) (h3 : c.toNat = 34) :
    Calls Tryd.prog 25 #[.string s, .int .i64 (a : Int)] w fun e w' => e = .returned (oneR a (textOf r)) ∧ Below w.heap.size w w' := by
  have hlen := from_length s a
  rw [hl] at hlen
  simp at hlen
  have hix := fun W => byte_at (P := Tryd.prog) s a c r hl 9 Tryd.underlying9 W
  have CL := Lib.hid (fun W => rletter_any (c.toNat : Int) W)
  have CD := Lib.hid (fun W => rdigit_any (c.toNat : Int) W)
  rw [show rL (c.toNat : Int) = false from h1] at CL
  rw [show rD (c.toNat : Int) = false from h2] at CD
  have k3 : ((c.toNat : Int) == 34) = true := by rw [h3]; rfl
  have hT : from' s (a + 1) = r := by rw [← from_drop, hl]; rfl
  have U := Lib.hid (fun W => unquoted_any s a W (by omega) hs)
  rw [hT] at U
  have HZ := Lib.hid (tw_new w)
  unfold textOf
  clear h1 h2 h3 hl hT
  generalize (c.toNat : Int) = x at *
  cases hq : textL r with
  | none =>
    rw [hq] at U
    simp only [unqV] at U
    clear hq
    go_enter Tryd.func25, Tryd.ntmps25
    go_wp2_with (first
      | (go_at_call 38; refine (CL.out _).mono ?_; rintro e w' ⟨rfl, rfl⟩)
      | (go_at_call 39; refine (CD.out _).mono ?_; rintro e w' ⟨rfl, rfl⟩)
      | (go_at_call 41; refine (U.out _).mono ?_; rintro e W3 ⟨rfl, hb3⟩; have HW := Lib.hid (HZ.out.later hb3); clear hb3)
      | (refine wpList_store_mid rfl 29 (.tmp 4) _ rfl w.heap.size 0 (Tk.zero).cells.toArray rfl rfl HW.out.1.room (t_infoA _) (t_all _) ?_; have HR := Lib.hid (HW.out.put (Tk.zero)); generalize World.setCells _ _ _ _ = W8 at HR ⊢))
    refine bodyPost_ret (results_cell3 rfl _ _ rfl HR.out.1.cells Tryd.underlying29 rfl (t_info _)) rfl ?_
    exact ⟨rfl, HR.out.2⟩
  | some q =>
    rw [hq] at U
    simp only [unqV] at U
    obtain ⟨m, hm⟩ : ∃ m : Int, m = ((q.2 + 1 : Nat) : Int) := ⟨_, rfl⟩
    have k4 : (m == 0) = false := by simp; omega
    rw [← hm] at U
    have HM := Lib.hid hm
    clear hq hm
    go_enter Tryd.func25, Tryd.ntmps25
    go_wp2_with (first
      | (go_at_call 38; refine (CL.out _).mono ?_; rintro e w' ⟨rfl, rfl⟩)
      | (go_at_call 39; refine (CD.out _).mono ?_; rintro e w' ⟨rfl, rfl⟩)
      | (go_at_call 41; refine (U.out _).mono ?_; rintro e W3 ⟨rfl, hb3⟩; have HW := Lib.hid (HZ.out.later hb3); clear hb3)
      | (refine wpList_store_mid rfl 29 (.tmp 4) _ rfl w.heap.size 0 (Tk.mk 3 q.1 0 a).cells.toArray rfl rfl HW.out.1.room (t_infoA _) (t_all _) ?_; have HR := Lib.hid (HW.out.put (Tk.mk 3 q.1 0 a)); generalize World.setCells _ _ _ _ = W8 at HR ⊢))
    refine bodyPost_ret (results_cell3 rfl _ _ rfl HR.out.1.cells Tryd.underlying29 rfl (t_info _)) rfl ?_
    refine ⟨?_, HR.out.2⟩
    rw [HM.out]
    rfl

set_option maxHeartbeats 4000000 in
set_option maxRecDepth 100000 in
theorem rone_mark (s : ByteArray) (a : Nat) (c : UInt8) (r : List UInt8) (w : World) (hl : from' s a = c :: r) (hs : s.size ≤ 2 ^ 40) (h1 : isL c = false) (h2 : isD c = false) (h3 : ¬c.toNat = 34) :
    Calls Tryd.prog 25 #[.string s, .int .i64 (a : Int)] w fun e w' => e = .returned (oneR a (markOne (from' s a))) ∧ Below w.heap.size w w' := by
  have hlen := from_length s a
  rw [hl] at hlen
  simp at hlen
  have hix := fun W => byte_at (P := Tryd.prog) s a c r hl 9 Tryd.underlying9 W
  have CL := Lib.hid (fun W => rletter_any (c.toNat : Int) W)
  have CD := Lib.hid (fun W => rdigit_any (c.toNat : Int) W)
  rw [show rL (c.toNat : Int) = false from h1] at CL
  rw [show rD (c.toNat : Int) = false from h2] at CD
  have k3 : ((c.toNat : Int) == 34) = false := by simp; omega
  have M := Lib.hid (fun W => mark_any s a W (by omega) hs)
  have hle := markN_le (from' s a)
  have hfl := from_length s a
  have hmid := fun W => run_mid (P := Tryd.prog) s a (markN (from' s a)) (by omega) 9 Tryd.underlying9 W
  have e1 : IntKind.i64.wrap ((a : Int) + ((markN (from' s a) : Nat) : Int)) = (a : Int) + ((markN (from' s a) : Nat) : Int) := IntWalk.i64_in _ (by omega)
  have HZ := Lib.hid (tw_new w)
  unfold markOne
  clear h1 h2 h3 hl
  generalize (c.toNat : Int) = x at *
  generalize hT : (from' s a).take (markN (from' s a)) = T at *
  generalize markN (from' s a) = n at *
  clear hT hfl
  by_cases h0 : n = 0
  · have k4 : (((n : Nat) : Int) == 0) = true := by subst h0; rfl
    rw [if_pos h0]
    clear h0 hmid
    go_enter Tryd.func25, Tryd.ntmps25
    go_wp2_with (first
      | (go_at_call 38; refine (CL.out _).mono ?_; rintro e w' ⟨rfl, rfl⟩)
      | (go_at_call 39; refine (CD.out _).mono ?_; rintro e w' ⟨rfl, rfl⟩)
      | (go_at_call 42; refine (M.out _).mono ?_; rintro e W3 ⟨rfl, hb3⟩; have HW := Lib.hid (HZ.out.later hb3); clear hb3)
      | (refine wpList_store_mid rfl 29 (.tmp 4) _ rfl w.heap.size 0 (Tk.zero).cells.toArray rfl rfl HW.out.1.room (t_infoA _) (t_all _) ?_; have HR := Lib.hid (HW.out.put (Tk.zero)); generalize World.setCells _ _ _ _ = W8 at HR ⊢))
    refine bodyPost_ret (results_cell3 rfl _ _ rfl HR.out.1.cells Tryd.underlying29 rfl (t_info _)) rfl ?_
    exact ⟨rfl, HR.out.2⟩
  · have k4 : (((n : Nat) : Int) == 0) = false := by simp; omega
    rw [if_neg h0]
    clear h0
    go_enter Tryd.func25, Tryd.ntmps25
    go_wp2_with (first
      | (go_at_call 38; refine (CL.out _).mono ?_; rintro e w' ⟨rfl, rfl⟩)
      | (go_at_call 39; refine (CD.out _).mono ?_; rintro e w' ⟨rfl, rfl⟩)
      | (go_at_call 42; refine (M.out _).mono ?_; rintro e W3 ⟨rfl, hb3⟩; have HW := Lib.hid (HZ.out.later hb3); clear hb3)
      | (refine wpList_store_mid rfl 29 (.tmp 4) _ rfl w.heap.size 0 (Tk.mk 4 T 0 a).cells.toArray rfl rfl HW.out.1.room (t_infoA _) (t_all _) ?_; have HR := Lib.hid (HW.out.put (Tk.mk 4 T 0 a)); generalize World.setCells _ _ _ _ = W8 at HR ⊢))
    refine bodyPost_ret (results_cell3 rfl _ _ rfl HR.out.1.cells Tryd.underlying29 rfl (t_info _)) rfl ?_
    exact ⟨rfl, HR.out.2⟩

set_option maxHeartbeats 4000000 in
set_option maxRecDepth 100000 in
theorem rone_word (s : ByteArray) (a : Nat) (c : UInt8) (r : List UInt8) (w : World) (hl : from' s a = c :: r) (hs : s.size ≤ 2 ^ 40) (h1 : isL c = true) :
    Calls Tryd.prog 25 #[.string s, .int .i64 (a : Int)] w fun e w' => e = .returned (oneR a (wordOf (from' s a) (spanN isW (from' s a)))) ∧ Below w.heap.size w w' := by
  have hlen := from_length s a
  rw [hl] at hlen
  simp at hlen
  have hix := fun W => byte_at (P := Tryd.prog) s a c r hl 9 Tryd.underlying9 W
  have CL := Lib.hid (fun W => rletter_any (c.toNat : Int) W)
  have CD := Lib.hid (fun W => rdigit_any (c.toNat : Int) W)
  rw [show rL (c.toNat : Int) = true from h1] at CL
  have hwn : wordN (from' s a) = spanN isW (from' s a) := by
    rw [hl]
    show (if isL c = true then spanN isW (c :: r) else 0) = _
    rw [if_pos h1]
  have CW := Lib.hid (fun W => word_any s a W (by omega) hs)
  rw [hwn] at CW
  have hle := spanN_le isW (from' s a)
  have hfl := from_length s a
  have hmid := fun W => run_mid (P := Tryd.prog) s a (spanN isW (from' s a)) (by omega) 9 Tryd.underlying9 W
  have e1 : IntKind.i64.wrap ((a : Int) + ((spanN isW (from' s a) : Nat) : Int)) = (a : Int) + ((spanN isW (from' s a) : Nat) : Int) := IntWalk.i64_in _ (by omega)
  have K := Lib.hid (fun W => rkey_any ((from' s a).take (spanN isW (from' s a))) W)
  have HZ := Lib.hid (tw_new w)
  unfold wordOf
  clear h1 hl hwn CD
  generalize (c.toNat : Int) = x at *
  generalize hT : (from' s a).take (spanN isW (from' s a)) = T at *
  generalize spanN isW (from' s a) = n at *
  clear hT hfl
  cases hk : isKey T with
  | true =>
    rw [hk] at K
    rw [if_pos rfl]
    clear hk
    go_enter Tryd.func25, Tryd.ntmps25
    go_wp2_with fail
    generalize w.alloc _ = W1 at HZ ⊢
    have HZ2 := Lib.hid (tb_zero W1)
    have HP := Lib.hid (tb_put W1 (Tk.mk 1 T 0 a))
    have HLT := Lib.hid HZ.out.1.lt
    refine (CL.out _).mono ?_
    rintro e w' ⟨rfl, rfl⟩
    go_wp2_with (first
      | (go_at_call 30; refine (CW.out _).mono ?_; rintro e w' ⟨rfl, rfl⟩)
      | (refine wpList_store_mid rfl 29 (.tmp 9) _ rfl W1.heap.size 0 (Tk.mk 1 T 0 a).cells.toArray rfl rfl HZ2.out.room (t_infoA _) (t_all _) ?_; generalize World.setCells _ _ _ _ = W3 at HP ⊢; have HY3 := Lib.hid (HZ.out.later HP.out.2); have HP3 := Lib.hid HP.out.1; have c1 : W3.cell? ⟨W1.heap.size, 1, none⟩ = some (.string (strOf T)) := HP3.out.cells 1 _ rfl; clear HP HZ2)
      | (go_at_call 19; refine (K.out _).mono ?_; rintro e W4 ⟨rfl, hb4⟩; have c0 : W4.cell? ⟨W1.heap.size, 0, none⟩ = some (.int .i64 1) := (HP3.out.later hb4).cells 0 _ rfl; have z0 : W4.frozen? ⟨W1.heap.size, 0, none⟩ = false := ((HP3.out.later hb4).room 0 (by decide)).2; have HP5 := Lib.hid ((HP3.out.later hb4).kind 5); have HY5 := Lib.hid ((HY3.out.later hb4).kind HLT.out (.int .i64 5)); clear hb4 c1 HP3 HY3)
      | (refine wpList_load_mid rfl 29 (.tmp 9) rfl W1.heap.size 0 rfl (Tk.mk 5 T 0 a).cells _ HP5.out.cells Tryd.underlying29 rfl (t_info _) ?_)
      | (refine wpList_store_mid rfl 29 (.tmp 4) _ rfl w.heap.size 0 (Tk.mk 5 T 0 a).cells.toArray rfl rfl HY5.out.1.room (t_infoA _) (t_all _) ?_; have HR := Lib.hid (HY5.out.put (Tk.mk 5 T 0 a)); generalize World.setCells _ _ _ _ = W8 at HR ⊢))
    refine bodyPost_ret (results_cell3 rfl _ _ rfl HR.out.1.cells Tryd.underlying29 rfl (t_info _)) rfl ?_
    exact ⟨rfl, HR.out.2⟩
  | false =>
    rw [hk] at K
    rw [if_neg Bool.false_ne_true]
    clear hk
    by_cases h16 : 16 < n
    · have k5 : (n : Int) > 16 := by omega
      rw [if_pos h16]
      clear h16
      go_enter Tryd.func25, Tryd.ntmps25
      go_wp2_with fail
      generalize w.alloc _ = W1 at HZ ⊢
      have HZ2 := Lib.hid (tb_zero W1)
      have HP := Lib.hid (tb_put W1 (Tk.mk 1 T 0 a))
      have HLT := Lib.hid HZ.out.1.lt
      refine (CL.out _).mono ?_
      rintro e w' ⟨rfl, rfl⟩
      go_wp2_with (first
        | (go_at_call 30; refine (CW.out _).mono ?_; rintro e w' ⟨rfl, rfl⟩)
        | (refine wpList_store_mid rfl 29 (.tmp 9) _ rfl W1.heap.size 0 (Tk.mk 1 T 0 a).cells.toArray rfl rfl HZ2.out.room (t_infoA _) (t_all _) ?_; generalize World.setCells _ _ _ _ = W3 at HP ⊢; have HY3 := Lib.hid (HZ.out.later HP.out.2); have HP3 := Lib.hid HP.out.1; have c1 : W3.cell? ⟨W1.heap.size, 1, none⟩ = some (.string (strOf T)) := HP3.out.cells 1 _ rfl; clear HP HZ2)
        | (go_at_call 19; refine (K.out _).mono ?_; rintro e W4 ⟨rfl, hb4⟩; have HP5 := Lib.hid (HP3.out.later hb4); have HY5 := Lib.hid (HY3.out.later hb4); clear hb4 c1 HP3 HY3)
        | (refine wpList_store_mid rfl 29 (.tmp 4) _ rfl w.heap.size 0 (Tk.zero).cells.toArray rfl rfl HY5.out.1.room (t_infoA _) (t_all _) ?_; have HR := Lib.hid (HY5.out.put (Tk.zero)); generalize World.setCells _ _ _ _ = W8 at HR ⊢))
      refine bodyPost_ret (results_cell3 rfl _ _ rfl HR.out.1.cells Tryd.underlying29 rfl (t_info _)) rfl ?_
      exact ⟨rfl, HR.out.2⟩
    · have k5 : ¬(n : Int) > 16 := by omega
      rw [if_neg h16]
      clear h16
      go_enter Tryd.func25, Tryd.ntmps25
      go_wp2_with fail
      generalize w.alloc _ = W1 at HZ ⊢
      have HZ2 := Lib.hid (tb_zero W1)
      have HP := Lib.hid (tb_put W1 (Tk.mk 1 T 0 a))
      have HLT := Lib.hid HZ.out.1.lt
      refine (CL.out _).mono ?_
      rintro e w' ⟨rfl, rfl⟩
      go_wp2_with (first
        | (go_at_call 30; refine (CW.out _).mono ?_; rintro e w' ⟨rfl, rfl⟩)
        | (refine wpList_store_mid rfl 29 (.tmp 9) _ rfl W1.heap.size 0 (Tk.mk 1 T 0 a).cells.toArray rfl rfl HZ2.out.room (t_infoA _) (t_all _) ?_; generalize World.setCells _ _ _ _ = W3 at HP ⊢; have HY3 := Lib.hid (HZ.out.later HP.out.2); have HP3 := Lib.hid HP.out.1; have c1 : W3.cell? ⟨W1.heap.size, 1, none⟩ = some (.string (strOf T)) := HP3.out.cells 1 _ rfl; clear HP HZ2)
        | (go_at_call 19; refine (K.out _).mono ?_; rintro e W4 ⟨rfl, hb4⟩; have HP5 := Lib.hid (HP3.out.later hb4); have HY5 := Lib.hid (HY3.out.later hb4); clear hb4 c1 HP3 HY3)
        | (refine wpList_load_mid rfl 29 (.tmp 9) rfl W1.heap.size 0 rfl (Tk.mk 1 T 0 a).cells _ HP5.out.cells Tryd.underlying29 rfl (t_info _) ?_)
        | (refine wpList_store_mid rfl 29 (.tmp 4) _ rfl w.heap.size 0 (Tk.mk 1 T 0 a).cells.toArray rfl rfl HY5.out.1.room (t_infoA _) (t_all _) ?_; have HR := Lib.hid (HY5.out.put (Tk.mk 1 T 0 a)); generalize World.setCells _ _ _ _ = W8 at HR ⊢))
      refine bodyPost_ret (results_cell3 rfl _ _ rfl HR.out.1.cells Tryd.underlying29 rfl (t_info _)) rfl ?_
      exact ⟨rfl, HR.out.2⟩

set_option maxHeartbeats 4000000 in
set_option maxRecDepth 100000 in
theorem rone_int (s : ByteArray) (a : Nat) (c : UInt8) (r : List UInt8) (w : World) (hl : from' s a = c :: r) (hs : s.size ≤ 2 ^ 40) (h2 : isD c = true) :
    Calls Tryd.prog 25 #[.string s, .int .i64 (a : Int)] w fun e w' => e = .returned (oneR a (intOf' (from' s a) (spanN isD (from' s a)))) ∧ Below w.heap.size w w' := by
  have hlen := from_length s a
  rw [hl] at hlen
  simp at hlen
  have hix0 := fun W => byte_at (P := Tryd.prog) s a c r hl 9 Tryd.underlying9 W
  have h1 : isL c = false := by
    unfold isD rD at h2
    unfold isL rL
    simp at h2 ⊢
    omega
  have CL := Lib.hid (fun W => rletter_any (c.toNat : Int) W)
  have CD0 := Lib.hid (fun W => rdigit_any (c.toNat : Int) W)
  rw [show rL (c.toNat : Int) = false from h1] at CL
  rw [show rD (c.toNat : Int) = true from h2] at CD0
  have HFIRST : Hid (0 < spanN isD (from' s a)) := Lib.hid (by rw [hl, spanN, if_pos h2]; omega)
  have HMID := Lib.hid (fun n h W => run_mid (P := Tryd.prog) s a n h 9 Tryd.underlying9 W)
  have HZ := Lib.hid (tw_new w)
  have HSPL := Lib.hid (fun n h => from_split s a n h)
  have HLEN := Lib.hid (from_length s a)
  have HLL := Lib.hid hl
  have HRL : Hid (r.length ≤ 2 ^ 40) := Lib.hid (by omega)
  have ha : a ≤ s.size := by omega
  obtain ⟨R, hR⟩ : ∃ R, R = oneR a (intOf' (from' s a) (spanN isD (from' s a))) := ⟨_, rfl⟩
  rw [← hR]
  have HRR := Lib.hid hR
  clear hR h1 h2 hl hlen
  generalize hL : from' s a = L at *
  go_enter Tryd.func25, Tryd.ntmps25
  go_wp2_with (first
    | (go_at_call 38; refine (CL.out _).mono ?_; rintro e w' ⟨rfl, rfl⟩)
    | (go_at_call 39; refine (CD0.out _).mono ?_; rintro e w' ⟨rfl, rfl⟩))
  generalize w.alloc _ = W1 at HZ ⊢
  clear hix0 CL CD0
  go_loopw [10] (fun vi wr => ∃ n : Nat, a + n ≤ s.size ∧ vi = .int .i64 (n : Int) ∧ W1 = wr ∧ Hid (spanN isD L = n + spanN isD (L.drop n))) (fun vi _ => s.size - (intOf vi).toNat)
  case atStart => exact ⟨0, ha, rfl, rfl, Lib.hid (by rw [List.drop_zero, Nat.zero_add])⟩
  case round =>
    obtain ⟨n, hn, rfl, rfl, hS⟩ := hrel
    have e1 : IntKind.i64.wrap ((a : Int) + (n : Int)) = (a : Int) + (n : Int) := IntWalk.i64_in _ (by omega)
    by_cases hlt : a + n < s.size
    · obtain ⟨d, r2, q1, q2, q3⟩ := HSPL.out n hlt
      have hix := fun W => byte_sum (P := Tryd.prog) s a n d r2 q2 9 Tryd.underlying9 W
      have hlt' : (a : Int) + (n : Int) < (s.size : Int) := by omega
      have CD := Lib.hid (fun W => rdigit_any (d.toNat : Int) W)
      have hS' := hS.out
      rw [q1, spanN] at hS'
      cases hd : isD d with
      | true =>
        rw [hd, if_pos rfl, ← q3] at hS'
        rw [show rD (d.toNat : Int) = true from hd] at CD
        have HS : Hid (spanN isD L = (n + 1) + spanN isD (L.drop (n + 1))) := Lib.hid (by rw [hS']; omega)
        clear hS' hS q1 q2 q3 hd
        go_wp2_with (go_at_call 39; refine (CD.out _).mono ?_; rintro e w' ⟨rfl, rfl⟩)
        go_roundw
        case rel => exact ⟨n + 1, by omega, by go_num, by trivial, HS⟩
        case measure => simp [intOf]; omega
      | false =>
        rw [hd, if_neg Bool.false_ne_true] at hS'
        rw [show rD (d.toNat : Int) = false from hd] at CD
        have HS : Hid (spanN isD L = n) := Lib.hid hS'
        clear hS' hS q1 q2 q3 hd
        obtain ⟨m, hm⟩ : ∃ m, n = m + 1 := ⟨n - 1, by have := HFIRST.out; have := HS.out; omega⟩
        have hTn : L.take n = c :: r.take m := by rw [HLL.out, hm]; rfl
        have hmid := fun W => HMID.out n hn W
        have NB := Lib.hid (fun W => number_any c (r.take m) W (by rw [← hTn, ← HS.out]; exact spanN_all isD L) (by have := HRL.out; rw [List.length_cons, List.length_take]; omega))
        rw [← hTn] at NB
        generalize hT : L.take n = T at *
        have HT := Lib.hid hT
        clear hTn hm hT
        cases hq : numL T with
        | none =>
          have HQ := Lib.hid hq
          clear hq
          go_wp2_with (first
            | (go_at_call 39; refine (CD.out _).mono ?_; rintro e w' ⟨rfl, rfl⟩)
            | (go_at_call 40; refine (NB.out _).mono ?_; rintro e w' ⟨hN, rfl⟩; obtain ⟨z, rfl⟩ := hN.no HQ.out)
            | (refine wpList_store_mid rfl 29 (.tmp 4) _ rfl w.heap.size 0 (Tk.zero).cells.toArray rfl rfl HZ.out.1.room (t_infoA _) (t_all _) ?_; have HR := Lib.hid (HZ.out.put (Tk.zero)); generalize World.setCells _ _ _ _ = W8 at HR ⊢))
          refine bodyPost_ret (results_cell3 rfl _ _ rfl HR.out.1.cells Tryd.underlying29 rfl (t_info _)) rfl ?_
          refine ⟨?_, HR.out.2⟩
          rw [HRR.out, HS.out]
          unfold intOf'
          rw [HT.out, HQ.out]
          rfl
        | some v =>
          have HQ := Lib.hid hq
          clear hq
          go_wp2_with (first
            | (go_at_call 39; refine (CD.out _).mono ?_; rintro e w' ⟨rfl, rfl⟩)
            | (go_at_call 40; refine (NB.out _).mono ?_; rintro e w' ⟨hN, rfl⟩; obtain rfl := hN.yes _ HQ.out)
            | (refine wpList_store_mid rfl 29 (.tmp 4) _ rfl w.heap.size 0 (Tk.mk 2 T v a).cells.toArray rfl rfl HZ.out.1.room (t_infoA _) (t_all _) ?_; have HR := Lib.hid (HZ.out.put (Tk.mk 2 T v a)); generalize World.setCells _ _ _ _ = W8 at HR ⊢))
          refine bodyPost_ret (results_cell3 rfl _ _ rfl HR.out.1.cells Tryd.underlying29 rfl (t_info _)) rfl ?_
          refine ⟨?_, HR.out.2⟩
          rw [HRR.out, HS.out]
          unfold intOf'
          rw [HT.out, HQ.out]
          rfl
    · have hn' : a + n = s.size := by omega
      have hS' := hS.out
      have hnil : L.drop n = [] := List.eq_nil_of_length_eq_zero (by rw [List.length_drop, HLEN.out]; omega)
      rw [hnil] at hS'
      have HS : Hid (spanN isD L = n) := Lib.hid hS'
      have hlt' : ¬(a : Int) + (n : Int) < (s.size : Int) := by omega
      have CD := Lib.hid (fun W => rdigit_any (c.toNat : Int) W)
      clear hS' hS hnil hn'
      obtain ⟨m, hm⟩ : ∃ m, n = m + 1 := ⟨n - 1, by have := HFIRST.out; have := HS.out; omega⟩
      have hTn : L.take n = c :: r.take m := by rw [HLL.out, hm]; rfl
      have hmid := fun W => HMID.out n hn W
      have NB := Lib.hid (fun W => number_any c (r.take m) W (by rw [← hTn, ← HS.out]; exact spanN_all isD L) (by have := HRL.out; rw [List.length_cons, List.length_take]; omega))
      rw [← hTn] at NB
      generalize hT : L.take n = T at *
      have HT := Lib.hid hT
      clear hTn hm hT
      cases hq : numL T with
      | none =>
        have HQ := Lib.hid hq
        clear hq
        go_wp2_with (first
          | (go_at_call 39; refine (CD.out _).mono ?_; rintro e w' ⟨rfl, rfl⟩)
          | (go_at_call 40; refine (NB.out _).mono ?_; rintro e w' ⟨hN, rfl⟩; obtain ⟨z, rfl⟩ := hN.no HQ.out)
          | (refine wpList_store_mid rfl 29 (.tmp 4) _ rfl w.heap.size 0 (Tk.zero).cells.toArray rfl rfl HZ.out.1.room (t_infoA _) (t_all _) ?_; have HR := Lib.hid (HZ.out.put (Tk.zero)); generalize World.setCells _ _ _ _ = W8 at HR ⊢))
        refine bodyPost_ret (results_cell3 rfl _ _ rfl HR.out.1.cells Tryd.underlying29 rfl (t_info _)) rfl ?_
        refine ⟨?_, HR.out.2⟩
        rw [HRR.out, HS.out]
        unfold intOf'
        rw [HT.out, HQ.out]
        rfl
      | some v =>
        have HQ := Lib.hid hq
        clear hq
        go_wp2_with (first
          | (go_at_call 39; refine (CD.out _).mono ?_; rintro e w' ⟨rfl, rfl⟩)
          | (go_at_call 40; refine (NB.out _).mono ?_; rintro e w' ⟨hN, rfl⟩; obtain rfl := hN.yes _ HQ.out)
          | (refine wpList_store_mid rfl 29 (.tmp 4) _ rfl w.heap.size 0 (Tk.mk 2 T v a).cells.toArray rfl rfl HZ.out.1.room (t_infoA _) (t_all _) ?_; have HR := Lib.hid (HZ.out.put (Tk.mk 2 T v a)); generalize World.setCells _ _ _ _ = W8 at HR ⊢))
        refine bodyPost_ret (results_cell3 rfl _ _ rfl HR.out.1.cells Tryd.underlying29 rfl (t_info _)) rfl ?_
        refine ⟨?_, HR.out.2⟩
        rw [HRR.out, HS.out]
        unfold intOf'
        rw [HT.out, HQ.out]
        rfl

theorem rone_any (s : ByteArray) (a : Nat) (c : UInt8) (r : List UInt8) (w : World) (hl : from' s a = c :: r) (hs : s.size ≤ 2 ^ 40) :
    Calls Tryd.prog 25 #[.string s, .int .i64 (a : Int)] w fun e w' => e = .returned (oneR a (oneL (c :: r))) ∧ Below w.heap.size w w' := by
  have hW := rone_word s a c r w hl hs
  have hI := rone_int s a c r w hl hs
  have hM := rone_mark s a c r w hl hs
  rw [hl] at hW hI hM
  rw [oneL]
  cases h1 : isL c with
  | true => rw [if_pos rfl]; exact hW h1
  | false =>
    rw [if_neg Bool.false_ne_true]
    cases h2 : isD c with
    | true => rw [if_pos rfl]; exact hI h2
    | false =>
      rw [if_neg Bool.false_ne_true]
      by_cases h3 : c.toNat = 34
      · rw [if_pos h3]; exact rone_text s a c r w hl hs h1 h2 h3
      · rw [if_neg h3]; exact hM h1 h2 h3

end Go.Proofs.YtcfmjnhagpmnpaaDoor.Lx
