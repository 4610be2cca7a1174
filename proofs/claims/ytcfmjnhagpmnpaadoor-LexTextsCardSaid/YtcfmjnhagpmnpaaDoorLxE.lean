/- The walk of lex.nextInt: its contract. No condition but those that each states. -/
import Derived.Test.YtcfmjnhagpmnpaaDoorLxD
import Derived.Lib.AtoiAllCases
import Derived.Lib.ParseIntBTie
import Derived.LaidLaws
import Derived.Lib.AtoiErrMem
namespace Go.Proofs.YtcfmjnhagpmnpaaDoor.Lx
open Go.RowKit Dk

/-! digits as a number -/
theorem foldl_mono (l : List UInt8) (a : Nat) : a ≤ l.foldl (fun a c => a * 10 + (c.toNat - 48)) a := by
  induction l generalizing a with
  | nil => exact Nat.le_refl _
  | cons c r ih => exact Nat.le_trans (by omega) (ih (a * 10 + (c.toNat - 48)))

theorem parseUintM_digits : ∀ (l : List UInt8) (acc : Nat), (∀ c ∈ l, isD c = true) → acc < 2 ^ 64 →
    Lib.parseUintM (2 ^ 64 - 1) acc l = (if l.foldl (fun a c => a * 10 + (c.toNat - 48)) acc < 2 ^ 64 then .ok (l.foldl (fun a c => a * 10 + (c.toNat - 48)) acc) else .range)
  | [], acc, _, h => by rw [Lib.parseUintM, List.foldl_nil, if_pos h]
  | c :: r, acc, hd, h => by
    have hc := hd c (by simp)
    have hc2 : 48 ≤ c.toNat ∧ c.toNat ≤ 57 := by unfold isD rD at hc; simp at hc; omega
    have hm := foldl_mono r (acc * 10 + (c.toNat - 48))
    rw [Lib.parseUintM, if_pos hc2, List.foldl_cons]
    by_cases h1 : 1844674407370955162 ≤ acc
    · rw [if_pos h1, if_neg (by omega)]
    · rw [if_neg h1]
      by_cases h2 : 2 ^ 64 - 1 < acc * 10 + (c.toNat - 48)
      · rw [if_pos h2, if_neg (by omega)]
      · rw [if_neg h2, parseUintM_digits r _ (fun x hx => hd x (by simp [hx])) (by omega)]

theorem parse_digits (l : List UInt8) (hne : l ≠ []) (hd : ∀ c ∈ l, isD c = true) : Lib.parseIntB 64 l = if numV l < 2 ^ 63 then .ok (numV l : Int) else .range := by
  obtain ⟨c, r, rfl⟩ := List.exists_cons_of_ne_nil hne
  have hc := hd c (by simp)
  have hc2 : 48 ≤ c.toNat ∧ c.toNat ≤ 57 := by unfold isD rD at hc; simp at hc; omega
  unfold Lib.parseIntB
  dsimp only
  rw [if_neg (by omega)]
  unfold Lib.parseUintB
  rw [if_neg (by simp), parseUintM_digits (c :: r) 0 hd (by decide)]
  show (match (if numV (c :: r) < 2 ^ 64 then Lib.NumEnd.ok (numV (c :: r)) else .range) with | .syntax => _ | .range => _ | .ok u => _) = _
  have n45 : ¬c.toNat = 45 := by omega
  by_cases h1 : numV (c :: r) < 2 ^ 64
  · rw [if_pos h1]
    dsimp only
    by_cases h2 : numV (c :: r) < 2 ^ 63
    · rw [if_neg (by simp only [n45, not_false_eq_true, true_and]; omega), if_neg (by simp only [n45, false_and, not_false_eq_true]), if_neg n45, if_pos h2]
    · rw [if_pos (by simp only [n45, not_false_eq_true, true_and]; omega), if_neg h2]
  · rw [if_neg h1, if_neg (by omega)]

theorem spanN_all (p : UInt8 → Bool) : ∀ l : List UInt8, ∀ c ∈ l.take (spanN p l), p c = true
  | [], c, h => by simp at h
  | x :: r, c, h => by
    unfold spanN at h
    split at h
    · rename_i hx
      rw [List.take_succ_cons] at h
      rcases List.mem_cons.1 h with rfl | h
      · exact hx
      · exact spanN_all p r c h
    · simp at h

/-- The library's error of the range lies where its variable is. -/
def HasE (w : World) : Prop := ∃ g tp p, Tryd.prog.globalNamed "strconv.ErrRange" = some g ∧ g < w.heap.size ∧ w.var? Tryd.prog "strconv.ErrRange" = some #[.iface tp p]
theorem HasE.later {w w' : World} (h : HasE w) (k : Below w.heap.size w w') : HasE w' := by
  obtain ⟨g, tp, p, h1, h2, h3⟩ := h
  exact ⟨g, tp, p, h1, Nat.lt_of_lt_of_le h2 k.size, var?_below k h1 h2 h3⟩

theorem parse_yes (T : List UInt8) (hne : T ≠ []) (hd : ∀ c ∈ T, isD c = true) (hl : T.length ≤ 2 ^ 40) (hv : numV T < 2 ^ 63) (w : World) :
    Calls Tryd.prog 47 #[.string (strOf T), .int .i64 10, .int .i64 64] w fun e w' => e = .returned (.tuple #[.int .i64 (numV T : Nat), .nilIface]) ∧ Below w.heap.size w w' := by
  have h := parse_digits T hne hd
  rw [if_pos hv] at h
  refine (strconv_ParseInt_10_at64_ok (strOf T) (by rw [strOf_size]; omega) _ (by rw [strOf_toList]; exact h) w).mono ?_
  rintro e w' ⟨rfl, rfl | ⟨t, rfl⟩⟩
  · exact ⟨rfl, Below.refl _ _⟩
  · exact ⟨rfl, Lib.bytesWorld_below _ _ _⟩

theorem parse_no (T : List UInt8) (hne : T ≠ []) (hd : ∀ c ∈ T, isD c = true) (hl : T.length ≤ 2 ^ 40) (hv : ¬numV T < 2 ^ 63) (w : World) (HE : HasE w) :
    Calls Tryd.prog 47 #[.string (strOf T), .int .i64 10, .int .i64 64] w fun e w' => ∃ n tp q, e = .returned (.tuple #[.int .i64 n, .iface tp (.pointer (some q))]) ∧ Below w.heap.size w w' := by
  have h := parse_digits T hne hd
  rw [if_neg hv] at h
  obtain ⟨g, tp, p, -, -, h3⟩ := HE
  refine (strconv_ParseInt_10_at64_range_var (strOf T) (by rw [strOf_size]; omega) (by rw [strOf_toList]; exact h) tp p w h3).mono ?_
  rintro e w' ⟨N, rfl, -, -, hb⟩
  exact ⟨_, _, _, rfl, hb⟩

set_option maxHeartbeats 2000000 in
theorem nextInt_any (s : ByteArray) (a : Nat) (c : UInt8) (r : List UInt8) (w : World) (hl : from' s a = c :: r) (hc : isD c = true) (hs : s.size ≤ 2 ^ 40) (HE : HasE w) :
    Calls Tryd.prog 34 #[.string s, .int .i64 (a : Int)] w fun e w' => e = .returned (oneV a (intOf' (from' s a) (spanN isD (from' s a)))) ∧ Below w.heap.size w w' := by
  have hlen := from_length s a
  have hle := spanN_le isD (from' s a)
  have hpos : 1 ≤ spanN isD (from' s a) := by rw [hl, spanN_first hc]; omega
  have ha : a ≤ s.size := by rw [hl] at hlen; simp at hlen; omega
  have C := Lib.hid (fun W => digitsEnd_any s a W ha hs)
  have hmid := fun W => run_mid (P := Tryd.prog) s a (spanN isD (from' s a)) (by omega) 9 Tryd.underlying9 W
  have hall := spanN_all isD (from' s a)
  have hT : ∃ r', (from' s a).take (spanN isD (from' s a)) = c :: r' := by
    rw [hl]
    obtain ⟨k, hk⟩ : ∃ k, spanN isD (c :: r) = k + 1 := ⟨spanN isD (c :: r) - 1, by rw [hl] at hpos; omega⟩
    rw [hk, List.take_succ_cons]; exact ⟨_, rfl⟩
  obtain ⟨r', hT⟩ := hT
  have hlt : (c :: r').length = spanN isD (from' s a) := by rw [← hT, List.length_take, Nat.min_eq_left hle]
  obtain ⟨R, hR⟩ : ∃ R, R = oneV a (intOf' (from' s a) (spanN isD (from' s a))) := ⟨_, rfl⟩
  rw [← hR]
  unfold intOf' at hR
  rw [hT] at hmid hall hR
  generalize spanN isD (from' s a) = n at *
  clear hT hl
  have hsz : (strOf (c :: r')).size = n := by rw [strOf_size, hlt]
  have hidx : ∀ W : World, (Instr.index 9 (.string (strOf (c :: r'))) (.int .i64 0)).run Tryd.prog W = .ok (.int .u8 (c.toNat : Int)) W := fun W => by
    have h1 : ((strOf (c :: r'))[0]'(by omega)) = c := rfl
    rw [← h1]
    go_simp
    omega
  have PY := Lib.hid (fun h W => parse_yes (c :: r') (by simp) hall (by omega) h W)
  have PN := Lib.hid (fun h W => parse_no (c :: r') (by simp) hall (by omega) h W)
  have HV1 : Hid (1 < n ∧ c.toNat = 48 → numL (c :: r') = none) := Lib.hid (fun h => by
    unfold numL; rw [if_pos ⟨by rw [hlt]; exact h.1, by rw [List.head?_cons]; congr 1; exact UInt8.toNat_inj.1 h.2⟩])
  have hnl : ¬(1 < n ∧ c.toNat = 48) → numL (c :: r') = if numV (c :: r') < 2 ^ 63 then some (numV (c :: r')) else none := fun h => by
    unfold numL; rw [if_neg]; rintro ⟨h1, h2⟩; exact h ⟨by rw [hlt] at h1; exact h1, by rw [List.head?_cons] at h2; rw [Option.some.inj h2]; rfl⟩
  have HNL := Lib.hid hnl
  generalize numL (c :: r') = M at *
  have HT := Lib.hid (show c :: r' = c :: r' from rfl)
  generalize numV (c :: r') = V at *
  generalize hx : c :: r' = T at *
  have HRR := Lib.hid hR
  clear hx hall hnl hlt hlen hle HT hR
  rw [Int.natCast_add] at C
  have HZ := Lib.hid (tw_new w)
  have HHE := Lib.hid HE
  go_enter Tryd.func34, Tryd.ntmps34
  go_wp2_with fail
  generalize w.alloc _ = W1 at HZ ⊢
  refine (C.out _).mono ?_
  rintro e W2 ⟨rfl, hb⟩
  have HY := Lib.hid (HZ.out.later hb)
  clear hb HZ C HE
  by_cases h0 : c.toNat = 48
  · by_cases h1 : 1 < n
    · have hM := HV1.out ⟨h1, h0⟩
      have HM := Lib.hid hM
      clear hM
      have e0 : ((c.toNat : Int) == 48) = true := by rw [h0]; rfl
      have e1 : ((strOf T).size : Int) > 1 := by omega
      clear h0
      go_wp2_with (refine wpList_store_mid rfl 29 _ _ rfl w.heap.size 0 Tk.zero.cells.toArray rfl rfl HY.out.1.room (t_infoA _) (t_all _) ?_; have HR := Lib.hid (HY.out.put Tk.zero); generalize World.setCells _ _ _ _ = W8 at HR ⊢)
      refine bodyPost_ret (results_cell3 rfl _ _ rfl HR.out.1.cells Tryd.underlying29 rfl (t_info _)) rfl ?_
      exact ⟨by rw [HRR.out, HM.out]; rfl, HR.out.2⟩
    · have HM0 := Lib.hid (HNL.out (fun h => h1 h.1))
      have e0 : ((c.toNat : Int) == 48) = true := by rw [h0]; rfl
      have e1 : ¬((strOf T).size : Int) > 1 := by omega
      clear h0
      by_cases hv : V < 2 ^ 63
      · have HM : Hid (M = some V) := Lib.hid (by rw [HM0.out, if_pos hv])
        have P := Lib.hid (fun W => PY.out hv W)
        clear HM0 HV1 HNL PY PN
        go_wp2_with (first
          | (go_at_call 47; refine (P.out _).mono ?_; rintro e W3 ⟨rfl, hb3⟩; have HW := Lib.hid (HY.out.later hb3); clear hb3)
          | (refine wpList_store_mid rfl 29 _ _ rfl w.heap.size 0 (Tk.mk 2 T V a).cells.toArray rfl rfl HW.out.1.room (t_infoA _) (t_all _) ?_; have HR := Lib.hid (HW.out.put (Tk.mk 2 T V a)); generalize World.setCells _ _ _ _ = W8 at HR ⊢))
        refine bodyPost_ret (results_cell3 rfl _ _ rfl HR.out.1.cells Tryd.underlying29 rfl (t_info _)) rfl ?_
        exact ⟨by rw [HRR.out, HM.out]; rfl, HR.out.2⟩
      · have HM : Hid (M = none) := Lib.hid (by rw [HM0.out, if_neg hv])
        have P := Lib.hid (fun W h => PN.out hv W h)
        clear HM0 HV1 HNL PY PN
        go_wp2_with (first
          | (go_at_call 47; refine (P.out _ (HHE.out.later HY.out.2)).mono ?_; rintro e W3 ⟨x3, x4, x5, rfl, hb3⟩; have HW := Lib.hid (HY.out.later hb3); clear hb3)
          | (refine wpList_store_mid rfl 29 _ _ rfl w.heap.size 0 Tk.zero.cells.toArray rfl rfl HW.out.1.room (t_infoA _) (t_all _) ?_; have HR := Lib.hid (HW.out.put Tk.zero); generalize World.setCells _ _ _ _ = W8 at HR ⊢))
        refine bodyPost_ret (results_cell3 rfl _ _ rfl HR.out.1.cells Tryd.underlying29 rfl (t_info _)) rfl ?_
        exact ⟨by rw [HRR.out, HM.out]; rfl, HR.out.2⟩
  · have HM0 := Lib.hid (HNL.out (fun h => h0 h.2))
    have e0 : ((c.toNat : Int) == 48) = false := by simp; omega
    clear h0
    by_cases hv : V < 2 ^ 63
    · have HM : Hid (M = some V) := Lib.hid (by rw [HM0.out, if_pos hv])
      have P := Lib.hid (fun W => PY.out hv W)
      clear HM0 HV1 HNL PY PN
      go_wp2_with (first
        | (go_at_call 47; refine (P.out _).mono ?_; rintro e W3 ⟨rfl, hb3⟩; have HW := Lib.hid (HY.out.later hb3); clear hb3)
        | (refine wpList_store_mid rfl 29 _ _ rfl w.heap.size 0 (Tk.mk 2 T V a).cells.toArray rfl rfl HW.out.1.room (t_infoA _) (t_all _) ?_; have HR := Lib.hid (HW.out.put (Tk.mk 2 T V a)); generalize World.setCells _ _ _ _ = W8 at HR ⊢))
      refine bodyPost_ret (results_cell3 rfl _ _ rfl HR.out.1.cells Tryd.underlying29 rfl (t_info _)) rfl ?_
      exact ⟨by rw [HRR.out, HM.out]; rfl, HR.out.2⟩
    · have HM : Hid (M = none) := Lib.hid (by rw [HM0.out, if_neg hv])
      have P := Lib.hid (fun W h => PN.out hv W h)
      clear HM0 HV1 HNL PY PN
      go_wp2_with (first
        | (go_at_call 47; refine (P.out _ (HHE.out.later HY.out.2)).mono ?_; rintro e W3 ⟨x3, x4, x5, rfl, hb3⟩; have HW := Lib.hid (HY.out.later hb3); clear hb3)
        | (refine wpList_store_mid rfl 29 _ _ rfl w.heap.size 0 Tk.zero.cells.toArray rfl rfl HW.out.1.room (t_infoA _) (t_all _) ?_; have HR := Lib.hid (HW.out.put Tk.zero); generalize World.setCells _ _ _ _ = W8 at HR ⊢))
      refine bodyPost_ret (results_cell3 rfl _ _ rfl HR.out.1.cells Tryd.underlying29 rfl (t_info _)) rfl ?_
      exact ⟨by rw [HRR.out, HM.out]; rfl, HR.out.2⟩

end Go.Proofs.YtcfmjnhagpmnpaaDoor.Lx
