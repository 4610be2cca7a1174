/- The walks of lex.nextMark, nextWord, Name: their contracts. The walk of lex.Name: its contract. The walk of lex.nextInt: its contract. The walk of lex.nextText: its contract. The walks of lex.next and lex.Scan: their contracts. Rows of tokens, and the walk of lex.Scan: its contract. No condition but those that each states. -/
import Derived.Test.YtemlceicmpcboaaGreatDoorMgA
import Derived.Lib.AtoiAllCases
import Derived.Lib.ParseIntBTie
import Derived.LaidLaws
import Derived.Lib.AtoiErrMem
import Derived.Lib.AppendStr
namespace Go.Proofs.YtemlceicmpcboaaGreatDoor.Lx
open Go.RowKit Dk

/-- What a token, or none, is as results: the token, where it ends, the fault. -/
def oneV (p : Nat) : One → Value
  | .bad e => .tuple #[.agg Tk.zero.cells.toArray, .int .i64 0, .int .i64 (e : Int)]
  | .tok k t n len => .tuple #[.agg (Tk.mk k t n p).cells.toArray, .int .i64 ((p : Int) + (len : Int)), .int .i64 0]

theorem extract_mid (s : ByteArray) (a n : Nat) : s.extract a (a + n) = strOf ((from' s a).take n) := by
  have : (s.extract a (a + n)).data.toList = (from' s a).take n := by
    rw [Lib.extract_data]
    unfold from'
    simp
  rw [← strOf_self (s.extract a (a + n)), this]

theorem run_mid {P : Program} (s : ByteArray) (a n : Nat) (h : a + n ≤ s.size) (t : TypeId) (ht : P.underlying t = some .string) (W : World) : (Instr.slice t (.string s) (some (.int .i64 (a : Int))) (some (.int .i64 ((a : Int) + (n : Int)))) none).run P W = .ok (.string (strOf ((from' s a).take n))) W := by
  rw [run_slice_string W t s .i64 .i64 _ _ ht (by omega) (by omega) (by omega), ← extract_mid]
  have e1 : ((a : Int)).toNat = a := by omega
  have e2 : ((a : Int) + (n : Int)).toNat = a + n := by omega
  rw [e1, e2]

/-- A token in a block behind the world w. -/
def TW (w W : World) (t : Tk) : Prop := TB W w.heap.size t ∧ Below w.heap.size w W
theorem tw_new (w : World) : TW w (w.alloc (.cells #[.int .i64 0, .string ⟨#[]⟩, .int .i64 0, .int .i64 0] 72)) Tk.zero := ⟨tb_new w Tk.zero _, (Below.refl _ _).alloc (Nat.le_refl _) _⟩
theorem TW.later {w W W' : World} {t : Tk} (h : TW w W t) (hb : Below W.heap.size W W') : TW w W' t := ⟨h.1.later hb, chain2 h.2 hb⟩
theorem TW.put {w W : World} {t : Tk} (h : TW w W t) (t' : Tk) : TW w (W.setCells w.heap.size 0 t'.cells.toArray.toList) t' := ⟨h.1.set t', below_setCells h.2 _ (Nat.le_refl _) _ _ _ h.2⟩

set_option maxHeartbeats 2000000 in
theorem nextMark_any (s : ByteArray) (a : Nat) (c : UInt8) (r : List UInt8) (w : World) (hl : from' s a = c :: r) (hs : s.size ≤ 2 ^ 40) :
    Calls Tryz.prog 113 #[.string s, .int .i64 (a : Int)] w fun e w' => e = .returned (oneV a (markOne (from' s a))) ∧ Below w.heap.size w w' := by
  have hlen := from_length s a
  rw [hl] at hlen
  simp at hlen
  have hle := markN_le (c :: r)
  simp at hle
  have hsl := fun W => run_from (P := Tryz.prog) s a (by omega) 9 Tryz.underlying9 W
  have hex : s.extract a s.size = strOf (c :: r) := by rw [← hl, ← extract_list s a]; exact (strOf_self _).symm
  rw [hex] at hsl
  have C := Lib.hid (fun W => markSize_any c r W)
  have hmid := fun W => run_mid (P := Tryz.prog) s a (markN (c :: r)) (by omega) 9 Tryz.underlying9 W
  rw [hl] at hmid ⊢
  unfold markOne
  generalize hT : (c :: r).take (markN (c :: r)) = T at hmid ⊢
  generalize markN (c :: r) = n at *
  generalize strOf (c :: r) = x at *
  clear hex hl hT
  have HZ := Lib.hid (tw_new w)
  go_enter Tryz.func113, Tryz.ntmps113
  go_wp2_with fail
  generalize w.alloc _ = W1 at HZ ⊢
  refine (C.out _).mono ?_
  rintro e W2 ⟨rfl, hb⟩
  have HY := Lib.hid (HZ.out.later hb)
  clear hb HZ C
  by_cases h0 : n = 0
  · subst h0
    go_wp2_with (refine wpList_store_mid rfl 72 _ _ rfl w.heap.size 0 Tk.zero.cells.toArray rfl rfl HY.out.1.room (t_infoA _) (t_all _) ?_; have HR := Lib.hid (HY.out.put Tk.zero); generalize World.setCells _ _ _ _ = W8 at HR ⊢)
    refine bodyPost_ret (results_cell3 rfl _ _ rfl HR.out.1.cells Tryz.underlying72 rfl (t_info _)) rfl ?_
    exact ⟨rfl, HR.out.2⟩
  · have e1 : IntKind.i64.wrap ((a : Int) + (n : Int)) = (a : Int) + (n : Int) := IntWalk.i64_in _ (by omega)
    have h2 : ((n : Int) == 0) = false := by simpa using h0
    go_wp2_with (refine wpList_store_mid rfl 72 _ _ rfl w.heap.size 0 (Tk.mk 4 T 0 a).cells.toArray rfl rfl HY.out.1.room (t_infoA _) (t_all _) ?_; have HR := Lib.hid (HY.out.put (Tk.mk 4 T 0 a)); generalize World.setCells _ _ _ _ = W8 at HR ⊢)
    refine bodyPost_ret (results_cell3 rfl _ _ rfl HR.out.1.cells Tryz.underlying72 rfl (t_info _)) rfl ?_
    exact ⟨by first | rfl | (rw [if_neg h0]; rfl), HR.out.2⟩

set_option maxHeartbeats 2000000 in
theorem nextWord_any (s : ByteArray) (a : Nat) (w : World) (ha : a ≤ s.size) (hs : s.size ≤ 2 ^ 40) :
    Calls Tryz.prog 109 #[.string s, .int .i64 (a : Int)] w fun e w' => e = .returned (oneV a (wordOf (from' s a) (spanN isW (from' s a)))) ∧ Below w.heap.size w w' := by
  have hlen := from_length s a
  have hle := spanN_le isW (from' s a)
  have C := Lib.hid (fun W => wordEnd_any s a W ha hs)
  have hmid := fun W => run_mid (P := Tryz.prog) s a (spanN isW (from' s a)) (by omega) 9 Tryz.underlying9 W
  have K := Lib.hid (fun W => key_any ((from' s a).take (spanN isW (from' s a))) W)
  have hsz := strOf_size ((from' s a).take (spanN isW (from' s a)))
  rw [List.length_take, Nat.min_eq_left hle] at hsz
  unfold wordOf
  generalize (from' s a).take (spanN isW (from' s a)) = T at *
  generalize spanN isW (from' s a) = n at *
  rw [Int.natCast_add] at C
  have HZ := Lib.hid (tw_new w)
  go_enter Tryz.func109, Tryz.ntmps109
  go_wp2_with fail
  generalize w.alloc _ = W1 at HZ ⊢
  refine (C.out _).mono ?_
  rintro e W2 ⟨rfl, hb⟩
  have HY := Lib.hid (HZ.out.later hb)
  clear hb HZ C
  cases hk : isKey T with
  | true =>
    rw [hk] at K
    have HK := Lib.hid hk
    clear hk
    go_wp2_with (first
      | (go_at_call 149; refine (K.out _).mono ?_; rintro e w' ⟨rfl, rfl⟩)
      | (refine wpList_store_mid rfl 72 _ _ rfl w.heap.size 0 (Tk.mk 5 T 0 a).cells.toArray rfl rfl HY.out.1.room (t_infoA _) (t_all _) ?_; have HR := Lib.hid (HY.out.put (Tk.mk 5 T 0 a)); generalize World.setCells _ _ _ _ = W8 at HR ⊢))
    refine bodyPost_ret (results_cell3 rfl _ _ rfl HR.out.1.cells Tryz.underlying72 rfl (t_info _)) rfl ?_
    exact ⟨by first | rfl | (rw [if_pos HK.out]; rfl), HR.out.2⟩
  | false =>
    rw [hk] at K
    have HK : Hid (¬isKey T = true) := Lib.hid (by rw [hk]; exact Bool.false_ne_true)
    clear hk
    by_cases h16 : 16 < n
    · have h2 : ((strOf T).size : Int) > 16 := by omega
      go_wp2_with (first
        | (go_at_call 149; refine (K.out _).mono ?_; rintro e w' ⟨rfl, rfl⟩)
        | (refine wpList_store_mid rfl 72 _ _ rfl w.heap.size 0 Tk.zero.cells.toArray rfl rfl HY.out.1.room (t_infoA _) (t_all _) ?_; have HR := Lib.hid (HY.out.put Tk.zero); generalize World.setCells _ _ _ _ = W8 at HR ⊢))
      refine bodyPost_ret (results_cell3 rfl _ _ rfl HR.out.1.cells Tryz.underlying72 rfl (t_info _)) rfl ?_
      exact ⟨by first | rfl | (rw [if_pos h16]; rfl) | (rw [if_neg HK.out, if_pos h16]; rfl), HR.out.2⟩
    · have h2 : ¬((strOf T).size : Int) > 16 := by omega
      go_wp2_with (first
        | (go_at_call 149; refine (K.out _).mono ?_; rintro e w' ⟨rfl, rfl⟩)
        | (refine wpList_store_mid rfl 72 _ _ rfl w.heap.size 0 (Tk.mk 1 T 0 a).cells.toArray rfl rfl HY.out.1.room (t_infoA _) (t_all _) ?_; have HR := Lib.hid (HY.out.put (Tk.mk 1 T 0 a)); generalize World.setCells _ _ _ _ = W8 at HR ⊢))
      refine bodyPost_ret (results_cell3 rfl _ _ rfl HR.out.1.cells Tryz.underlying72 rfl (t_info _)) rfl ?_
      exact ⟨by first | rfl | (rw [if_neg h16]; rfl) | (rw [if_neg HK.out, if_neg h16]; rfl), HR.out.2⟩

end Go.Proofs.YtemlceicmpcboaaGreatDoor.Lx
namespace Go.Proofs.YtemlceicmpcboaaGreatDoor.Lx
open Go.RowKit Dk

theorem spanN_full (p : UInt8 → Bool) : ∀ l : List UInt8, spanN p l = l.length ↔ l.all p = true
  | [] => by simp [spanN]
  | c :: r => by
    have h := spanN_full p r
    have hle := spanN_le p r
    unfold spanN
    by_cases hc : p c = true
    · rw [if_pos hc, List.length_cons, List.all_cons, hc, Bool.true_and, ← h]; omega
    · rw [if_neg hc, List.length_cons, List.all_cons]; simp [hc]

theorem isName_cons (c : UInt8) (r : List UInt8) : isName (c :: r) = (decide ((c :: r).length ≤ 16) && isL c && decide (spanN isW (c :: r) = (c :: r).length) && !isKey (c :: r)) := by
  unfold isName
  have h : (c :: r).all isW = decide (spanN isW (c :: r) = (c :: r).length) := by
    cases h : (c :: r).all isW with
    | true => exact (decide_eq_true ((spanN_full _ _).2 h)).symm
    | false => exact (decide_eq_false (fun e => by rw [(spanN_full _ _).1 e] at h; cases h)).symm
  rw [h]
  simp

theorem i32_byte (c : UInt8) : IntKind.i32.wrap (c.toNat : Int) = (c.toNat : Int) := by
  have := c.toNat_lt
  simp [IntKind.wrap, IntKind.bits, IntKind.signed]; omega

set_option maxHeartbeats 400000 in
theorem name_nil (w : World) : Calls Tryz.prog 102 #[.string ⟨#[]⟩] w fun e w' => e = .returned (.bool (isName [])) ∧ Below w.heap.size w w' := by
  go_enter Tryz.func102, Tryz.ntmps102
  go_wp2
  go_ret
  exact ⟨rfl, Below.refl _ _⟩

set_option maxHeartbeats 1000000 in
theorem name_cons (c : UInt8) (r : List UInt8) (w : World) (hs : (c :: r).length ≤ 2 ^ 40) : Calls Tryz.prog 102 #[.string (strOf (c :: r))] w fun e w' => e = .returned (.bool (isName (c :: r))) ∧ Below w.heap.size w w' := by
  have hsz := strOf_size (c :: r)
  have hne : ((strOf (c :: r)).toList == []) = false := by rw [strOf_tl]; rfl
  have hne2 : ((strOf (c :: r)).toList != []) = true := by rw [strOf_tl]; rfl
  have hpos : 0 < (strOf (c :: r)).size := by rw [hsz]; simp
  have hidx : ∀ W : World, (Instr.index 9 (.string (strOf (c :: r))) (.int .i64 0)).run Tryz.prog W = .ok (.int .u8 (c.toNat : Int)) W := fun W => by
    have h1 : ((strOf (c :: r))[0]'hpos) = c := rfl
    rw [← h1]
    go_simp
  have hcv := i32_byte c
  have CL := Lib.hid (fun W => letter_any (c.toNat : Int) W)
  have CW : Hid (∀ W, Calls Tryz.prog 159 #[.string (strOf (c :: r)), .int .i64 0] W fun e w' => e = .returned (.int .i64 (spanN isW (c :: r) : Nat)) ∧ Below W.heap.size W w') := Lib.hid (fun W => by
    have := wordEnd_any (strOf (c :: r)) 0 W (Nat.zero_le _) (by omega)
    rw [show from' (strOf (c :: r)) 0 = c :: r by simp [from', strOf], Nat.zero_add] at this
    exact this)
  have CK := Lib.hid (fun W => key_any (c :: r) W)
  have HN := Lib.hid (isName_cons c r)
  generalize isName (c :: r) = N at *
  generalize (c :: r).length = m at *
  generalize spanN isW (c :: r) = n at *
  generalize isKey (c :: r) = K at *
  generalize strOf (c :: r) = s at *
  by_cases h16 : m ≤ 16
  · cases hl : isL c with
    | false =>
      have k1 : rL (c.toNat : Int) = false := hl
      rw [k1] at CL
      have HF : Hid (N = false) := Lib.hid (by rw [HN.out, hl]; simp)
      clear k1 hl
      go_enter Tryz.func102, Tryz.ntmps102
      go_wp2_with (go_at_call 108; refine (CL.out _).mono ?_; rintro e w' ⟨rfl, rfl⟩)
      go_ret
      exact ⟨by rw [HF.out]; rfl, Below.refl _ _⟩
    | true =>
      have k1 : rL (c.toNat : Int) = true := hl
      rw [k1] at CL
      by_cases hn : n = m
      · have HF : Hid (N = !K) := Lib.hid (by rw [HN.out, hl]; simp [h16, hn])
        subst hn
        clear k1 hl
        cases K
        all_goals
          go_enter Tryz.func102, Tryz.ntmps102
          go_wp2_with (first
            | (go_at_call 108; refine (CL.out _).mono ?_; rintro e w' ⟨rfl, rfl⟩)
            | (go_at_call 159; refine (CW.out _).mono ?_; rintro e w' ⟨rfl, hb⟩; have HB := Lib.hid hb; clear hb)
            | (go_at_call 149; refine (CK.out _).mono ?_; rintro e w' ⟨rfl, rfl⟩))
          go_ret
          exact ⟨by rw [HF.out]; rfl, HB.out⟩
      · have HF : Hid (N = false) := Lib.hid (by rw [HN.out, hl]; simp [hn])
        have hnm : ((n : Int) == (m : Int)) = false := by simp; omega
        clear k1 hl
        go_enter Tryz.func102, Tryz.ntmps102
        go_wp2_with (first
          | (go_at_call 108; refine (CL.out _).mono ?_; rintro e w' ⟨rfl, rfl⟩)
          | (go_at_call 159; refine (CW.out _).mono ?_; rintro e w' ⟨rfl, hb⟩; have HB := Lib.hid hb; clear hb))
        go_ret
        exact ⟨by rw [HF.out]; rfl, HB.out⟩
  · have HF : Hid (N = false) := Lib.hid (by rw [HN.out]; simp [h16])
    go_enter Tryz.func102, Tryz.ntmps102
    go_wp2
    go_ret
    exact ⟨by rw [HF.out]; rfl, Below.refl _ _⟩

theorem name_any (l : List UInt8) (w : World) (hs : l.length ≤ 2 ^ 40) : Calls Tryz.prog 102 #[.string (strOf l)] w fun e w' => e = .returned (.bool (isName l)) ∧ Below w.heap.size w w' := by
  cases l with
  | nil => exact name_nil w
  | cons c r => exact name_cons c r w hs

end Go.Proofs.YtemlceicmpcboaaGreatDoor.Lx
namespace Go.Proofs.YtemlceicmpcboaaGreatDoor.Lx
open Go.RowKit Dk

/-! digits as a number -/
theorem foldl_mono (l : List UInt8) (a : Nat) : a ≤ l.foldl (fun a c => a * 10 + (c.toNat - 48)) a := by
  induction l generalizing a with
  | nil => exact Nat.le_refl _
  | cons c r ih => exact Nat.le_trans (by omega) (ih (a * 10 + (c.toNat - 48)))

theorem parseUintM_digits : ∀ (l : List UInt8) (acc : Nat), (∀ c ∈ l, isD c = true) → acc < 2 ^ 64 →
    Lib.parseUintM (2 ^ 64 - 1) acc l = (if l.foldl (fun a c => a * 10 + (c.toNat - 48)) acc < 2 ^ 64 then .ok (l.foldl (fun a c => a * 10 + (c.toNat - 48)) acc) else .range)
  | [], acc, _, h => by rw [Lib.parseUintM, List.foldl_nil, if_pos h]
  | c :: r, acc, hd, h => by
    have hc := hd c (by simp)
    have hc2 : 48 ≤ c.toNat ∧ c.toNat ≤ 57 := by unfold isD rD at hc; simp at hc; omega
    have hm := foldl_mono r (acc * 10 + (c.toNat - 48))
    rw [Lib.parseUintM, if_pos hc2, List.foldl_cons]
    by_cases h1 : 1844674407370955162 ≤ acc
    · rw [if_pos h1, if_neg (by omega)]
    · rw [if_neg h1]
      by_cases h2 : 2 ^ 64 - 1 < acc * 10 + (c.toNat - 48)
      · rw [if_pos h2, if_neg (by omega)]
      · rw [if_neg h2, parseUintM_digits r _ (fun x hx => hd x (by simp [hx])) (by omega)]

theorem parse_digits (l : List UInt8) (hne : l ≠ []) (hd : ∀ c ∈ l, isD c = true) : Lib.parseIntB 64 l = if numV l < 2 ^ 63 then .ok (numV l : Int) else .range := by
  obtain ⟨c, r, rfl⟩ := List.exists_cons_of_ne_nil hne
  have hc := hd c (by simp)
  have hc2 : 48 ≤ c.toNat ∧ c.toNat ≤ 57 := by unfold isD rD at hc; simp at hc; omega
  unfold Lib.parseIntB
  dsimp only
  rw [if_neg (by omega)]
  unfold Lib.parseUintB
  rw [if_neg (by simp), parseUintM_digits (c :: r) 0 hd (by decide)]
  show (match (if numV (c :: r) < 2 ^ 64 then Lib.NumEnd.ok (numV (c :: r)) else .range) with | .syntax => _ | .range => _ | .ok u => _) = _
  have n45 : ¬c.toNat = 45 := by omega
  by_cases h1 : numV (c :: r) < 2 ^ 64
  · rw [if_pos h1]
    dsimp only
    by_cases h2 : numV (c :: r) < 2 ^ 63
    · rw [if_neg (by simp only [n45, not_false_eq_true, true_and]; omega), if_neg (by simp only [n45, false_and, not_false_eq_true]), if_neg n45, if_pos h2]
    · rw [if_pos (by simp only [n45, not_false_eq_true, true_and]; omega), if_neg h2]
  · rw [if_neg h1, if_neg (by omega)]

theorem spanN_all (p : UInt8 → Bool) : ∀ l : List UInt8, ∀ c ∈ l.take (spanN p l), p c = true
  | [], c, h => by simp at h
  | x :: r, c, h => by
    unfold spanN at h
    split at h
    · rename_i hx
      rw [List.take_succ_cons] at h
      rcases List.mem_cons.1 h with rfl | h
      · exact hx
      · exact spanN_all p r c h
    · simp at h

/-- The library's error of the range lies where its variable is. -/
def HasE (w : World) : Prop := ∃ g tp p, Tryz.prog.globalNamed "strconv.ErrRange" = some g ∧ g < w.heap.size ∧ w.var? Tryz.prog "strconv.ErrRange" = some #[.iface tp p]
theorem HasE.later {w w' : World} (h : HasE w) (k : Below w.heap.size w w') : HasE w' := by
  obtain ⟨g, tp, p, h1, h2, h3⟩ := h
  exact ⟨g, tp, p, h1, Nat.lt_of_lt_of_le h2 k.size, var?_below k h1 h2 h3⟩

theorem parse_yes (T : List UInt8) (hne : T ≠ []) (hd : ∀ c ∈ T, isD c = true) (hl : T.length ≤ 2 ^ 40) (hv : numV T < 2 ^ 63) (w : World) :
    Calls Tryz.prog 164 #[.string (strOf T), .int .i64 10, .int .i64 64] w fun e w' => e = .returned (.tuple #[.int .i64 (numV T : Nat), .nilIface]) ∧ Below w.heap.size w w' := by
  have h := parse_digits T hne hd
  rw [if_pos hv] at h
  refine (strconv_ParseInt_10_at64_ok (strOf T) (by rw [strOf_size]; omega) _ (by rw [strOf_toList]; exact h) w).mono ?_
  rintro e w' ⟨rfl, rfl | ⟨t, rfl⟩⟩
  · exact ⟨rfl, Below.refl _ _⟩
  · exact ⟨rfl, Lib.bytesWorld_below _ _ _⟩

theorem parse_no (T : List UInt8) (hne : T ≠ []) (hd : ∀ c ∈ T, isD c = true) (hl : T.length ≤ 2 ^ 40) (hv : ¬numV T < 2 ^ 63) (w : World) (HE : HasE w) :
    Calls Tryz.prog 164 #[.string (strOf T), .int .i64 10, .int .i64 64] w fun e w' => ∃ n tp q, e = .returned (.tuple #[.int .i64 n, .iface tp (.pointer (some q))]) ∧ Below w.heap.size w w' := by
  have h := parse_digits T hne hd
  rw [if_neg hv] at h
  obtain ⟨g, tp, p, -, -, h3⟩ := HE
  refine (strconv_ParseInt_10_at64_range_var (strOf T) (by rw [strOf_size]; omega) (by rw [strOf_toList]; exact h) tp p w h3).mono ?_
  rintro e w' ⟨N, rfl, -, -, hb⟩
  exact ⟨_, _, _, rfl, hb⟩

set_option maxHeartbeats 2000000 in
theorem nextInt_any (s : ByteArray) (a : Nat) (c : UInt8) (r : List UInt8) (w : World) (hl : from' s a = c :: r) (hc : isD c = true) (hs : s.size ≤ 2 ^ 40) (HE : HasE w) :
    Calls Tryz.prog 111 #[.string s, .int .i64 (a : Int)] w fun e w' => e = .returned (oneV a (intOf' (from' s a) (spanN isD (from' s a)))) ∧ Below w.heap.size w w' := by
  have hlen := from_length s a
  have hle := spanN_le isD (from' s a)
  have hpos : 1 ≤ spanN isD (from' s a) := by rw [hl, spanN_first hc]; omega
  have ha : a ≤ s.size := by rw [hl] at hlen; simp at hlen; omega
  have C := Lib.hid (fun W => digitsEnd_any s a W ha hs)
  have hmid := fun W => run_mid (P := Tryz.prog) s a (spanN isD (from' s a)) (by omega) 9 Tryz.underlying9 W
  have hall := spanN_all isD (from' s a)
  have hT : ∃ r', (from' s a).take (spanN isD (from' s a)) = c :: r' := by
    rw [hl]
    obtain ⟨k, hk⟩ : ∃ k, spanN isD (c :: r) = k + 1 := ⟨spanN isD (c :: r) - 1, by rw [hl] at hpos; omega⟩
    rw [hk, List.take_succ_cons]; exact ⟨_, rfl⟩
  obtain ⟨r', hT⟩ := hT
  have hlt : (c :: r').length = spanN isD (from' s a) := by rw [← hT, List.length_take, Nat.min_eq_left hle]
  obtain ⟨R, hR⟩ : ∃ R, R = oneV a (intOf' (from' s a) (spanN isD (from' s a))) := ⟨_, rfl⟩
  rw [← hR]
  unfold intOf' at hR
  rw [hT] at hmid hall hR
  generalize spanN isD (from' s a) = n at *
  clear hT hl
  have hsz : (strOf (c :: r')).size = n := by rw [strOf_size, hlt]
  have hidx : ∀ W : World, (Instr.index 9 (.string (strOf (c :: r'))) (.int .i64 0)).run Tryz.prog W = .ok (.int .u8 (c.toNat : Int)) W := fun W => by
    have h1 : ((strOf (c :: r'))[0]'(by omega)) = c := rfl
    rw [← h1]
    go_simp
    omega
  have PY := Lib.hid (fun h W => parse_yes (c :: r') (by simp) hall (by omega) h W)
  have PN := Lib.hid (fun h W => parse_no (c :: r') (by simp) hall (by omega) h W)
  have HV1 : Hid (1 < n ∧ c.toNat = 48 → numL (c :: r') = none) := Lib.hid (fun h => by
    unfold numL; rw [if_pos ⟨by rw [hlt]; exact h.1, by rw [List.head?_cons]; congr 1; exact UInt8.toNat_inj.1 h.2⟩])
  have hnl : ¬(1 < n ∧ c.toNat = 48) → numL (c :: r') = if numV (c :: r') < 2 ^ 63 then some (numV (c :: r')) else none := fun h => by
    unfold numL; rw [if_neg]; rintro ⟨h1, h2⟩; exact h ⟨by rw [hlt] at h1; exact h1, by rw [List.head?_cons] at h2; rw [Option.some.inj h2]; rfl⟩
  have HNL := Lib.hid hnl
  generalize numL (c :: r') = M at *
  have HT := Lib.hid (show c :: r' = c :: r' from rfl)
  generalize numV (c :: r') = V at *
  generalize hx : c :: r' = T at *
  have HRR := Lib.hid hR
  clear hx hall hnl hlt hlen hle HT hR
  rw [Int.natCast_add] at C
  have HZ := Lib.hid (tw_new w)
  have HHE := Lib.hid HE
  go_enter Tryz.func111, Tryz.ntmps111
  go_wp2_with fail
  generalize w.alloc _ = W1 at HZ ⊢
  refine (C.out _).mono ?_
  rintro e W2 ⟨rfl, hb⟩
  have HY := Lib.hid (HZ.out.later hb)
  clear hb HZ C HE
  by_cases h0 : c.toNat = 48
  · by_cases h1 : 1 < n
    · have hM := HV1.out ⟨h1, h0⟩
      have HM := Lib.hid hM
      clear hM
      have e0 : ((c.toNat : Int) == 48) = true := by rw [h0]; rfl
      have e1 : ((strOf T).size : Int) > 1 := by omega
      clear h0
      go_wp2_with (refine wpList_store_mid rfl 72 _ _ rfl w.heap.size 0 Tk.zero.cells.toArray rfl rfl HY.out.1.room (t_infoA _) (t_all _) ?_; have HR := Lib.hid (HY.out.put Tk.zero); generalize World.setCells _ _ _ _ = W8 at HR ⊢)
      refine bodyPost_ret (results_cell3 rfl _ _ rfl HR.out.1.cells Tryz.underlying72 rfl (t_info _)) rfl ?_
      exact ⟨by rw [HRR.out, HM.out]; rfl, HR.out.2⟩
    · have HM0 := Lib.hid (HNL.out (fun h => h1 h.1))
      have e0 : ((c.toNat : Int) == 48) = true := by rw [h0]; rfl
      have e1 : ¬((strOf T).size : Int) > 1 := by omega
      clear h0
      by_cases hv : V < 2 ^ 63
      · have HM : Hid (M = some V) := Lib.hid (by rw [HM0.out, if_pos hv])
        have P := Lib.hid (fun W => PY.out hv W)
        clear HM0 HV1 HNL PY PN
        go_wp2_with (first
          | (go_at_call 164; refine (P.out _).mono ?_; rintro e W3 ⟨rfl, hb3⟩; have HW := Lib.hid (HY.out.later hb3); clear hb3)
          | (refine wpList_store_mid rfl 72 _ _ rfl w.heap.size 0 (Tk.mk 2 T V a).cells.toArray rfl rfl HW.out.1.room (t_infoA _) (t_all _) ?_; have HR := Lib.hid (HW.out.put (Tk.mk 2 T V a)); generalize World.setCells _ _ _ _ = W8 at HR ⊢))
        refine bodyPost_ret (results_cell3 rfl _ _ rfl HR.out.1.cells Tryz.underlying72 rfl (t_info _)) rfl ?_
        exact ⟨by rw [HRR.out, HM.out]; rfl, HR.out.2⟩
      · have HM : Hid (M = none) := Lib.hid (by rw [HM0.out, if_neg hv])
        have P := Lib.hid (fun W h => PN.out hv W h)
        clear HM0 HV1 HNL PY PN
        go_wp2_with (first
          | (go_at_call 164; refine (P.out _ (HHE.out.later HY.out.2)).mono ?_; rintro e W3 ⟨x3, x4, x5, rfl, hb3⟩; have HW := Lib.hid (HY.out.later hb3); clear hb3)
          | (refine wpList_store_mid rfl 72 _ _ rfl w.heap.size 0 Tk.zero.cells.toArray rfl rfl HW.out.1.room (t_infoA _) (t_all _) ?_; have HR := Lib.hid (HW.out.put Tk.zero); generalize World.setCells _ _ _ _ = W8 at HR ⊢))
        refine bodyPost_ret (results_cell3 rfl _ _ rfl HR.out.1.cells Tryz.underlying72 rfl (t_info _)) rfl ?_
        exact ⟨by rw [HRR.out, HM.out]; rfl, HR.out.2⟩
  · have HM0 := Lib.hid (HNL.out (fun h => h0 h.2))
    have e0 : ((c.toNat : Int) == 48) = false := by simp; omega
    clear h0
    by_cases hv : V < 2 ^ 63
    · have HM : Hid (M = some V) := Lib.hid (by rw [HM0.out, if_pos hv])
      have P := Lib.hid (fun W => PY.out hv W)
      clear HM0 HV1 HNL PY PN
      go_wp2_with (first
        | (go_at_call 164; refine (P.out _).mono ?_; rintro e W3 ⟨rfl, hb3⟩; have HW := Lib.hid (HY.out.later hb3); clear hb3)
        | (refine wpList_store_mid rfl 72 _ _ rfl w.heap.size 0 (Tk.mk 2 T V a).cells.toArray rfl rfl HW.out.1.room (t_infoA _) (t_all _) ?_; have HR := Lib.hid (HW.out.put (Tk.mk 2 T V a)); generalize World.setCells _ _ _ _ = W8 at HR ⊢))
      refine bodyPost_ret (results_cell3 rfl _ _ rfl HR.out.1.cells Tryz.underlying72 rfl (t_info _)) rfl ?_
      exact ⟨by rw [HRR.out, HM.out]; rfl, HR.out.2⟩
    · have HM : Hid (M = none) := Lib.hid (by rw [HM0.out, if_neg hv])
      have P := Lib.hid (fun W h => PN.out hv W h)
      clear HM0 HV1 HNL PY PN
      go_wp2_with (first
        | (go_at_call 164; refine (P.out _ (HHE.out.later HY.out.2)).mono ?_; rintro e W3 ⟨x3, x4, x5, rfl, hb3⟩; have HW := Lib.hid (HY.out.later hb3); clear hb3)
        | (refine wpList_store_mid rfl 72 _ _ rfl w.heap.size 0 Tk.zero.cells.toArray rfl rfl HW.out.1.room (t_infoA _) (t_all _) ?_; have HR := Lib.hid (HW.out.put Tk.zero); generalize World.setCells _ _ _ _ = W8 at HR ⊢))
      refine bodyPost_ret (results_cell3 rfl _ _ rfl HR.out.1.cells Tryz.underlying72 rfl (t_info _)) rfl ?_
      exact ⟨by rw [HRR.out, HM.out]; rfl, HR.out.2⟩

end Go.Proofs.YtemlceicmpcboaaGreatDoor.Lx
namespace Go.Proofs.YtemlceicmpcboaaGreatDoor.Lx
open Go.RowKit Dk

/-- What stands behind a backslash, and goes on. -/
def textE : List UInt8 → Option (List UInt8 × Nat)
  | [] => none
  | d :: r => match unescN d with
    | none => none
    | some e => (textL r).map fun q => (e :: q.1, q.2 + 1)
def textB (b : Bool) (l : List UInt8) : Option (List UInt8 × Nat) := if b then textE l else textL l
def shift (pre : List UInt8) (i : Nat) (o : Option (List UInt8 × Nat)) : Option (List UInt8 × Nat) := o.map fun q => (pre ++ q.1, q.2 + i)
theorem shift_nil (o : Option (List UInt8 × Nat)) : shift [] 0 o = o := by cases o <;> rfl
theorem shift_none (pre : List UInt8) (i : Nat) : shift pre i none = none := rfl
theorem shift_shift (a b : List UInt8) (i j : Nat) (o : Option (List UInt8 × Nat)) : shift a i (shift b j o) = shift (a ++ b) (j + i) o := by
  cases o with
  | none => rfl
  | some q => simp [shift, List.append_assoc, Nat.add_assoc]

theorem textL_cons (c : UInt8) (r : List UInt8) : textL (c :: r) = if c.toNat = 34 then some ([], 1) else if c.toNat = 10 then none else if c.toNat = 92 then shift [] 1 (textE r) else shift [c] 1 (textL r) := by
  have e := textL.eq_def (c :: r)
  dsimp only at e
  rw [e]
  split
  · rfl
  · split
    · rfl
    · split
      · cases r with
        | nil => rfl
        | cons d r' =>
          dsimp only [textE]
          cases unescN d with
          | none => rfl
          | some e => dsimp only; cases textL r' <;> rfl
      · rfl
theorem textL_end (r : List UInt8) {c : UInt8} (h : c.toNat = 34) : textL (c :: r) = some ([], 1) := by rw [textL_cons, if_pos h]
theorem textL_line (r : List UInt8) {c : UInt8} (h : c.toNat = 10) : textL (c :: r) = none := by rw [textL_cons, if_neg (by omega), if_pos h]
theorem textL_esc (r : List UInt8) {c : UInt8} (h : c.toNat = 92) : textL (c :: r) = shift [] 1 (textE r) := by rw [textL_cons, if_neg (by omega), if_neg (by omega), if_pos h]
theorem textL_other (r : List UInt8) {c : UInt8} (h1 : c.toNat ≠ 34) (h2 : c.toNat ≠ 10) (h3 : c.toNat ≠ 92) : textL (c :: r) = shift [c] 1 (textL r) := by rw [textL_cons, if_neg h1, if_neg h2, if_neg h3]
theorem textL_high : ∀ (l : List UInt8) (k : Nat), k ≤ l.length → (∀ c ∈ l.take k, 128 ≤ c.toNat) → textL l = shift (l.take k) k (textL (l.drop k))
  | l, 0, _, _ => by simp [shift_nil]
  | [], k + 1, h, _ => by simp at h
  | c :: l, k + 1, h, h' => by
    have hc := h' c (by simp)
    rw [textL_other l (by omega) (by omega) (by omega), textL_high l k (by simpa using h) (fun x hx => h' x (by simp [hx])), shift_shift]
    rfl

section
variable {T : List UInt8} {i k : Nat} {r : Int}
theorem text_end (h : Rune T i r k) (hr : r = 34) : textL (T.drop i) = some ([], 1) ∧ k = 1 := by
  obtain ⟨c, e, hc, rfl⟩ := h.first (by omega)
  exact ⟨by rw [e, textL_end _ (by omega)], rfl⟩
theorem text_line (h : Rune T i r k) (hr : r = 10) : textL (T.drop i) = none := by
  obtain ⟨c, e, hc, rfl⟩ := h.first (by omega)
  rw [e, textL_line _ (by omega)]
theorem text_esc (h : Rune T i r k) (hr : r = 92) : textL (T.drop i) = shift [] k (textE (T.drop (i + k))) ∧ k = 1 := by
  obtain ⟨c, e, hc, rfl⟩ := h.first (by omega)
  exact ⟨by rw [e, textL_esc _ (by omega)], rfl⟩
theorem text_other (h : Rune T i r k) (h1 : r ≠ 34) (h2 : r ≠ 10) (h3 : r ≠ 92) : textL (T.drop i) = shift ((T.drop i).take k) k (textL (T.drop (i + k))) := by
  rcases h.is with ⟨c, e, hc, h4, rfl⟩ | ⟨hc, h4⟩
  · rw [e, textL_other _ (by omega) (by omega) (by omega)]; rfl
  · rw [textL_high _ k (by rw [List.length_drop]; have := h.le; omega) h4, List.drop_drop]
/-- The byte that a rune behind a backslash stands for. -/
def unescI (r : Int) : UInt8 := if r = 110 then 10 else r.toNat.toUInt8
theorem unesc_no (h : Rune T i r k) (hr : r ≠ 110 ∧ r ≠ 34 ∧ r ≠ 92) : textE (T.drop i) = none := by
  obtain ⟨c, e, h1, h2⟩ := h.head
  have : unescN c = none := by
    unfold unescN
    rcases Int.lt_or_le r 128 with h' | h'
    · have := h1 h'; rw [if_neg (by omega), if_neg (by omega)]
    · have := h2 h'; rw [if_neg (by omega), if_neg (by omega)]
  rw [e, textE, this]
theorem unesc_yes (h : Rune T i r k) (hr : r = 110 ∨ r = 34 ∨ r = 92) : textE (T.drop i) = shift [unescI r] k (textL (T.drop (i + k))) ∧ k = 1 ∧ unescR r = .tuple #[.int .u8 ((unescI r).toNat : Int), .bool true] := by
  obtain ⟨c, e, hc, rfl⟩ := h.first (by omega)
  have hcr : r.toNat.toUInt8 = c := by rw [hc]; simp
  have : unescN c = some (unescI r) := by
    unfold unescN unescI
    by_cases h1 : r = 110
    · rw [if_pos (by omega), if_pos h1]
    · rw [if_neg (by omega), if_pos (by omega), if_neg h1, hcr]
  refine ⟨by rw [e, textE, this]; rfl, rfl, ?_⟩
  unfold unescR unescI
  rcases hr with rfl | rfl | rfl <;> rfl
theorem unescR_no (hr : r ≠ 110 ∧ r ≠ 34 ∧ r ≠ 92) : unescR r = .tuple #[.int .u8 0, .bool false] := by
  unfold unescR; rw [if_neg hr.1, if_neg (by omega)]
end

theorem own_lo {w : World} {base : Nat} {e : TypeId} {size n : Nat} {v : Value} {xs : List Value} (h : w.ownsRow base e size v n xs) : ∀ b, v.ownBlock = some b → base ≤ b ∧ b < w.heap.size := by
  intro b hb
  rcases h.2 with ⟨rfl, _⟩ | ⟨g, cap, cur, rfl, hbg, hg, _⟩
  · cases hb
  · cases hb
    exact ⟨hbg, by
      rcases Nat.lt_or_ge g w.heap.size with h | h
      · exact h
      · rw [Array.getElem?_eq_none h] at hg; cases hg⟩

/-- A token's block, an iterator behind it, and a row of bytes behind both. -/
structure TX (w W : World) (v : Value) (pre : List UInt8) (t : ByteArray) (i : Nat) : Prop where
  tok : TW w W Tk.zero
  iter : W.heap[w.heap.size + 1]? = some (.stringIter t i)
  row : W.ownsRow (w.heap.size + 2) 5 1 v pre.length (bv pre)
  big : w.heap.size + 2 ≤ W.heap.size

theorem TX.first (w W1 : World) (h : TW w W1 Tk.zero) (hs : W1.heap.size = w.heap.size + 1) (t : ByteArray) : TX w (W1.iter t 0) (.slice none 0 0) [] t 0 := by
  have hit := World.iter_heap W1 t 0
  rw [hs] at hit
  have hsz : (W1.iter t 0).heap.size = w.heap.size + 2 := by show (W1.heap.push _).size = _; simp [hs]
  exact ⟨h.later (below_iter (Below.refl _ _) (Nat.le_refl _) t 0), hit, by simpa [bv] using World.ownsRow_nil _ _ _ _, by omega⟩

theorem TX.next {w W W1 : World} {v : Value} {pre : List UInt8} {t : ByteArray} {i j : Nat} (h : TX w W v pre t i) (h1 : W1.heap[w.heap.size + 1]? = some (.stringIter t j)) (h2 : ∀ B w', B ≤ w.heap.size + 1 → Below B w' W → Below B w' W1) (h3 : ∀ j, j ≠ w.heap.size + 1 → W1.heap[j]? = W.heap[j]?) (h4 : W1.heap.size = W.heap.size) : TX w W1 v pre t j := by
  have hb := h2 (w.heap.size) w (by omega) h.tok.2
  have hs : W.heap.size ≤ W1.heap.size := Nat.le_of_eq h4.symm
  exact ⟨⟨h.tok.1.of_block (h3 _ (by omega)) hs, hb⟩, h1, ownsRow_block h.row (fun b hb' => h3 b (by have := (own_lo h.row b hb').1; omega)), Nat.le_trans h.big hs⟩

theorem TX.grown {w W W1 W' : World} {v v' : Value} {pre pre' : List UInt8} {t : ByteArray} {i : Nat} (h : TX w W v pre t i) (hW : Below W.heap.size W W1) (hg : W1.grownBy W' v.ownBlock) (hrow : W'.ownsRow (w.heap.size + 2) 5 1 v' pre'.length (bv pre')) : TX w W' v' pre' t i := by
  have ho : Only (fun k => w.heap.size + 2 ≤ k) W W' := (Only.of_below (F := fun k => w.heap.size + 2 ≤ k) hW).trans (Only.of_grown (F := fun k => w.heap.size + 2 ≤ k) hg (fun k hk => (own_lo h.row k hk).1)) (fun _ _ h => h)
  have hs := ho.size
  have hb := h.big
  exact ⟨⟨h.tok.1.of_block (ho.block _ (by omega) (by omega)) hs, ho.below h.tok.2 (fun _ h => by omega) (Nat.le_refl _)⟩, (ho.block _ (by omega) (by omega)).trans h.iter, hrow, by omega⟩

theorem strCells_bv (l : List UInt8) : Lib.strCells (strOf l) = bv l := by simp [Lib.strCells, bv, strOf]

theorem TX.appS {w W W' : World} {v v' : Value} {pre mid : List UInt8} {t : ByteArray} {i : Nat} (h : TX w W v pre t i) (hrow : W'.ownsRow (w.heap.size + 2) 5 1 v' (pre.length + (strOf mid).size) (bv pre ++ Lib.strCells (strOf mid))) (hg : W.grownBy W' v.ownBlock) : TX w W' v' (pre ++ mid) t i :=
  h.grown (Below.refl _ _) hg (by rw [strOf_size, strCells_bv, ← bv_append, ← List.length_append] at hrow; exact hrow)
theorem TX.app1 {w W W' : World} {v v' : Value} {pre : List UInt8} {x : UInt8} {t : ByteArray} {i : Nat} {o : Obj} (h : TX w W v pre t i) (hrow : W'.ownsRow (w.heap.size + 2) 5 1 v' (pre.length + 1) (bv pre ++ [.int .u8 (x.toNat : Int)])) (hg : (W.alloc o).grownBy W' v.ownBlock) : TX w W' v' (pre ++ [x]) t i :=
  h.grown ((Below.refl _ _).alloc (Nat.le_refl _) _) hg (by rw [show [Value.int .u8 (x.toNat : Int)] = bv [x] from rfl, ← bv_append] at hrow; rw [List.length_append]; exact hrow)

theorem take_more (T : List UInt8) (k i n : Nat) (hk : k ≤ i) : (T.drop k).take (i - k) ++ (T.drop i).take n = (T.drop k).take (i + n - k) := by
  rw [show i + n - k = (i - k) + n by omega, List.take_add, List.drop_drop, show k + (i - k) = i by omega]

theorem b_info3 : (Tryz.prog.info? 5).map (fun i => (i.zero, i.size, i.bytes)) = some (some (.int .u8 0), 1, 1) := by kernel_rfl

set_option maxHeartbeats 4000000 in
theorem nextText_any (s : ByteArray) (a : Nat) (c : UInt8) (T : List UInt8) (w : World) (hl : from' s a = c :: T) (hs : s.size ≤ 2 ^ 40) :
    Calls Tryz.prog 112 #[.string s, .int .i64 (a : Int)] w fun e w' => e = .returned (oneV a (textOf T)) ∧ Below w.heap.size w w' := by
  have hlen := from_length s a
  rw [hl] at hlen
  simp at hlen
  have hT : from' s (a + 1) = T := by rw [← from_drop, hl]; rfl
  have hex : s.extract (a + 1) s.size = strOf T := by rw [← hT, ← extract_list s (a + 1)]; exact (strOf_self _).symm
  have hsl : ∀ W : World, (Instr.slice 9 (.string s) (some (.int .i64 ((a : Int) + 1))) none none).run Tryz.prog W = .ok (.string (strOf T)) W := fun W => by
    have := run_from (P := Tryz.prog) s (a + 1) (by omega) 9 Tryz.underlying9 W
    rw [hex, show ((a + 1 : Nat) : Int) = (a : Int) + 1 by omega] at this
    exact this
  have HMID : Hid (∀ (k i : Nat) (W : World), k ≤ i → i ≤ T.length → (Instr.slice 9 (.string s) (some (.int .i64 ((a : Int) + 1 + (k : Int)))) (some (.int .i64 ((i : Int) + ((a : Int) + 1)))) none).run Tryz.prog W = .ok (.string (strOf ((T.drop k).take (i - k)))) W) := Lib.hid (fun k i W hk hi => by
    have := run_mid (P := Tryz.prog) s (a + 1 + k) (i - k) (by omega) 9 Tryz.underlying9 W
    rw [← from_drop, hT] at this
    rw [show ((a + 1 + k : Nat) : Int) + ((i - k : Nat) : Int) = (i : Int) + ((a : Int) + 1) by omega, show ((a + 1 + k : Nat) : Int) = (a : Int) + 1 + (k : Int) by omega] at this
    exact this)
  obtain ⟨R, hR⟩ : ∃ R, R = oneV a (textOf T) := ⟨_, rfl⟩
  rw [← hR]
  have HRR := Lib.hid hR
  have HZ := Lib.hid (tw_new w)
  have hz1 : (w.alloc (.cells #[.int .i64 0, .string ⟨#[]⟩, .int .i64 0, .int .i64 0] 72)).heap.size = w.heap.size + 1 := by simp
  have HZ1 := Lib.hid hz1
  have hTs := strOf_size T
  clear hex hl hT hR hz1
  go_enter Tryz.func112, Tryz.ntmps112
  obtain ⟨i0, hi0, hy0, hy1, hy2⟩ := info_parts b_info3
  go_wp2
  clear hsl
  go_loopw [8, 9, 10] (fun vc vk ve wr => ∃ (i k : Nat) (b : Bool) (pre : List UInt8), i ≤ T.length ∧ k ≤ i ∧ (if b = true then pre.length ≤ i else pre.length ≤ k) ∧ vk = .int .i64 ((a : Int) + 1 + (k : Int)) ∧ ve = .bool b ∧ Hid (TX w wr vc pre (strOf T) i) ∧ Hid (textL T = shift (if b = true then pre else pre ++ (T.drop k).take (i - k)) i (textB b (T.drop i)))) (fun _ _ _ wr => T.length - wr.iterPos (w.heap.size + 1))
  case atStart => exact ⟨0, 0, false, [], Nat.zero_le _, Nat.le_refl _, by simp, by simp, rfl, Lib.hid (TX.first w _ HZ.out HZ1.out (strOf T)), Lib.hid (by simp [shift_nil, textB])⟩
  case round =>
    obtain ⟨i, k, b, pre, hi, hk, hpre, rfl, rfl, hX, hS⟩ := hrel
    by_cases hlt : i < T.length
    · obtain ⟨r, n, w1, hR, hn, hit1, hB1, ho1, hs1⟩ := iter_step (P := Tryz.prog) hX.out.iter (by omega)
      rw [strOf_toList] at hR
      have HX := Lib.hid (hX.out.next hit1 hB1 ho1 hs1)
      have HR := Lib.hid hR
      have hle : i + n ≤ T.length := hR.le
      have hpos := hR.pos
      have HM : Hid (∀ W : World, W.heap[w.heap.size + 1]? = some (Obj.stringIter (strOf T) (i + n)) → T.length - W.iterPos (w.heap.size + 1) < T.length - wr.iterPos (w.heap.size + 1)) := Lib.hid (fun W h => by rw [iterPos_of h, iterPos_of hX.out.iter]; omega)
      clear hR hB1 hit1 ho1 hs1 hX
      cases b with
      | true =>
        replace hpre : pre.length ≤ i := by simpa using hpre
        have hS' := hS.out
        rw [if_pos rfl, show textB true (T.drop i) = textE (T.drop i) from rfl] at hS'
        by_cases hy : r = 110 ∨ r = 34 ∨ r = 92
        · obtain ⟨q1, rfl, q3⟩ := unesc_yes HR.out hy
          rw [q1, shift_shift] at hS'
          have HS : Hid (textL T = shift (pre ++ [unescI r]) (i + 1) (textL (T.drop (i + 1)))) := Lib.hid (by rw [hS', Nat.add_comm 1 i])
          have C := Lib.hid (fun W => unescape_any r W)
          rw [q3] at C
          generalize unescI r = x at *
          clear hS hS' q1 q3 hy
          have N1 := Lib.hid (news_at w1 #[.int .u8 (x.toNat : Int)] 5)
          go_wp2_with (first
            | (go_at_call 165; refine (C.out _).mono ?_; rintro e w' ⟨rfl, rfl⟩)
            | (refine wpList_append_lies _ rfl (.tmp 39) (.tmp 41) 69 rfl (w.heap.size + 2) 5 i0 (.int .u8 0) 1 1 Tryz.underlying69 hi0 hy0 hy1 hy2 rfl (by decide) _ pre.length (bv pre) rfl (HX.out.row.alloc _) ⟨w1.heap.size, 0, none⟩ 1 1 [.int .u8 (x.toNat : Int)] rfl rfl N1.out (by simp [Value.oneCell']) (by decide) (by unfold maxLen; omega) (by omega) (by have := HX.out.big; simp; omega) (w1.heap.size + 1) (by simp) ?_; intro g cap W7 hrow hgr hgl hlt7; have HX2 := Lib.hid (HX.out.app1 (x := x) hrow hgr); clear hrow hgr hgl hlt7))
          go_roundw
          case rel => exact ⟨i + 1, i + 1, false, pre ++ [x], by omega, Nat.le_refl _, by simp; omega, by go_num, rfl, HX2, Lib.hid (by rw [HS.out]; simp [textB])⟩
          case measure => exact HM.out _ HX2.out.iter
        · have hno : r ≠ 110 ∧ r ≠ 34 ∧ r ≠ 92 := by omega
          rw [unesc_no HR.out hno, shift_none] at hS'
          have HS := Lib.hid hS'
          have C := Lib.hid (fun W => unescape_any r W)
          rw [unescR_no hno] at C
          clear hS hS' hy hno
          have HW : Hid (TW w w1 Tk.zero) := Lib.hid HX.out.tok
          go_wp2_with (first
            | (go_at_call 165; refine (C.out _).mono ?_; rintro e w' ⟨rfl, rfl⟩)
            | (refine wpList_store_mid rfl 72 _ _ rfl w.heap.size 0 Tk.zero.cells.toArray rfl rfl HW.out.1.room (t_infoA _) (t_all _) ?_; have HR := Lib.hid (HW.out.put Tk.zero); generalize World.setCells _ _ _ _ = W8 at HR ⊢))
          refine bodyPost_ret (results_cell3 rfl _ _ rfl HR.out.1.cells Tryz.underlying72 rfl (t_info _)) rfl ?_
          exact ⟨by rw [HRR.out]; unfold textOf; rw [HS.out]; rfl, HR.out.2⟩
      | false =>
        replace hpre : pre.length ≤ k := by simpa using hpre
        have hS' := hS.out
        rw [if_neg Bool.false_ne_true, show textB false (T.drop i) = textL (T.drop i) from rfl] at hS'
        by_cases h92 : r = 92
        · obtain ⟨q1, rfl⟩ := text_esc HR.out h92
          rw [q1, shift_shift] at hS'
          have hmid := fun W => HMID.out k i W hk hi
          have hml := strOf_size ((T.drop k).take (i - k))
          have hmt : ((T.drop k).take (i - k)).length = i - k := by rw [List.length_take, List.length_drop]; omega
          generalize (T.drop k).take (i - k) = mid at *
          have HLM : Hid (pre.length + (strOf mid).size ≤ 2 ^ 41 ∧ (pre ++ mid).length ≤ i) := Lib.hid ⟨by omega, by rw [List.length_append]; omega⟩
          have HS : Hid (textL T = shift (pre ++ mid) (i + 1) (textE (T.drop (i + 1)))) := Lib.hid (by rw [hS', Nat.add_comm 1 i, List.append_nil])
          clear hS hS' q1 hml hmt
          subst h92
          go_wp2_with (at_builtin; refine Lib.wpList_append_own_string _ rfl _ _ 69 9 rfl (w.heap.size + 2) 5 i0 Tryz.underlying69 Tryz.underlying9 hi0 hy0 hy1 hy2 _ pre.length (bv pre) rfl HX.out.row (strOf mid) rfl (by have := HLM.out; unfold maxLen; omega) (by have := HLM.out; omega) HX.out.big ?_; intro v' W' hrow hgr _; have HX2 := Lib.hid (HX.out.appS hrow hgr); clear hrow hgr)
          go_roundw
          case rel => exact ⟨i + 1, k, true, pre ++ mid, by omega, by omega, by rw [if_pos rfl]; have := HLM.out.2; omega, rfl, rfl, HX2, Lib.hid (by rw [HS.out]; simp [textB])⟩
          case measure => exact HM.out _ HX2.out.iter
        · by_cases h34 : r = 34
          · obtain ⟨q1, rfl⟩ := text_end HR.out h34
            rw [q1] at hS'
            have hmid := fun W => HMID.out k i W hk hi
            have hml := strOf_size ((T.drop k).take (i - k))
            have hmt : ((T.drop k).take (i - k)).length = i - k := by rw [List.length_take, List.length_drop]; omega
            generalize (T.drop k).take (i - k) = mid at *
            have HLM : Hid (pre.length + (strOf mid).size ≤ 2 ^ 41 ∧ (pre ++ mid).length ≤ i) := Lib.hid ⟨by omega, by rw [List.length_append]; omega⟩
            have HS : Hid (textL T = some (pre ++ mid, 1 + i)) := Lib.hid (by rw [hS']; simp [shift])
            have e1 : IntKind.i64.wrap ((i : Int) + ((a : Int) + 1) + 1) = (i : Int) + ((a : Int) + 1) + 1 := IntWalk.i64_in _ (by omega)
            clear hS hS' q1 hml hmt
            subst h34
            go_wp2_with (first
              | (at_builtin; refine Lib.wpList_append_own_string _ rfl _ _ 69 9 rfl (w.heap.size + 2) 5 i0 Tryz.underlying69 Tryz.underlying9 hi0 hy0 hy1 hy2 _ pre.length (bv pre) rfl HX.out.row (strOf mid) rfl (by have := HLM.out; unfold maxLen; omega) (by have := HLM.out; omega) HX.out.big ?_; intro v' W' hrow hgr _; have HX2 := Lib.hid (HX.out.appS hrow hgr); clear hrow hgr; have g := run_convert_owned (P := Tryz.prog) (src := 69) (dst := 9) Tryz.underlying69 Tryz.underlying5 Tryz.underlying9 HX2.out.row)
              | (refine wpList_store_mid rfl 72 _ _ rfl w.heap.size 0 (Tk.mk 3 (pre ++ mid) 0 a).cells.toArray rfl rfl HX2.out.tok.1.room (t_infoA _) (t_all _) ?_; have HR := Lib.hid (HX2.out.tok.put (Tk.mk 3 (pre ++ mid) 0 a)); generalize World.setCells _ _ _ _ = W8 at HR ⊢))
            refine bodyPost_ret (results_cell3 rfl _ _ rfl HR.out.1.cells Tryz.underlying72 rfl (t_info _)) rfl ?_
            refine ⟨?_, HR.out.2⟩
            rw [HRR.out]
            unfold textOf
            rw [HS.out]
            dsimp only [oneV]
            rw [show (a : Int) + ((1 + i + 1 : Nat) : Int) = (i : Int) + ((a : Int) + 1) + 1 by omega]
            rfl
          · by_cases h10 : r = 10
            · rw [text_line HR.out h10, shift_none] at hS'
              have HS := Lib.hid hS'
              clear hS hS'
              subst h10
              have HW : Hid (TW w w1 Tk.zero) := Lib.hid HX.out.tok
              go_wp2_with (refine wpList_store_mid rfl 72 _ _ rfl w.heap.size 0 Tk.zero.cells.toArray rfl rfl HW.out.1.room (t_infoA _) (t_all _) ?_; have HR := Lib.hid (HW.out.put Tk.zero); generalize World.setCells _ _ _ _ = W8 at HR ⊢)
              refine bodyPost_ret (results_cell3 rfl _ _ rfl HR.out.1.cells Tryz.underlying72 rfl (t_info _)) rfl ?_
              exact ⟨by rw [HRR.out]; unfold textOf; rw [HS.out]; rfl, HR.out.2⟩
            · rw [text_other HR.out h34 h10 h92, shift_shift, List.append_assoc, take_more T k i n hk] at hS'
              have HS := Lib.hid hS'
              have HQ := Lib.hid (show i + n ≤ T.length ∧ k ≤ i + n ∧ pre.length ≤ k from ⟨hle, by omega, hpre⟩)
              have v1 : (r == 92) = false := by simpa using h92
              have v2 : (r == 34) = false := by simpa using h34
              have v3 : (r == 10) = false := by simpa using h10
              clear hS hS' hle hpos hpre h92 h34 h10
              go_wp2
              go_roundw
              case rel => exact ⟨i + n, k, false, pre, HQ.out.1, HQ.out.2.1, by simpa using HQ.out.2.2, rfl, rfl, HX, Lib.hid (by rw [HS.out, Nat.add_comm n i]; simp [textB])⟩
              case measure => exact HM.out _ HX.out.iter
    · obtain rfl : i = T.length := by omega
      have hn := fun ty => Lib.run_next_end_at (P := Tryz.prog) wr (w.heap.size + 1) (strOf T) T.length ty hX.out.iter (by omega)
      have hS' := hS.out
      rw [List.drop_eq_nil_of_le (Nat.le_refl _), show textB b [] = none by cases b <;> rfl, shift_none] at hS'
      have HS := Lib.hid hS'
      have HW : Hid (TW w wr Tk.zero) := Lib.hid hX.out.tok
      clear hS hS'
      go_wp2_with (refine wpList_store_mid rfl 72 _ _ rfl w.heap.size 0 Tk.zero.cells.toArray rfl rfl HW.out.1.room (t_infoA _) (t_all _) ?_; have HR := Lib.hid (HW.out.put Tk.zero); generalize World.setCells _ _ _ _ = W8 at HR ⊢)
      refine bodyPost_ret (results_cell3 rfl _ _ rfl HR.out.1.cells Tryz.underlying72 rfl (t_info _)) rfl ?_
      exact ⟨by rw [HRR.out]; unfold textOf; rw [HS.out]; rfl, HR.out.2⟩

end Go.Proofs.YtemlceicmpcboaaGreatDoor.Lx
namespace Go.Proofs.YtemlceicmpcboaaGreatDoor.Lx
open Go.RowKit Dk

def tkOf (p : Nat) : One → Tk
  | .bad _ => Tk.zero
  | .tok k t n _ => ⟨k, t, n, p⟩
def endOf (p : Nat) : One → Int
  | .bad _ => 0
  | .tok _ _ _ len => (p : Int) + (len : Int)
def errOf : One → Int
  | .bad e => (e : Int)
  | .tok _ _ _ _ => 0
theorem oneV_eq (p : Nat) (o : One) : oneV p o = .tuple #[.agg (tkOf p o).cells.toArray, .int .i64 (endOf p o), .int .i64 (errOf o)] := by cases o <;> rfl

theorem byte_at {P : Program} (s : ByteArray) (a : Nat) (c : UInt8) (r : List UInt8) (hl : from' s a = c :: r) (t : TypeId) (ht : P.underlying t = some .string) (W : World) : (Instr.index t (.string s) (.int .i64 (a : Int))).run P W = .ok (.int .u8 (c.toNat : Int)) W := by
  have hlen := from_length s a
  rw [hl] at hlen
  simp at hlen
  have ha : a < s.size := by omega
  have h1 : s[a]'ha = c := by
    have h2 : s.data.toList[a]'(by simpa using ha) = c := by
      have := List.drop_eq_getElem_cons (i := a) (l := s.data.toList) (by simpa using ha)
      unfold from' at hl
      rw [hl] at this
      exact ((List.cons.inj this).1).symm
    rw [← h2]; rfl
  have g1 : (0 : Int) ≤ (a : Int) := by omega
  have g2 : (a : Int) < (s.size : Int) := by omega
  rw [← h1]
  go_simp

set_option maxHeartbeats 4000000 in
theorem next_any (s : ByteArray) (a : Nat) (c : UInt8) (r : List UInt8) (w : World) (hl : from' s a = c :: r) (hs : s.size ≤ 2 ^ 40) (HE : HasE w) :
    Calls Tryz.prog 53 #[.string s, .int .i64 (a : Int)] w fun e w' => e = .returned (oneV a (oneL (c :: r))) ∧ Below w.heap.size w w' := by
  have hlen := from_length s a
  rw [hl] at hlen
  simp at hlen
  have hix := fun W => byte_at (P := Tryz.prog) s a c r hl 9 Tryz.underlying9 W
  have hcv := i32_byte c
  have CL := Lib.hid (fun W => letter_any (c.toNat : Int) W)
  have CD := Lib.hid (fun W => digit_any (c.toNat : Int) W)
  have NW := Lib.hid (fun W => nextWord_any s a W (by omega) hs)
  have NI := Lib.hid (fun hc W h => nextInt_any s a c r W hl hc hs h)
  have NT := Lib.hid (fun W => nextText_any s a c r W hl hs)
  have NM := Lib.hid (fun W => nextMark_any s a c r W hl hs)
  rw [hl] at NW NI NM
  obtain ⟨R, hR⟩ : ∃ R, R = oneL (c :: r) := ⟨_, rfl⟩
  rw [← hR, oneV_eq]
  have HRR := Lib.hid hR
  rw [oneL] at hR
  have HZ := Lib.hid (tw_new w)
  have HHE := Lib.hid HE
  clear HE hl hlen
  cases h1 : isL c with
  | true =>
    rw [h1, if_pos rfl] at hR
    rw [← hR, oneV_eq] at NW
    have k1 : rL (c.toNat : Int) = true := h1
    rw [k1] at CL
    clear h1 k1 hR NI NT NM
    generalize tkOf a R = tk at *
    generalize endOf a R = en at *
    generalize errOf R = er at *
    go_enter Tryz.func53, Tryz.ntmps53
    go_wp2_with (first
      | (go_at_call 108; refine (CL.out _).mono ?_; rintro e w' ⟨rfl, rfl⟩)
      | (go_at_call 110; refine (CD.out _).mono ?_; rintro e w' ⟨rfl, rfl⟩)
      | (go_at_call 109; refine (NW.out _).mono ?_; rintro e W3 ⟨rfl, hb3⟩; have HW := Lib.hid (HZ.out.later hb3); clear hb3)
      | (refine wpList_store_mid rfl 72 _ _ rfl w.heap.size 0 tk.cells.toArray rfl rfl HW.out.1.room (t_infoA _) (t_all _) ?_; have HR := Lib.hid (HW.out.put tk); generalize World.setCells _ _ _ _ = W8 at HR ⊢))
    refine bodyPost_ret (results_cell3 rfl _ _ rfl HR.out.1.cells Tryz.underlying72 rfl (t_info _)) rfl ?_
    exact ⟨rfl, HR.out.2⟩
  | false =>
    have k1 : rL (c.toNat : Int) = false := h1
    rw [h1, if_neg Bool.false_ne_true] at hR
    rw [k1] at CL
    clear h1 k1
    cases h2 : isD c with
    | true =>
      rw [h2, if_pos rfl] at hR
      have NI2 := Lib.hid (fun W h => NI.out h2 W h)
      rw [← hR, oneV_eq] at NI2
      have k2 : rD (c.toNat : Int) = true := h2
      rw [k2] at CD
      clear h2 k2 hR NW NT NM NI
      generalize tkOf a R = tk at *
      generalize endOf a R = en at *
      generalize errOf R = er at *
      go_enter Tryz.func53, Tryz.ntmps53
      go_wp2_with (first
        | (go_at_call 108; refine (CL.out _).mono ?_; rintro e w' ⟨rfl, rfl⟩)
        | (go_at_call 110; refine (CD.out _).mono ?_; rintro e w' ⟨rfl, rfl⟩)
        | (go_at_call 111; refine (NI2.out _ (HHE.out.later HZ.out.2)).mono ?_; rintro e W3 ⟨rfl, hb3⟩; have HW := Lib.hid (HZ.out.later hb3); clear hb3)
        | (refine wpList_store_mid rfl 72 _ _ rfl w.heap.size 0 tk.cells.toArray rfl rfl HW.out.1.room (t_infoA _) (t_all _) ?_; have HR := Lib.hid (HW.out.put tk); generalize World.setCells _ _ _ _ = W8 at HR ⊢))
      refine bodyPost_ret (results_cell3 rfl _ _ rfl HR.out.1.cells Tryz.underlying72 rfl (t_info _)) rfl ?_
      exact ⟨rfl, HR.out.2⟩
    | false =>
      have k2 : rD (c.toNat : Int) = false := h2
      rw [h2, if_neg Bool.false_ne_true] at hR
      rw [k2] at CD
      clear h2 k2
      by_cases h3 : c.toNat = 34
      · have k3 : ((c.toNat : Int) == 34) = true := by rw [h3]; rfl
        rw [if_pos h3] at hR
        rw [← hR, oneV_eq] at NT
        clear h3 hR NW NI NM
        generalize tkOf a R = tk at *
        generalize endOf a R = en at *
        generalize errOf R = er at *
        go_enter Tryz.func53, Tryz.ntmps53
        go_wp2_with (first
          | (go_at_call 108; refine (CL.out _).mono ?_; rintro e w' ⟨rfl, rfl⟩)
          | (go_at_call 110; refine (CD.out _).mono ?_; rintro e w' ⟨rfl, rfl⟩)
          | (go_at_call 112; refine (NT.out _).mono ?_; rintro e W3 ⟨rfl, hb3⟩; have HW := Lib.hid (HZ.out.later hb3); clear hb3)
          | (refine wpList_store_mid rfl 72 _ _ rfl w.heap.size 0 tk.cells.toArray rfl rfl HW.out.1.room (t_infoA _) (t_all _) ?_; have HR := Lib.hid (HW.out.put tk); generalize World.setCells _ _ _ _ = W8 at HR ⊢))
        refine bodyPost_ret (results_cell3 rfl _ _ rfl HR.out.1.cells Tryz.underlying72 rfl (t_info _)) rfl ?_
        exact ⟨rfl, HR.out.2⟩
      · have k3 : ((c.toNat : Int) == 34) = false := by simp; omega
        rw [if_neg h3] at hR
        rw [← hR, oneV_eq] at NM
        clear h3 hR NW NI NT
        generalize tkOf a R = tk at *
        generalize endOf a R = en at *
        generalize errOf R = er at *
        go_enter Tryz.func53, Tryz.ntmps53
        go_wp2_with (first
          | (go_at_call 108; refine (CL.out _).mono ?_; rintro e w' ⟨rfl, rfl⟩)
          | (go_at_call 110; refine (CD.out _).mono ?_; rintro e w' ⟨rfl, rfl⟩)
          | (go_at_call 113; refine (NM.out _).mono ?_; rintro e W3 ⟨rfl, hb3⟩; have HW := Lib.hid (HZ.out.later hb3); clear hb3)
          | (refine wpList_store_mid rfl 72 _ _ rfl w.heap.size 0 tk.cells.toArray rfl rfl HW.out.1.room (t_infoA _) (t_all _) ?_; have HR := Lib.hid (HW.out.put tk); generalize World.setCells _ _ _ _ = W8 at HR ⊢))
        refine bodyPost_ret (results_cell3 rfl _ _ rfl HR.out.1.cells Tryz.underlying72 rfl (t_info _)) rfl ?_
        exact ⟨rfl, HR.out.2⟩

end Go.Proofs.YtemlceicmpcboaaGreatDoor.Lx
namespace Go.Proofs.YtemlceicmpcboaaGreatDoor.Lx
open Go.RowKit Dk

theorem fold_set (k : Nat) : ∀ (c pre Z : List Value), pre.length = k → Z.length = c.length → (c.zipIdx k).foldl (fun (cs : Array Value) x => cs.setIfInBounds (0 + x.2) x.1) (pre ++ Z).toArray = (pre ++ c).toArray := by
  intro c
  induction c generalizing k with
  | nil => intro pre Z _ hZ; obtain rfl : Z = [] := List.eq_nil_of_length_eq_zero hZ; rfl
  | cons x c ih =>
    intro pre Z hp hZ
    cases Z with
    | nil => simp at hZ
    | cons z Z =>
      rw [List.zipIdx_cons, List.foldl_cons]
      have e : (pre ++ z :: Z).toArray.setIfInBounds (0 + k) x = ((pre ++ [x]) ++ Z).toArray := by
        rw [List.setIfInBounds_toArray, Nat.zero_add, List.set_append_right _ _ (by omega), hp, Nat.sub_self, List.set_cons_zero]; simp
      rw [e, ih (k + 1) (pre ++ [x]) Z (by simp [hp]) (by simpa using hZ)]
      simp

theorem run_buildSlice_one {P : Program} (t e : TypeId) (z : Value) (bytes size : Nat) (c : List Value) (W : World) (hu : P.underlying t = some (.slice e)) (hinfo : (P.info? e).map (fun i => (i.zero, i.size, i.bytes)) = some (some z, size, bytes))
    (_hz : z.cells.size = size) (hc : c.length = size) (h1 : 0 < size) (h2 : size ≤ 16777216) :
    (Instr.buildSlice t 1 #[(0, .agg c.toArray)]).run P W = .ok (.slice (some ⟨W.heap.size, 0, none⟩) 1 1) (W.alloc (.cells c.toArray e)) := by
  obtain ⟨i, hi, hz0, hs, hb⟩ := info_parts hinfo
  have hne : ¬ (16777216 < size) := by omega
  have hn0 : ¬ size = 0 := by omega
  have hfill : Instr.fill (fun i => some (i * size, size)) ((Array.range (1 * size)).map (z.cells[· % z.cells.size]!)) [(0, .agg c.toArray)] = some c.toArray := by
    have hZ : ∃ Z : List Value, (Array.range (1 * size)).map (z.cells[· % z.cells.size]!) = Z.toArray ∧ Z.length = size := ⟨((Array.range (1 * size)).map (z.cells[· % z.cells.size]!)).toList, by rw [Array.toArray_toList], by simp⟩
    obtain ⟨Z, e1, e2⟩ := hZ
    rw [e1]
    have hf := fold_set 0 c [] Z rfl (by omega)
    simp only [List.nil_append] at hf
    simp [Instr.fill, Value.cells, hc, e2]
    rw [← hf]
    simp
  simp [Instr.buildSlice, run_underlying hu, sizeOf, typeInfo, hi, hs, zeroValue, hz0, hne, hn0]
  rw [Nat.one_mul] at hfill
  rw [hfill]
  simp [newRow, go_sem]

/-- The cells of a row of tokens. -/
def tcells (l : List Tk) : List Value := l.flatMap Tk.cells
theorem tcells_app (a b : List Tk) : tcells (a ++ b) = tcells a ++ tcells b := by unfold tcells; rw [List.flatMap_append]
theorem tcells_cons (e : Tk) (l : List Tk) : tcells (e :: l) = e.cells ++ tcells l := rfl
theorem tcells_length (l : List Tk) : (tcells l).length = l.length * 4 := by
  induction l with
  | nil => rfl
  | cons a l ih => rw [tcells_cons, List.length_append, ih, List.length_cons]; show 4 + _ = _; omega
theorem tcells_ones (l : List Tk) : ∀ u ∈ tcells l, u.oneCell' = true := by
  intro u hu
  obtain ⟨e, _, he⟩ := List.mem_flatMap.1 hu
  exact t_one e u he

/-- A row of its own that holds these tokens. -/
structure TR (w w' : World) (v : Value) (l : List Tk) : Prop where
  row : w'.ownsRow w.heap.size 72 4 v l.length (tcells l)
  below : Below w.heap.size w w'

theorem TR.later {w wr W : World} {v : Value} {l : List Tk} (h : TR w wr v l) (hb : Below wr.heap.size wr W) : TR w W v l :=
  ⟨ownsRow_block h.row (fun b hb' => hb.block b (own_lo h.row b hb').2), chain2 h.below hb⟩
theorem TR.first (w : World) : TR w w (.slice none 0 0) [] := ⟨World.ownsRow_nil _ _ _ _, Below.refl _ _⟩

theorem below_grown {B : Nat} {w w1 W : World} {row : Option Nat} (h : w1.grownBy W row) (hb : Below B w w1) (hr : ∀ k, row = some k → B ≤ k) (_hB : B ≤ w1.heap.size) (ha : B ≤ w.heap.size) : Below B w W :=
  (Only.of_grown (F := fun k => B ≤ k) h hr).below hb (fun _ h => h) ha

theorem TR.push {w W4 W7 : World} {v : Value} {l : List Tk} {e : Tk} {g' cap : Nat} {o : Obj} (h : TR w W4 v l) (hrow : W7.ownsRow w.heap.size 72 4 (.slice (some ⟨g', 0, none⟩) (l.length + 1) cap) (l.length + 1) (tcells l ++ e.cells))
    (hgr : (W4.alloc o).grownBy W7 v.ownBlock) : TR w W7 (.slice (some ⟨g', 0, none⟩) (l.length + 1) cap) (l ++ [e]) := by
  refine ⟨?_, below_grown hgr (h.below.alloc h.below.size o) (fun k hk => (own_lo h.row k hk).1) (by have := h.below.size; simp; omega) (Nat.le_refl _)⟩
  rw [List.length_append, tcells_app]
  simpa [tcells] using hrow

theorem tb_zero (W : World) : TB (W.alloc (.cells #[.int .i64 0, .string ⟨#[]⟩, .int .i64 0, .int .i64 0] 72)) W.heap.size Tk.zero := tb_new W Tk.zero _

/-- A token that was put into a new block. -/
theorem tb_put (W : World) (e : Tk) : TB ((W.alloc (.cells #[.int .i64 0, .string ⟨#[]⟩, .int .i64 0, .int .i64 0] 72)).setCells W.heap.size 0 e.cells.toArray.toList) W.heap.size e ∧
    Below W.heap.size W ((W.alloc (.cells #[.int .i64 0, .string ⟨#[]⟩, .int .i64 0, .int .i64 0] 72)).setCells W.heap.size 0 e.cells.toArray.toList) :=
  ⟨(tb_zero W).set e, below_setCells (Below.refl _ _) _ (Nat.le_refl _) _ _ _ ((Below.refl _ _).alloc (Nat.le_refl _) _)⟩

theorem oneL_bad : ∀ (l : List UInt8) e, oneL l = .bad e → e = 9 ∨ e = 10
  | [], e, h => by cases h; exact .inl rfl
  | c :: r, e, h => by
    rw [oneL] at h
    split at h
    · unfold wordOf at h
      split at h
      · cases h
      · split at h
        · cases h; exact .inr rfl
        · cases h
    · split at h
      · unfold intOf' at h
        split at h
        · cases h; exact .inr rfl
        · cases h
      · split at h
        · unfold textOf at h
          split at h
          · cases h; exact .inr rfl
          · cases h
        · unfold markOne at h
          split at h
          · cases h; exact .inl rfl
          · cases h

/-- What Scan answers, and the row. -/
structure ScanOk (w w' : World) (x : Ending) (l : List UInt8) : Prop where
  yes : ∀ ts, l.length ≤ 8192 → scanL 0 l = .toks ts → ∃ v, x = .returned (.tuple #[v, .int .i64 0, .int .i64 0]) ∧ TR w w' v ts
  bad : ∀ e a, l.length ≤ 8192 → scanL 0 l = .bad e a → x = .returned (.tuple #[.slice none 0 0, .int .i64 (e : Int), .int .i64 (a : Int)])
  big : ¬l.length ≤ 8192 → x = .returned (.tuple #[.slice none 0 0, .int .i64 3, .int .i64 0])
  below : Below w.heap.size w w'

theorem scanAt_bad {p : Nat} {c : UInt8} {r : List UInt8} {e : Nat} (h : oneL (c :: r) = .bad e) : scanAt p (c :: r) = .bad e p := by unfold scanAt; dsimp only; rw [h]
theorem scanAt_tok {p : Nat} {c : UInt8} {r : List UInt8} {k : Nat} {t : List UInt8} {n len : Nat} (h : oneL (c :: r) = .tok k t n len) : scanAt p (c :: r) = (scanL (p + len) ((c :: r).drop len)).cons ⟨k, t, n, (p : Nat)⟩ := by unfold scanAt; dsimp only; rw [h]

theorem results_tmp3' {P : Program} {fn : Func} {t u v : Tmp} (h : fn.results = #[.tmp t, .tmp u, .tmp v]) (tmps : Array Value) (w : World) : (results fn tmps).run P w = .ok (.tuple #[tmps.getD t undef, tmps.getD u undef, tmps.getD v undef]) w := by
  simp [results, h, go_sem]

set_option maxHeartbeats 4000000 in
set_option maxRecDepth 100000 in
theorem scan_small (s : ByteArray) (w : World) (hs : s.size ≤ 8192) (HE : HasE w) :
    Calls Tryz.prog 28 #[.string s] w fun x w' => ScanOk w w' x s.data.toList := by
  have hsl : s.data.toList.length = s.size := by simp
  have HSL := Lib.hid hsl
  have HHE := Lib.hid HE
  have SK : Hid (∀ (a : Nat) W, a ≤ s.size → Calls Tryz.prog 52 #[.string s, .int .i64 (a : Int)] W fun e w' => e = .returned (.int .i64 ((a + skipN false (from' s a) : Nat) : Int)) ∧ Below W.heap.size W w') := Lib.hid (fun a W ha => skip_any s a W ha (by omega))
  have H0 : Hid (∀ W, Below w.heap.size w W → TR w W (.slice none 0 0) []) := Lib.hid (fun W hb => (TR.first w).later hb)
  have hk0 := skipN_le false (from' s 0)
  rw [from_length] at hk0
  have HS0 : Hid (scanL 0 s.data.toList = (scanAt (0 + skipN false (from' s 0)) (from' s (0 + skipN false (from' s 0)))).pre []) := Lib.hid (by
    rw [pre_nil, scanL_at]; simp [from'])
  have C0 := Lib.hid (fun W => SK.out 0 W (Nat.zero_le _))
  obtain ⟨a0, ha0⟩ : ∃ a0, a0 = 0 + skipN false (from' s 0) := ⟨_, rfl⟩
  rw [← ha0] at HS0 C0
  have hle0 : a0 ≤ s.size := by omega
  obtain ⟨i0, hi0, hy0, hy1, hy2⟩ := info_parts t_info3
  clear hsl HE ha0 hk0
  go_enter Tryz.func28, Tryz.ntmps28
  go_wp2_with (go_at_call 52; refine (C0.out _).mono ?_; rintro e W1 ⟨rfl, hb1⟩; have HT1 := Lib.hid (H0.out W1 hb1); clear hb1)
  go_loopw [5, 6] (fun vl vat wr => ∃ (ts : List Tk) (a : Nat), a ≤ s.size ∧ ts.length ≤ a ∧ vat = .int .i64 (a : Int) ∧ Hid (TR w wr vl ts) ∧ Hid (scanL 0 s.data.toList = (scanAt a (from' s a)).pre ts)) (fun _ vat _ => s.size - (intOf vat).toNat)
  case atStart => exact ⟨[], a0, hle0, Nat.zero_le _, rfl, HT1, HS0⟩
  case round =>
    clear HT1 HS0 C0 hle0
    obtain ⟨ts, a, ha, hts, rfl, hT, hS⟩ := hrel
    by_cases hlt : a < s.size
    · obtain ⟨c, r, hl⟩ : ∃ c r, from' s a = c :: r := by
        cases h : from' s a with
        | nil => have := from_length s a; rw [h] at this; simp at this; omega
        | cons c r => exact ⟨c, r, rfl⟩
      have hS' := hS.out
      rw [hl] at hS'
      have NX := Lib.hid (next_any s a c r wr hl (by omega) (HHE.out.later hT.out.below))
      cases ho : oneL (c :: r) with
      | bad e =>
        rw [ho] at NX
        rw [scanAt_bad ho] at hS'
        have HS := Lib.hid hS'
        have he := oneL_bad _ _ ho
        have hz : ((e : Int) != 0) = true := by rw [bne_iff_ne]; omega
        clear ho hS hS' hl he
        go_wp2_with fail
        refine NX.out.mono ?_
        rintro x W2 ⟨rfl, hb2⟩
        have HT2 := Lib.hid (hT.out.later hb2)
        have HZ := Lib.hid (tb_zero W2)
        have HP := Lib.hid (tb_put W2 Tk.zero)
        clear hb2 hT NX
        unfold oneV
        go_wp2_with (refine wpList_store_mid rfl 72 (.tmp 7) (.tmp 23) rfl W2.heap.size 0 Tk.zero.cells.toArray rfl rfl HZ.out.room (t_infoA _) (t_all _) ?_; generalize World.setCells _ _ _ _ = W3 at HP ⊢; have HT3 := Lib.hid (HT2.out.later HP.out.2); have HP3 := Lib.hid HP.out; clear HP)
        refine bodyPost_ret (results_tmp3' rfl _ _) rfl ?_
        refine ⟨fun ts' _ h => ?_, fun e' a' _ h => ?_, fun h => absurd (by rw [HSL.out]; exact hs) h, HT3.out.below⟩
        · rw [HS.out] at h; cases h
        · rw [HS.out] at h; cases h; rfl
      | tok k t n len =>
        have hlen := oneL_len _ _ _ _ _ ho
        have hfl := from_length s a
        rw [hl] at hfl
        have hfd := from_drop s a len
        rw [hl] at hfd
        have hk1 := skipN_le false (from' s (a + len))
        rw [from_length] at hk1
        rw [scanAt_tok ho, pre_cons, hfd, scanL_at (a + len), from_drop] at hS'
        rw [ho, oneV] at NX
        obtain ⟨b, hb⟩ : ∃ b, b = a + len + skipN false (from' s (a + len)) := ⟨_, rfl⟩
        have C1 := Lib.hid (fun W => SK.out (a + len) W (by omega))
        rw [← hb] at hS' C1
        rw [Int.natCast_add a len] at C1
        have HS := Lib.hid hS'
        have hbl : b ≤ s.size ∧ a < b := by omega
        obtain ⟨hbl, hab⟩ := hbl
        clear hfd hk1 hfl hlen hS hS' ho hb hl
        generalize hE : Tk.mk k t n a = E at *
        clear hE
        have HONE := Lib.hid (t_one E)
        have HX : Hid (tcells (ts ++ [E]) = tcells ts ++ E.cells) := Lib.hid (by rw [tcells_app]; simp [tcells])
        have hbs : ∀ W, (Instr.buildSlice 31 1 #[(0, .agg E.cells.toArray)]).run Tryz.prog W = .ok (.slice (some ⟨W.heap.size, 0, none⟩) 1 1) (W.alloc (.cells E.cells.toArray 72)) :=
          fun W => run_buildSlice_one 31 72 _ 40 4 E.cells W Tryz.underlying31 t_info3 rfl rfl (by decide) (by decide)
        have HNEW : Hid (∀ (W : World) (j : Nat) (u : Value), E.cells[j]? = some u → (W.alloc (.cells E.cells.toArray 72)).cell? ((⟨W.heap.size, 0, none⟩ : Addr).add j) = some u) := Lib.hid (fun W j u hu => news_at W E.cells.toArray _ j u (by simpa using hu))
        generalize hm : ts.length = m at *
        have HM := Lib.hid hm
        clear hm
        have HI := Lib.hid (t_info E)
        have hl4 : E.cells.length = 4 := rfl
        go_wp2_with fail
        refine NX.out.mono ?_
        rintro e W2 ⟨rfl, hb2⟩
        have HT2 := Lib.hid (hT.out.later hb2)
        have HZ := Lib.hid (tb_zero W2)
        have HP := Lib.hid (tb_put W2 E)
        clear hb2 hT NX
        go_wp2_with (first
          | (refine wpList_store_mid rfl 72 (.tmp 7) (.tmp 23) rfl W2.heap.size 0 E.cells.toArray rfl rfl HZ.out.room (t_infoA E) (t_all E) ?_; generalize World.setCells _ _ _ _ = W3 at HP ⊢; have HT3 := Lib.hid (HT2.out.later HP.out.2); have HP3 := Lib.hid HP.out; clear HP)
          | (refine wpList_load_mid rfl 72 (.tmp 7) rfl W2.heap.size 0 rfl E.cells _ HP3.out.1.cells Tryz.underlying72 rfl HI.out ?_)
          | (refine wpList_append_lies _ rfl (.tmp 30) (.tmp 32) 31 rfl w.heap.size 72 i0 _ 4 40 Tryz.underlying31 hi0 hy0 hy1 hy2 rfl (by decide) _ m (tcells ts) rfl (by have := HT3.out.row.alloc (.cells E.cells.toArray 72); rw [HM.out] at this; exact this) ⟨W3.heap.size, 0, none⟩ 1 1 E.cells rfl rfl (HNEW.out W3) HONE.out (by decide) (by unfold maxLen; omega) (by omega) (by have := HT3.out.below.size; simp; omega) (W3.heap.size + 1) (by simp) ?_; intro g' cap W7 hrow hgr hgl hlt7; have HT7 := Lib.hid (HT3.out.push (e := E) (g' := g') (cap := cap) (by rw [HM.out]; exact hrow) hgr); rw [HM.out] at HT7; clear HT3 hrow hgr hgl hlt7)
          | (go_at_call 52; refine (C1.out _).mono ?_; rintro e W8 ⟨rfl, hb8⟩; have HT8 := Lib.hid (HT7.out.later hb8); clear hb8 HT7))
        go_roundw
        case rel => exact ⟨ts ++ [E], b, hbl, by rw [List.length_append, HM.out, List.length_singleton]; omega, rfl, HT8, HS⟩
        case measure => simp [intOf]; omega
    · obtain rfl : a = s.size := by omega
      have hS' := hS.out
      rw [show from' s s.size = [] from List.eq_nil_of_length_eq_zero (by rw [from_length]; omega)] at hS'
      have HS : Hid (scanL 0 s.data.toList = .toks ts) := Lib.hid (by rw [hS']; show SR.toks (ts ++ []) = _; rw [List.append_nil])
      clear hS hS'
      go_wp2
      refine bodyPost_ret (results_tmp3' rfl _ _) rfl ?_
      refine ⟨fun ts' _ h => ?_, fun e' a' _ h => ?_, fun h => absurd (by rw [HSL.out]; exact hs) h, hT.out.below⟩
      · rw [HS.out] at h; cases h; exact ⟨_, rfl, hT.out⟩
      · rw [HS.out] at h; cases h

set_option maxHeartbeats 400000 in
theorem scan_big (s : ByteArray) (w : World) (hs : ¬s.size ≤ 8192) : Calls Tryz.prog 28 #[.string s] w fun x w' => ScanOk w w' x s.data.toList := by
  have hsl : s.data.toList.length = s.size := by simp
  have hn : ¬s.data.toList.length ≤ 8192 := by omega
  have h1 : (s.size : Int) > 8192 := by omega
  have HN := Lib.hid hn
  clear hsl hn hs
  go_enter Tryz.func28, Tryz.ntmps28
  go_wp2
  refine bodyPost_ret (results_tmp3' rfl _ _) rfl ?_
  exact ⟨fun _ h _ => absurd h HN.out, fun _ _ h _ => absurd h HN.out, fun _ => rfl, Below.refl _ _⟩

theorem scan_any (s : ByteArray) (w : World) (HE : HasE w) : Calls Tryz.prog 28 #[.string s] w fun x w' => ScanOk w w' x s.data.toList := by
  by_cases h : s.size ≤ 8192
  · exact scan_small s w h HE
  · exact scan_big s w h

end Go.Proofs.YtemlceicmpcboaaGreatDoor.Lx
