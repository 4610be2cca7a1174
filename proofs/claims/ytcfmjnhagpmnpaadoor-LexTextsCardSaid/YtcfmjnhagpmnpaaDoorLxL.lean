/- Plain facts on the scanner: a text in quotes, a word by itself. No condition but those that each states. -/
import Derived.Test.YtcfmjnhagpmnpaaDoorLxK
namespace Go.Proofs.YtcfmjnhagpmnpaaDoor.Lx

theorem scanL_nil (p : Nat) : scanL p [] = .toks [] := rfl
theorem scanL_step {p : Nat} {l : List UInt8} {k : Nat} {t : List UInt8} {n len : Nat} (h0 : skipN false l = 0) (h : oneL l = .tok k t n len) : scanL p l = (scanL (p + len) (l.drop len)).cons ⟨k, t, n, (p : Nat)⟩ := by
  rw [scanL_at, h0, Nat.add_zero, List.drop_zero]
  cases l with
  | nil => cases h
  | cons c r => exact scanAt_tok h

theorem byte_eq {c : UInt8} {n : Nat} (h : c.toNat = n) (hn : n < 256) : c = n.toUInt8 := by
  apply UInt8.toNat_inj.1
  rw [h]
  show n = n % 2 ^ 8
  omega

theorem textL_quote : ∀ (s rest : List UInt8), textL (s.flatMap escL ++ 34 :: rest) = some (s, (s.flatMap escL).length + 1)
  | [], rest => textL_end rest rfl
  | c :: s, rest => by
    have ih := textL_quote s rest
    rw [List.flatMap_cons, List.append_assoc]
    by_cases h1 : c.toNat = 10
    · have e : escL c = [92, 110] := by unfold escL; rw [if_pos h1]
      rw [e]
      show textL (92 :: 110 :: (s.flatMap escL ++ 34 :: rest)) = _
      rw [textL_esc _ rfl, textE, show unescN 110 = some 10 from rfl, ih, byte_eq h1 (by decide)]
      simp [shift]
    · by_cases h2 : c.toNat = 34 ∨ c.toNat = 92
      · have e : escL c = [92, c] := by unfold escL; rw [if_neg h1, if_pos h2]
        have u : unescN c = some c := by unfold unescN; rw [if_neg (by omega), if_pos h2]
        rw [e]
        show textL (92 :: c :: (s.flatMap escL ++ 34 :: rest)) = _
        rw [textL_esc _ rfl, textE, u, ih]
        simp [shift]
      · have e : escL c = [c] := by unfold escL; rw [if_neg h1, if_neg h2]
        rw [e]
        show textL (c :: (s.flatMap escL ++ 34 :: rest)) = _
        rw [textL_other _ (by omega) h1 (by omega), ih]
        simp [shift]

theorem quoteL_length (s : List UInt8) : (quoteL s).length = (s.flatMap escL).length + 2 := by unfold quoteL; simp
theorem oneL_quote (s rest : List UInt8) : oneL (quoteL s ++ rest) = .tok 3 s 0 (quoteL s).length := by
  unfold quoteL
  show oneL (34 :: ((s.flatMap escL ++ [34]) ++ rest)) = _
  rw [oneL, if_neg (by decide), if_neg (by decide), if_pos (by decide), List.append_assoc]
  unfold textOf
  rw [show [34] ++ rest = 34 :: rest from rfl, textL_quote]
  simp

theorem skip_letter {c : UInt8} (h : rL (c.toNat : Int) = true ∨ rD (c.toNat : Int) = true ∨ c.toNat = 34) (r : List UInt8) : skipN false (c :: r) = 0 := by
  have h2 : (97 ≤ c.toNat ∧ c.toNat ≤ 122) ∨ (48 ≤ c.toNat ∧ c.toNat ≤ 57) ∨ c.toNat = 34 := by
    rcases h with h | h | h
    · unfold rL at h; simp at h; omega
    · unfold rD at h; simp at h; omega
    · omega
  rw [skipN, if_neg (by omega), if_neg]
  unfold isB rB
  simp
  omega

theorem quotes_scan (s : List UInt8) : scanL 0 (97 :: (quoteL s ++ [53])) = .toks [⟨1, [97], 0, 0⟩, ⟨3, s, 0, 1⟩, ⟨2, [53], 5, (1 + (quoteL s).length : Nat)⟩] := by
  have h1 : oneL (97 :: (quoteL s ++ [53])) = .tok 1 [97] 0 1 := by
    unfold quoteL
    show oneL (97 :: 34 :: ((s.flatMap escL ++ [34]) ++ [53])) = _
    have hs : spanN isW (97 :: 34 :: ((s.flatMap escL ++ [34]) ++ [53])) = 1 := by
      rw [spanN, if_pos (by decide), spanN, if_neg (by decide)]
    rw [oneL, if_pos (by decide), hs]
    rfl
  rw [scanL_step (skip_letter (.inl (by decide)) _) h1]
  show SR.cons _ (scanL (0 + 1) (quoteL s ++ [53])) = _
  have h2 : skipN false (quoteL s ++ [53]) = 0 := skip_letter (c := 34) (.inr (.inr rfl)) _
  rw [scanL_step h2 (oneL_quote s [53]), List.drop_left]
  have h3 : oneL [53] = .tok 2 [53] 5 1 := by
    rw [oneL, if_neg (by decide), if_pos (by decide), show spanN isD [53] = 1 from by decide +kernel]
    unfold intOf'
    rw [show numL (List.take 1 ([53] : List UInt8)) = some 5 from by decide +kernel]
    rfl
  rw [scanL_step (skip_letter (.inr (.inl (by decide))) _) h3]
  rw [show List.drop 1 [(53 : UInt8)] = [] from rfl, scanL_nil]
  simp [SR.cons]

/-! a word by itself -/
theorem keys_all : (keyList.all fun l => !isName l && decide (scanL 0 l = .toks [⟨5, l, 0, 0⟩])) = true := by decide +kernel
theorem key_scan {l : List UInt8} (h : isKey l = true) : isName l = false ∧ scanL 0 l = .toks [⟨5, l, 0, 0⟩] := by
  have := List.all_eq_true.1 keys_all l ((isKey_iff l).1 h)
  rw [Bool.and_eq_true] at this
  exact ⟨by simpa using this.1, of_decide_eq_true this.2⟩

theorem isName_parts {l : List UInt8} (h : isName l = true) : ∃ c r, l = c :: r ∧ l.length ≤ 16 ∧ isL c = true ∧ spanN isW l = l.length ∧ isKey l = false := by
  cases l with
  | nil => cases h
  | cons c r =>
    rw [isName_cons, Bool.and_eq_true, Bool.and_eq_true, Bool.and_eq_true] at h
    exact ⟨c, r, rfl, of_decide_eq_true h.1.1.1, h.1.1.2, of_decide_eq_true h.1.2, by simpa using h.2⟩

theorem name_scan {l : List UInt8} (h : isName l = true) : scanL 0 l = .toks [⟨1, l, 0, 0⟩] := by
  obtain ⟨c, r, rfl, h1, h2, h3, h4⟩ := isName_parts h
  have ho : oneL (c :: r) = .tok 1 (c :: r) 0 (c :: r).length := by
    rw [oneL, if_pos h2, h3]
    unfold wordOf
    rw [List.take_length, if_neg (by rw [h4]; exact Bool.false_ne_true), if_neg (by omega)]
  rw [scanL_step (skip_letter (.inl h2) _) ho, List.drop_length, scanL_nil]
  rfl

theorem spanN_take (p : UInt8 → Bool) (l : List UInt8) : spanN p (l.take (spanN p l)) = (l.take (spanN p l)).length := (spanN_full p _).2 (by rw [List.all_eq_true]; exact spanN_all p l)

/-- What a word's token is. -/
theorem word_parts {l : List UInt8} {k : Nat} {t : List UInt8} {n len : Nat} (h : oneL l = .tok k t n len) (hk : k = 1 ∨ k = 5) : (k = 5 ∧ isKey t = true) ∨ (k = 1 ∧ isName t = true) := by
  cases l with
  | nil => cases h
  | cons c r =>
    rw [oneL] at h
    split at h
    · rename_i hc
      have ht := spanN_take isW (c :: r)
      have hle := spanN_le isW (c :: r)
      have h1 := spanN_first (r := r) (isL_W hc)
      unfold wordOf at h
      split at h
      · rename_i hkey; cases h; exact .inl ⟨rfl, hkey⟩
      · rename_i hkey
        split at h
        · cases h
        · rename_i h16
          cases h
          refine .inr ⟨rfl, ?_⟩
          rw [h1, List.take_succ_cons] at ht hkey ⊢
          rw [isName_cons, ht]
          have : (c :: r.take (spanN isW r)).length ≤ 16 := by rw [List.length_cons, List.length_take]; omega
          simp [hc, hkey] at this ⊢
          omega
    · split at h
      · unfold intOf' at h
        split at h
        · cases h
        · cases h; omega
      · split at h
        · unfold textOf at h
          split at h
          · cases h
          · cases h; omega
        · unfold markOne at h
          split at h
          · cases h
          · cases h; omega

theorem one_scan {l : List UInt8} {t : Tk} (h : scanL 0 l = .toks [t]) (ht : t.text = l) (hk : isKey l = false) (hn : isName l = false) : t.kind ≠ 1 ∧ t.kind ≠ 5 := by
  rw [scanL_at] at h
  cases hd : l.drop (skipN false l) with
  | nil => rw [hd] at h; cases h
  | cons c r =>
    rw [hd] at h
    cases ho : oneL (c :: r) with
    | bad e => rw [scanAt_bad ho] at h; cases h
    | tok k t' n len =>
      rw [scanAt_tok ho] at h
      cases hr : scanL (0 + skipN false l + len) ((c :: r).drop len) with
      | bad e a => rw [hr] at h; cases h
      | toks q =>
        rw [hr] at h
        have e := SR.toks.inj h
        obtain ⟨e1, -⟩ := List.cons.inj e
        rw [← e1] at ht ⊢
        have ht' : t' = l := ht
        have key : ¬(k = 1 ∨ k = 5) := fun hk' => by
          rcases word_parts ho hk' with ⟨_, h1⟩ | ⟨_, h1⟩
          · rw [ht', hk] at h1; cases h1
          · rw [ht', hn] at h1; cases h1
        constructor
        · intro e; exact key (.inl (by have : (k : Int) = 1 := e; omega))
        · intro e; exact key (.inr (by have : (k : Int) = 5 := e; omega))

end Go.Proofs.YtcfmjnhagpmnpaaDoor.Lx
