/- The walk of chrysalislaw08; Plain facts on the scanner; Plain facts on the scanner; Plain facts on the scanner; The grammar as a machine over a row of tokens. No condition but those that each states. -/
import Derived.Test.YtmljjpdodcpohaaGreatDoorMgAL
import Derived.Test.YtmljjpdodcpohaaGreatDoorMgAF
import Derived.Test.YtmljjpdodcpohaaGreatDoorMgAD
import Derived.Test.YtmljjpdodcpohaaGreatDoorMgAA
namespace Go.Proofs.YtmljjpdodcpohaaGreatDoor.Lx
theorem byte_eq {c : UInt8} {n : Nat} (h : c.toNat = n) (hn : n < 256) : c = n.toUInt8 := by
  apply UInt8.toNat_inj.1
  rw [h]; show n = n % 2 ^ 8
  omega
theorem textL_quote : ∀ (s rest : List UInt8), textL (s.flatMap escL ++ 34 :: rest) = some (s, (s.flatMap escL).length + 1)
  | [], rest => textL_end rest rfl
  | c :: s, rest => by
    have ih := textL_quote s rest; rw [List.flatMap_cons, List.append_assoc]; by_cases h1 : c.toNat = 10
    · have e : escL c = [92, 110] := by unfold escL; rw [if_pos h1]
      rw [e]; show textL (92 :: 110 :: (s.flatMap escL ++ 34 :: rest)) = _
      rw [textL_esc _ rfl, textE, show unescN 110 = some 10 from rfl, ih, byte_eq h1 (by decide)]; simp [shift]
    · by_cases h2 : c.toNat = 34 ∨ c.toNat = 92
      · have e : escL c = [92, c] := by unfold escL; rw [if_neg h1, if_pos h2]
        have u : unescN c = some c := by unfold unescN; rw [if_neg (by omega), if_pos h2]
        rw [e]; show textL (92 :: c :: (s.flatMap escL ++ 34 :: rest)) = _
        rw [textL_esc _ rfl, textE, u, ih]; simp [shift]
      · have e : escL c = [c] := by unfold escL; rw [if_neg h1, if_neg h2]
        rw [e]; show textL (c :: (s.flatMap escL ++ 34 :: rest)) = _
        rw [textL_other _ (by omega) h1 (by omega), ih]; simp [shift]
theorem quoteL_length (s : List UInt8) : (quoteL s).length = (s.flatMap escL).length + 2 := by unfold quoteL; simp
theorem oneL_quote (s rest : List UInt8) : oneL (quoteL s ++ rest) = .tok 3 s 0 (quoteL s).length := by
  unfold quoteL; show oneL (34 :: ((s.flatMap escL ++ [34]) ++ rest)) = _
  rw [oneL, if_neg (by decide), if_neg (by decide), if_pos (by decide), List.append_assoc]; unfold textOf; rw [show [34] ++ rest = 34 :: rest from rfl, textL_quote]; simp
theorem skip_letter {c : UInt8} (h : rL (c.toNat : Int) = true ∨ rD (c.toNat : Int) = true ∨ c.toNat = 34) (r : List UInt8) : skipN false (c :: r) = 0 := by
  have h2 : (97 ≤ c.toNat ∧ c.toNat ≤ 122) ∨ (48 ≤ c.toNat ∧ c.toNat ≤ 57) ∨ c.toNat = 34 := by
    rcases h with h | h | h
    · unfold rL at h; simp at h; omega
    · unfold rD at h; simp at h; omega
    · omega
  rw [skipN, if_neg (by omega), if_neg]; unfold isB rB; simp
  omega
theorem isName_parts {l : List UInt8} (h : isName l = true) : ∃ c r, l = c :: r ∧ l.length ≤ 16 ∧ isL c = true ∧ spanN isW l = l.length ∧ isKey l = false := by
  cases l with
  | nil => cases h
  | cons c r =>
    rw [isName_cons, Bool.and_eq_true, Bool.and_eq_true, Bool.and_eq_true] at h; exact ⟨c, r, rfl, of_decide_eq_true h.1.1.1, h.1.1.2, of_decide_eq_true h.1.2, by simpa using h.2⟩
theorem spanN_take (p : UInt8 → Bool) (l : List UInt8) : spanN p (l.take (spanN p l)) = (l.take (spanN p l)).length := (spanN_full p _).2 (by rw [List.all_eq_true]; exact spanN_all p l)
end Go.Proofs.YtmljjpdodcpohaaGreatDoor.Lx

namespace Go.Proofs.YtmljjpdodcpohaaGreatDoor.Lx
inductive Scans : Nat → List UInt8 → List Tk → Prop
  | done (p : Nat) (l : List UInt8) : l.drop (skipN false l) = [] → Scans p l []
  | more (p : Nat) (l : List UInt8) (c : UInt8) (r : List UInt8) (k : Nat) (t : List UInt8) (n len : Nat) (ts : List Tk) : l.drop (skipN false l) = c :: r → oneL (c :: r) = .tok k t n len →
      Scans (p + skipN false l + len) ((c :: r).drop len) ts → Scans p l (⟨k, t, n, (p + skipN false l : Nat)⟩ :: ts)
theorem scans_of : ∀ (m p : Nat) (l : List UInt8) (ts : List Tk), l.length < m → scanL p l = .toks ts → Scans p l ts
  | 0, _, _, _, h, _ => absurd h (Nat.not_lt_zero _)
  | m + 1, p, l, ts, hm, h => by
    rw [scanL_at] at h; cases hd : l.drop (skipN false l) with
    | nil =>
      rw [hd] at h; cases h
      exact .done p l hd
    | cons c r =>
      rw [hd] at h; cases ho : oneL (c :: r) with
      | bad e => rw [scanAt_bad ho] at h; cases h
      | tok k t n len =>
        rw [scanAt_tok ho] at h; have hlen := oneL_len _ _ _ _ _ ho; have hl : (c :: r).length ≤ l.length := by rw [← hd, List.length_drop]; omega
        cases hr : scanL (p + skipN false l + len) ((c :: r).drop len) with
        | bad e a => rw [hr] at h; cases h
        | toks q =>
          rw [hr] at h; cases h
          exact .more p l c r k t n len q hd ho (scans_of m _ _ _ (by rw [List.length_drop]; omega) hr)
theorem scans_iff {p : Nat} {l : List UInt8} {ts : List Tk} : scanL p l = .toks ts ↔ Scans p l ts := by
  constructor
  · exact scans_of (l.length + 1) p l ts (Nat.lt_succ_self _)
  · intro h
    induction h with
    | done p l hd => rw [scanL_at, hd]; rfl
    | more p l c r k t n len ts hd ho _ ih => rw [scanL_at, hd, scanAt_tok ho, ih]; rfl
theorem scan_bad_at : ∀ (m p : Nat) (l : List UInt8) (e a : Nat), l.length < m → scanL p l = .bad e a → (e = 9 ∨ e = 10) ∧ p ≤ a ∧ a < p + l.length
  | 0, _, _, _, _, h, _ => absurd h (Nat.not_lt_zero _)
  | m + 1, p, l, e, a, hm, h => by
    rw [scanL_at] at h; have hs := skipN_le false l; cases hd : l.drop (skipN false l) with
    | nil => rw [hd] at h; cases h
    | cons c r =>
      rw [hd] at h; have hl := congrArg List.length hd; rw [List.length_drop, List.length_cons] at hl; cases ho : oneL (c :: r) with
      | bad e' =>
        rw [scanAt_bad ho] at h; cases h
        exact ⟨oneL_bad _ _ ho, by omega, by omega⟩
      | tok k t n len =>
        rw [scanAt_tok ho] at h; have hlen := oneL_len _ _ _ _ _ ho; rw [List.length_cons] at hlen; cases hr : scanL (p + skipN false l + len) ((c :: r).drop len) with
        | toks q => rw [hr] at h; cases h
        | bad e' a' =>
          rw [hr] at h; cases h
          have := scan_bad_at m _ _ _ _ (by rw [List.length_drop, List.length_cons]; omega) hr
          rw [List.length_drop, List.length_cons] at this; exact ⟨this.1, by omega, by omega⟩
theorem skip_stop {c : UInt8} {r : List UInt8} (h : skipN false (c :: r) = 0) (r' : List UInt8) : skipN false (c :: r') = 0 := by
  rw [skipN] at h ⊢; split at h
  · omega
  · rename_i h1
    split at h
    · omega
    · rename_i h2
      rw [if_neg h1, if_neg h2]
theorem spanN_app {p : UInt8 → Bool} {d : UInt8} (hd : p d = false) : ∀ l rest : List UInt8, spanN p (l ++ d :: rest) = spanN p l
  | [], rest => by
    show spanN p (d :: rest) = 0
    rw [spanN, if_neg (by rw [hd]; exact Bool.false_ne_true)]
  | c :: r, rest => by
    rw [List.cons_append, spanN, spanN, spanN_app hd r rest]
theorem textL_app : ∀ (l rest : List UInt8) q, textL l = some q → textL (l ++ rest) = some q
  | [], _, _, h => by cases h
  | [c], rest, q, h => by
    rw [List.cons_append, textL_cons]; rw [textL_cons] at h; split
    · rename_i h1; rw [if_pos h1] at h; exact h
    · rename_i h1
      rw [if_neg h1] at h; split
      · rename_i h2; rw [if_pos h2] at h; cases h
      · rename_i h2
        rw [if_neg h2] at h; split
        · rename_i h3; rw [if_pos h3] at h; cases h
        · rename_i h3; rw [if_neg h3] at h; cases h
  | c :: d :: r, rest, q, h => by
    rw [List.cons_append, textL_cons]; rw [textL_cons] at h; split
    · rename_i h1; rw [if_pos h1] at h; exact h
    · rename_i h1
      rw [if_neg h1] at h; split
      · rename_i h2; rw [if_pos h2] at h; cases h
      · rename_i h2
        rw [if_neg h2] at h; split
        · rename_i h3
          rw [if_pos h3] at h; rw [List.cons_append]; simp only [textE] at h ⊢; cases hu : unescN d with
          | none => rw [hu] at h; cases h
          | some e =>
            rw [hu] at h; dsimp only at h ⊢
            cases ht : textL r with
            | none => rw [ht] at h; cases h
            | some q' => rw [ht] at h; rw [textL_app r rest q' ht]; exact h
        · rename_i h3
          rw [if_neg h3] at h; cases ht : textL (d :: r) with
          | none => rw [ht] at h; cases h
          | some q' => rw [ht] at h; rw [textL_app (d :: r) rest q' ht]; exact h
theorem markOf_app (c d : UInt8) (r rest : List UInt8) : ∀ ms : List (List UInt8), (∀ m ∈ ms, ∃ x, m = [x] ∨ ∃ y, m = [x, y] ∧ y ≠ d) → markOf ((c :: r) ++ d :: rest) ms = markOf (c :: r) ms
  | [], _ => rfl
  | m :: ms, h => by
    rw [markOf_cons, markOf_cons, markOf_app c d r rest ms (fun m hm => h m (by simp [hm]))]; obtain ⟨x, rfl | ⟨y, rfl, hy⟩⟩ := h m (by simp)
    · rfl
    · cases r with
      | nil =>
        have : ([x, y] : List UInt8).isPrefixOf ([c] ++ d :: rest) = false := by
          simp [List.isPrefixOf, hy]
        rw [this]; have : ([x, y] : List UInt8).isPrefixOf [c] = false := by simp [List.isPrefixOf]
        rw [this]
      | cons c2 r2 => simp [List.isPrefixOf]
theorem markList_form (d : UInt8) (h1 : d ≠ 61) (h2 : d ≠ 46) : ∀ m ∈ markList, ∃ x, m = [x] ∨ ∃ y, m = [x, y] ∧ y ≠ d := by
  intro m hm; simp only [markList, List.mem_cons, List.not_mem_nil, or_false] at hm; rcases hm with rfl | rfl | rfl | rfl | rfl | rfl | rfl | rfl | rfl | rfl | rfl | rfl | rfl | rfl | rfl | rfl | rfl | rfl | rfl | rfl
  all_goals first
    | exact ⟨_, .inl rfl⟩
    | exact ⟨_, .inr ⟨_, rfl, fun e => h1 e.symm⟩⟩
    | exact ⟨_, .inr ⟨_, rfl, fun e => h2 e.symm⟩⟩
structure Sep (d : UInt8) : Prop where
  w : isW d = false
  n : isD d = false
  e : d ≠ 61
  o : d ≠ 46
theorem sep32 : Sep 32 := ⟨by decide, by decide, by decide, by decide⟩
theorem one_app {l : List UInt8} {k : Nat} {t : List UInt8} {n len : Nat} (h : oneL l = .tok k t n len) {d : UInt8} (hd : Sep d) (rest : List UInt8) : oneL (l ++ d :: rest) = .tok k t n len := by
  cases l with
  | nil => cases h
  | cons c r =>
    rw [List.cons_append, oneL]; rw [oneL] at h; split
    · rename_i h1
      rw [if_pos h1] at h; have := spanN_app hd.w (c :: r) rest; rw [List.cons_append] at this; rw [this]
      have ht : (c :: (r ++ d :: rest)).take (spanN isW (c :: r)) = (c :: r).take (spanN isW (c :: r)) := by
        rw [← List.cons_append, List.take_append_of_le_length (spanN_le _ _)]
      unfold wordOf at h ⊢; rw [ht]; exact h
    · rename_i h1
      rw [if_neg h1] at h; split
      · rename_i h2
        rw [if_pos h2] at h; have := spanN_app hd.n (c :: r) rest; rw [List.cons_append] at this; rw [this]
        have ht : (c :: (r ++ d :: rest)).take (spanN isD (c :: r)) = (c :: r).take (spanN isD (c :: r)) := by
          rw [← List.cons_append, List.take_append_of_le_length (spanN_le _ _)]
        unfold intOf' at h ⊢; rw [ht]; exact h
      · rename_i h2
        rw [if_neg h2] at h; split
        · rename_i h3
          rw [if_pos h3] at h; unfold textOf at h ⊢; cases ht : textL r with
          | none => rw [ht] at h; cases h
          | some q => rw [ht] at h; rw [textL_app r _ q ht]; exact h
        · rename_i h3
          rw [if_neg h3] at h; have := markOf_app c d r rest markList (markList_form d hd.e hd.o); rw [List.cons_append] at this; unfold markOne markN at h ⊢; rw [this]
          have ht : (c :: (r ++ d :: rest)).take (markOf (c :: r) markList) = (c :: r).take (markOf (c :: r) markList) := by
            rw [← List.cons_append, List.take_append_of_le_length (markOf_le _ _)]
          rw [ht]; exact h
theorem text_len : ∀ (l : List UInt8) q, textL l = some q → (q.1.flatMap escL).length + 1 ≤ q.2
  | [], _, h => by cases h
  | [c], q, h => by
    rw [textL_cons] at h; split at h
    · cases h; simp
    · split at h
      · cases h
      · split at h
        · cases h
        · cases h
  | c :: d :: r, q, h => by
    rw [textL_cons] at h; split at h
    · cases h; simp
    · rename_i h1
      split at h
      · cases h
      · rename_i h2
        split at h
        · simp only [textE] at h
          cases hu : unescN d with
          | none => rw [hu] at h; cases h
          | some e =>
            rw [hu] at h; dsimp only at h
            cases ht : textL r with
            | none => rw [ht] at h; cases h
            | some q' =>
              rw [ht] at h; cases h
              have h7 := text_len r q' ht; have h8 := esc_len e; show (([] ++ e :: q'.1).flatMap escL).length + 1 ≤ q'.2 + 1 + 1
              rw [List.nil_append, List.flatMap_cons, List.length_append]; omega
        · rename_i h3
          cases ht : textL (d :: r) with
          | none => rw [ht] at h; cases h
          | some q' =>
            rw [ht] at h; cases h
            have h7 := text_len (d :: r) q' ht; show (([c] ++ q'.1).flatMap escL).length + 1 ≤ q'.2 + 1
            rw [List.flatMap_append, List.length_append, List.flatMap_cons, esc_plain h2 h1 h3]; simp only [List.flatMap_nil, List.append_nil, List.length_singleton]; omega
theorem one_text {l : List UInt8} {k : Nat} {t : List UInt8} {n len : Nat} (h : oneL l = .tok k t n len) : (k = 3 ∧ ∃ r, l = 34 :: r ∧ (quoteL t).length ≤ len) ∨ (k ≠ 3 ∧ t = l.take len ∧ n < 2 ^ 63) := by
  cases l with
  | nil => cases h
  | cons c r =>
    rw [oneL] at h; split at h
    · unfold wordOf at h
      split at h
      · cases h; exact .inr ⟨by decide, rfl, by decide⟩
      · split at h
        · cases h
        · cases h; exact .inr ⟨by decide, rfl, by decide⟩
    · split at h
      · unfold intOf' at h
        split at h
        · cases h
        · rename_i v hv
          cases h
          refine .inr ⟨by decide, rfl, ?_⟩; unfold numL at hv; split at hv
          · cases hv
          · split at hv
            · cases hv; assumption
            · cases hv
      · split at h
        · rename_i h34
          unfold textOf at h; split at h
          · cases h
          · rename_i q hq
            cases h
            refine .inl ⟨rfl, r, by rw [byte_eq h34 (by decide)]; rfl, ?_⟩
            have := text_len r q hq; rw [quoteL_length]; omega
        · unfold markOne at h
          split at h
          · cases h
          · cases h; exact .inr ⟨by decide, rfl, by decide⟩
theorem markOf_mem (l : List UInt8) : ∀ ms : List (List UInt8), markOf l ms ≠ 0 → ∃ m ∈ ms, l.take (markOf l ms) = m
  | [], h => absurd rfl h
  | m :: ms, h => by
    rw [markOf_cons] at h ⊢; split
    · rename_i hp
      obtain ⟨r, rfl⟩ := List.isPrefixOf_iff_prefix.1 hp; exact ⟨m, by simp, List.take_left⟩
    · rename_i hp
      rw [if_neg hp] at h; obtain ⟨m', h1, h2⟩ := markOf_mem l ms h; exact ⟨m', by simp [h1], h2⟩
theorem marks_self : (markList.all fun m => markN m == m.length) = true := by decide +kernel
theorem one_self {l : List UInt8} {k : Nat} {t : List UInt8} {n len : Nat} (h : oneL l = .tok k t n len) (hk : k ≠ 3) : oneL (l.take len) = .tok k t n len := by
  have hlen := oneL_len _ _ _ _ _ h; cases l with
  | nil => cases h
  | cons c r =>
    obtain ⟨m, rfl⟩ : ∃ m, len = m + 1 := ⟨len - 1, by omega⟩; rw [List.take_succ_cons, oneL]; rw [oneL] at h; split
    · rename_i h1
      rw [if_pos h1] at h; have hs := spanN_take isW (c :: r); have hle := spanN_le isW (c :: r)
      have e : spanN isW (c :: r) = m + 1 := by
        unfold wordOf at h; split at h
        · exact (One.tok.inj h).2.2.2
        · split at h
          · cases h
          · exact (One.tok.inj h).2.2.2
      rw [e] at hs hle; rw [List.take_succ_cons] at hs; rw [hs]; have hl2 : (c :: r.take m).length = m + 1 := by rw [List.length_cons] at hle ⊢; rw [List.length_take]; omega
      have e3 : (c :: r).take (spanN isW (c :: r)) = c :: r.take m := by rw [e, List.take_succ_cons]
      unfold wordOf at h ⊢; rw [e3, e] at h; rw [List.take_length, hl2]; exact h
    · rename_i h1
      rw [if_neg h1] at h; split
      · rename_i h2
        rw [if_pos h2] at h; have hs := spanN_take isD (c :: r); have hle := spanN_le isD (c :: r)
        have e : spanN isD (c :: r) = m + 1 := by
          unfold intOf' at h; split at h
          · cases h
          · exact (One.tok.inj h).2.2.2
        rw [e] at hs hle; rw [List.take_succ_cons] at hs; rw [hs]; have hl2 : (c :: r.take m).length = m + 1 := by rw [List.length_cons] at hle ⊢; rw [List.length_take]; omega
        have e3 : (c :: r).take (spanN isD (c :: r)) = c :: r.take m := by rw [e, List.take_succ_cons]
        unfold intOf' at h ⊢; rw [e3, e] at h; rw [List.take_length, hl2]; exact h
      · rename_i h2
        rw [if_neg h2] at h; split
        · rename_i h3
          rw [if_pos h3] at h; unfold textOf at h; split at h
          · cases h
          · cases h; exact absurd rfl hk
        · rename_i h3
          rw [if_neg h3] at h; unfold markOne at h; split at h
          · cases h
          · rename_i hz
            obtain ⟨e1, e2, e3, hm⟩ := One.tok.inj h; subst e1 e2 e3; obtain ⟨m', h4, h5⟩ := markOf_mem (c :: r) markList hz
            have e : (c :: r.take m) = m' := by
              rw [← h5]; show _ = (c :: r).take (markN (c :: r))
              rw [hm, List.take_succ_cons]
            have h6 := List.all_eq_true.1 marks_self m' h4; have h7 : markN m' = m'.length := by simpa using h6
            rw [e]; unfold markOne; have hle := markN_le (c :: r); have h8 : m'.length = m + 1 := by rw [← e]; rw [hm, List.length_cons] at hle; rw [List.length_cons, List.length_take]; omega
            rw [h7, h8, if_neg (by omega)]; rw [← h8, List.take_length, h8]; have h9 : (c :: r).take (markN (c :: r)) = m' := h5; rw [h9]
end Go.Proofs.YtmljjpdodcpohaaGreatDoor.Lx

namespace Go.Proofs.YtmljjpdodcpohaaGreatDoor.Lx
def Good (t : Tk) : Prop := ∃ k n : Nat, t.kind = (k : Int) ∧ t.n = (n : Int) ∧ (written t).length ≠ 0 ∧ (∀ rest, skipN false (written t ++ rest) = 0) ∧
  (∀ rest, oneL (written t ++ 32 :: rest) = .tok k t.text n (written t).length) ∧ oneL (written t) = .tok k t.text n (written t).length
theorem good_of {c : UInt8} {r : List UInt8} {k : Nat} {t : List UInt8} {n len : Nat} (h0 : skipN false (c :: r) = 0) (h : oneL (c :: r) = .tok k t n len) (p : Int) : Good ⟨k, t, n, p⟩ ∧ (written ⟨k, t, n, p⟩).length ≤ len := by
  have hlen := oneL_len _ _ _ _ _ h; rcases one_text h with ⟨rfl, r', e, hq⟩ | ⟨hk, e, hn⟩
  · have hw : written ⟨(3 : Nat), t, n, p⟩ = quoteL t := if_pos (show ((3 : Nat) : Int) = 3 from rfl)
    have hn0 : n = 0 := by
      rw [e] at h; rw [oneL, if_neg (by decide), if_neg (by decide), if_pos (by decide)] at h; unfold textOf at h; split at h
      · cases h
      · exact (One.tok.inj h).2.2.1.symm
    subst hn0; refine ⟨⟨3, 0, rfl, rfl, ?_, ?_, ?_, ?_⟩, by rw [hw]; exact hq⟩
    · rw [hw, quoteL_length]; omega
    · intro rest
      rw [hw]; exact skip_letter (c := 34) (.inr (.inr rfl)) _
    · intro rest; rw [hw]; exact oneL_quote t _
    · rw [hw]
      have := oneL_quote t []; rwa [List.append_nil] at this
  · have hw : written ⟨(k : Nat), t, n, p⟩ = t := if_neg (show ¬(k : Int) = 3 by omega)
    have hs := one_self h hk; have ht : t.length = len := by rw [e, List.length_take]; omega
    rw [← e] at hs; obtain ⟨m, hm⟩ : ∃ m, len = m + 1 := ⟨len - 1, by omega⟩; have ht2 : t = c :: r.take m := by rw [e, hm, List.take_succ_cons]
    rw [← ht] at hs; refine ⟨⟨k, n, rfl, rfl, ?_, ?_, ?_, ?_⟩, by rw [hw]; omega⟩
    · rw [hw]; omega
    · intro rest
      rw [hw, ht2]; exact skip_stop h0 _
    · intro rest; rw [hw]; exact one_app hs sep32 rest
    · rw [hw]; exact hs
def key3 (t : Tk) : Int × List UInt8 × Int := (t.kind, t.text, t.n)
def Alike (a b : List Tk) : Prop := a.map key3 = b.map key3
end Go.Proofs.YtmljjpdodcpohaaGreatDoor.Lx

namespace Go.Proofs.YtmljjpdodcpohaaGreatDoor.Pa
open Lx Tr
def nd (k : Int) : Nd := ⟨k, 0, [], 0, []⟩
def join (x : Nd) (ks : List (List Nd)) : List Nd := { x with kids := (ks.length : Int) } :: ks.flatten
inductive Sy where
  | mark (s : List UInt8)
  | e (n : Nat)
  | row (n : Nat)
  | post
  | prim
  | lF (par : Bool) (x : Nd) (m : Nat)
  | lN (par : Bool) (x : Nd) (m : Nat)
  | lC (par : Bool) (x : Nd) (m : Nat)
  | par
  | outer (a : List UInt8)
  | outN (a : List UInt8)
  | fn (x : Nd)
  | blk
  | sts (m : Nat)
  | stmt
  | letN
  | els
  | asg
  | mk (x : Nd) (m : Nat)
  | mod
  | modN
  | modI (a : List UInt8)
  | uses (x : Nd) (m : Nat)
  | useN
  | useM (a : List UInt8)
  | useI (a b : List UInt8)
  | funs (x : Nd) (m : Nat)
  | funN
section
variable (L : List Tk)
def kd (i : Nat) : Int := match L[i]? with | some t => t.kind | none => 0
def sg (i : Nat) : List UInt8 := match L[i]? with | some t => if t.kind = 5 ∨ t.kind = 4 then t.text else [] | none => []
def tx (i : Nat) : List UInt8 := match L[i]? with | some t => t.text | none => []
def nm (i : Nat) : Int := match L[i]? with | some t => t.n | none => 0
def level : Nat → List (List UInt8)
  | 0 => [[111, 114]]
  | 1 => [[97, 110, 100]]
  | 2 => [[61, 61], [33, 61], [60], [60, 61]]
  | 3 => [[43], [45], [46, 46]]
  | _ => [[42], [47], [37]]
abbrev Rs := Option (List Sy × List (List Nd) × Nat)
def need (k : Int) (V : List (List Nd)) (i : Nat) (A : List Sy) : Rs := if kd L i = k then some (A, V, i + 1) else none
def stmtA (s : List UInt8) : Option (List Sy) :=
  if s = [108, 101, 116] then some [.letN]
  else if s = [105, 102] then some [.e 0, .blk, .els]
  else if s = [119, 104, 105, 108, 101] then some [.e 0, .blk, .mk (nd 10) 2]
  else if s = [98, 114, 101, 97, 107] then some [.mark [59], .mk (nd 11) 0]
  else if s = [99, 111, 110, 116, 105, 110, 117, 101] then some [.mark [59], .mk (nd 12) 0]
  else if s = [121, 105, 101, 108, 100] then some [.mark [59], .mk (nd 16) 0]
  else if s = [114, 101, 116, 117, 114, 110] then some [.e 0, .mark [59], .mk (nd 13) 1]
  else if s = [112, 117, 116] then some [.e 0, .mark [59], .mk (nd 14) 1]
  else if s = [101, 109, 105, 116] then some [.e 0, .mark [59], .mk (nd 15) 1]
  else none
def primA (s : List UInt8) : Option (List Sy) :=
  if s = [110, 105, 108] then some [.mk (nd 18) 0]
  else if s = [115, 116, 97, 116, 101] then some [.mk (nd 29) 0]
  else if s = [123] then some [.mark [125], .mk (nd 25) 0]
  else if s = [102, 110] then some [.fn (nd 24)]
  else if s = [40] then some [.e 0, .mark [41]]
  else none
def firstZ (b : List Nd) : Nat := (endW 1 (kidsOf b)).getD 0
def one (a : Sy) (V : List (List Nd)) (i : Nat) : Rs := match a with
  | .mark s => if sg L i = s then some ([], V, i + 1) else none
  | .e n => if n < 5 then some ([.e (n + 1), .row n], V, i)
      else if sg L i = [115, 112, 97, 119, 110] then some ([.e 5, .mk (nd 30) 1], V, i + 1)
      else if sg L i ∈ [[45], [110, 111, 116], [108, 101, 110]] then some ([.e 5, .mk { nd 28 with text := sg L i } 1], V, i + 1)
      else some ([.prim, .post], V, i)
  | .row n => if sg L i ∈ level n then some (.e (n + 1) :: .mk { nd 27 with text := sg L i } 2 :: (if n = 2 then [] else [.row n]), V, i + 1) else some ([], V, i)
  | .post => if sg L i = [40] then some ([.lF false (nd 22) 1, .post], V, i + 1)
      else if sg L i = [91] then some ([.e 0, .mark [93], .mk (nd 26) 2, .post], V, i + 1)
      else some ([], V, i)
  | .prim => if kd L i = 2 then some ([.mk { nd 19 with n := nm L i } 0], V, i + 1)
      else if kd L i = 3 then some ([.mk { nd 20 with text := tx L i } 0], V, i + 1)
      else if kd L i = 1 then some ([.outer (tx L i)], V, i + 1)
      else (primA (sg L i)).map fun A => (A, V, i + 1)
  | .outer a => if sg L i = [46] then some ([.outN a], V, i + 1) else some ([.mk { nd 21 with name := a } 0], V, i)
  | .outN a => need L 1 V i [.mark [40], .lF false { nd 23 with name := a, text := tx L i } 0]
  | .lF p x m => if sg L i = [41] then some ([.lC p x m], V, i + 1) else some ([if p then .par else .e 0, .lN p x (m + 1)], V, i)
  | .lN p x m => if sg L i = [44] then some ([if p then .par else .e 0, .lN p x (m + 1)], V, i + 1)
      else if sg L i = [41] then some ([.lC p x m], V, i + 1) else none
  | .lC p x m => some (if p then [.blk, .mk x (m + 1)] else [.mk x m], V, i)
  | .par => need L 1 V i [.mk { nd 4 with name := tx L i } 0]
  | .fn x => some ([.mark [40], .lF true x 0], V, i)
  | .blk => some ([.mark [123], .sts 0], V, i)
  | .sts m => if sg L i = [125] then some ([.mk (nd 5) m], V, i + 1) else some ([.stmt, .sts (m + 1)], V, i)
  | .stmt => match stmtA (sg L i) with
      | some A => some (A, V, i + 1)
      | none => some ([.e 0, .asg], V, i)
  | .letN => need L 1 V i [.mark [61], .e 0, .mark [59], .mk { nd 6 with name := tx L i } 1]
  | .els => if sg L i = [101, 108, 115, 101] then some ([.blk, .mk (nd 9) 3], V, i + 1) else some ([.mk (nd 9) 2], V, i)
  | .asg => if sg L i = [61] then match V with
        | (x :: b) :: V' =>
          if x.kind = 21 then some ([.e 0, .mark [59], .mk { nd 7 with name := x.name } 1], V', i + 1)
          else if x.kind = 26 then some ([.e 0, .mark [59], .mk (nd 8) 3], b.drop (firstZ b) :: b.take (firstZ b) :: V', i + 1)
          else none
        | _ => none
      else some ([.mark [59], .mk (nd 17) 1], V, i)
  | .mk x m => if m ≤ V.length then some ([], join x (V.take m).reverse :: V.drop m, i) else none
  | .mod => some ([.mark [109, 111, 100, 117, 108, 101], .modN], V, i)
  | .modN => need L 1 V i [.modI (tx L i)]
  | .modI a => need L 2 V i [.mark [59], .uses { nd 1 with name := a, n := nm L i } 0]
  | .uses x m => if sg L i = [117, 115, 101] then some ([.useN, .uses x (m + 1)], V, i + 1) else some ([.funs x m], V, i)
  | .useN => need L 1 V i [.mark [46], .useM (tx L i)]
  | .useM a => need L 1 V i [.mark [47], .useI a (tx L i)]
  | .useI a b => need L 2 V i [.mark [59], .mk { nd 2 with name := a, text := b, n := nm L i } 0]
  | .funs x m => if sg L i = [102, 110] then some ([.funN, .funs x (m + 1)], V, i + 1) else some ([.mk x m], V, i)
  | .funN => need L 1 V i [.fn { nd 3 with name := tx L i }]
inductive Cfg where
  | run (A : List Sy) (V : List (List Nd)) (i : Nat)
  | bad (i : Nat)
  | fin (V : List (List Nd))
def step : Cfg → Cfg
  | .run [] V i => if i = L.length then .fin V else .bad i
  | .run (a :: A) V i => match one L a V i with
    | some (B, V', j) => .run (B ++ A) V' j
    | none => .bad i
  | c => c
def iter : Nat → Cfg → Cfg
  | 0, c => c
  | n + 1, c => iter n (step L c)
def To (c d : Cfg) : Prop := ∃ n, iter L n c = d
end
variable {L : List Tk}
theorem iter_add : ∀ (m n : Nat) (c : Cfg), iter L (m + n) c = iter L n (iter L m c)
  | 0, n, c => by rw [Nat.zero_add]; rfl
  | m + 1, n, c => by rw [show m + 1 + n = (m + n) + 1 by omega]; exact iter_add m n _
theorem To.refl (c : Cfg) : To L c c := ⟨0, rfl⟩
theorem To.trans {c d e : Cfg} (h : To L c d) (k : To L d e) : To L c e := by
  obtain ⟨m, rfl⟩ := h; obtain ⟨n, rfl⟩ := k; exact ⟨m + n, iter_add m n c⟩
theorem To.head {c d : Cfg} (h : To L (step L c) d) : To L c d := by
  obtain ⟨n, h⟩ := h; exact ⟨n + 1, h⟩
theorem iter_stop {c : Cfg} (h : step L c = c) : ∀ n, iter L n c = c
  | 0 => rfl
  | n + 1 => by show iter L n (Pa.step L c) = c; rw [h]; exact iter_stop h n
theorem To.one_end {c d e : Cfg} (h : To L c d) (k : To L c e) (hd : step L d = d) (he : step L e = e) : d = e := by
  obtain ⟨m, h⟩ := h; obtain ⟨n, k⟩ := k; have h1 := iter_add (L := L) m n c; have h2 := iter_add (L := L) n m c; rw [h, iter_stop hd] at h1; rw [k, iter_stop he, Nat.add_comm] at h2; exact h1.symm.trans h2
theorem to_some {a : Sy} {A B : List Sy} {V V' : List (List Nd)} {i j : Nat} (h : one L a V i = some (B, V', j)) : To L (.run (a :: A) V i) (.run (B ++ A) V' j) :=
  To.head ⟨0, by show Pa.step L _ = _; simp only [Pa.step, h]⟩
theorem to_none {a : Sy} {A : List Sy} {V : List (List Nd)} {i : Nat} (h : one L a V i = none) : To L (.run (a :: A) V i) (.bad i) :=
  To.head ⟨0, by show Pa.step L _ = _; simp only [Pa.step, h]⟩
inductive St where
  | ok (i : Nat)
  | bad (k : Nat)
deriving DecidableEq
def Leads (L : List Tk) (A : List Sy) (us : List (List Nd)) (s : St) (B : List Sy) (ts : List (List Nd)) (s' : St) : Prop := match s, s' with
  | .ok i, .ok j => ∀ K V, To L (.run (A ++ K) (us.reverse ++ V) i) (.run (B ++ K) (ts.reverse ++ V) j)
  | .ok i, .bad k => ∀ K V, To L (.run (A ++ K) (us.reverse ++ V) i) (.bad k)
  | .bad k, .bad k' => k = k'
  | .bad _, .ok _ => False
theorem Leads.refl (A : List Sy) (us : List (List Nd)) (s : St) : Leads L A us s A us s := by
  cases s with
  | ok i => exact fun _ _ => To.refl _
  | bad k => exact rfl
theorem Leads.any' {A B : List Sy} {us ts : List (List Nd)} {s : St} {k : Nat} (B' : List Sy) (ts' : List (List Nd)) (h : Leads L A us s B ts (.bad k)) : Leads L A us s B' ts' (.bad k) := by
  cases s with
  | ok i => exact h
  | bad k' => exact h
theorem Leads.trans {A B C : List Sy} {us ts qs : List (List Nd)} {s s1 s2 : St} (h : Leads L A us s B ts s1) (k : Leads L B ts s1 C qs s2) : Leads L A us s C qs s2 := by
  cases s with
  | ok i =>
    cases s1 with
    | ok j =>
      cases s2 with
      | ok m => exact fun K V => (h K V).trans (k K V)
      | bad m => exact fun K V => (h K V).trans (k K V)
    | bad j =>
      cases s2 with
      | ok m => exact absurd k id
      | bad m => cases (show j = m from k); exact fun K V => h K V
  | bad i =>
    cases s1 with
    | ok j => exact absurd h id
    | bad j =>
      cases s2 with
      | ok m => exact absurd k id
      | bad m => exact (show i = j from h).trans k
theorem Leads.over {A B : List Sy} {us ts : List (List Nd)} {s s' : St} (h : Leads L A us s B ts s') (C : List Sy) (qs : List (List Nd)) : Leads L (A ++ C) (qs ++ us) s (B ++ C) (qs ++ ts) s' := by
  cases s with
  | ok i =>
    cases s' with
    | ok j => intro K V; have := h (C ++ K) (qs.reverse ++ V); simpa [List.append_assoc] using this
    | bad j => intro K V; have := h (C ++ K) (qs.reverse ++ V); simpa [List.append_assoc] using this
  | bad i =>
    cases s' with
    | ok j => exact h
    | bad j => exact h
theorem Leads.yes {a : Sy} {B : List Sy} {us ts : List (List Nd)} {i j : Nat} (h : ∀ V, one L a (us.reverse ++ V) i = some (B, ts.reverse ++ V, j)) : Leads L [a] us (.ok i) B ts (.ok j) :=
  fun K V => to_some (A := K) (h V)
theorem Leads.no {a : Sy} {B : List Sy} {us ts : List (List Nd)} {i : Nat} (h : ∀ V, one L a (us.reverse ++ V) i = none) : Leads L [a] us (.ok i) B ts (.bad i) :=
  fun K V => to_none (A := K) (h V)
end Go.Proofs.YtmljjpdodcpohaaGreatDoor.Pa

