/- Plain facts on the scanner: tokens one by one, joined texts, texts that were written. No condition but those that each states. -/
import Derived.Test.YtcfmjnhagpmnpaaDoorLxL
namespace Go.Proofs.YtcfmjnhagpmnpaaDoor.Lx

inductive Scans : Nat → List UInt8 → List Tk → Prop
  | done (p : Nat) (l : List UInt8) : l.drop (skipN false l) = [] → Scans p l []
  | more (p : Nat) (l : List UInt8) (c : UInt8) (r : List UInt8) (k : Nat) (t : List UInt8) (n len : Nat) (ts : List Tk) : l.drop (skipN false l) = c :: r → oneL (c :: r) = .tok k t n len →
      Scans (p + skipN false l + len) ((c :: r).drop len) ts → Scans p l (⟨k, t, n, (p + skipN false l : Nat)⟩ :: ts)

theorem scans_of : ∀ (m p : Nat) (l : List UInt8) (ts : List Tk), l.length < m → scanL p l = .toks ts → Scans p l ts
  | 0, _, _, _, h, _ => absurd h (Nat.not_lt_zero _)
  | m + 1, p, l, ts, hm, h => by
    rw [scanL_at] at h
    cases hd : l.drop (skipN false l) with
    | nil =>
      rw [hd] at h
      cases h
      exact .done p l hd
    | cons c r =>
      rw [hd] at h
      cases ho : oneL (c :: r) with
      | bad e => rw [scanAt_bad ho] at h; cases h
      | tok k t n len =>
        rw [scanAt_tok ho] at h
        have hlen := oneL_len _ _ _ _ _ ho
        have hl : (c :: r).length ≤ l.length := by rw [← hd, List.length_drop]; omega
        cases hr : scanL (p + skipN false l + len) ((c :: r).drop len) with
        | bad e a => rw [hr] at h; cases h
        | toks q =>
          rw [hr] at h
          cases h
          exact .more p l c r k t n len q hd ho (scans_of m _ _ _ (by rw [List.length_drop]; omega) hr)
theorem scans_iff {p : Nat} {l : List UInt8} {ts : List Tk} : scanL p l = .toks ts ↔ Scans p l ts := by
  constructor
  · exact scans_of (l.length + 1) p l ts (Nat.lt_succ_self _)
  · intro h
    induction h with
    | done p l hd => rw [scanL_at, hd]; rfl
    | more p l c r k t n len ts hd ho _ ih => rw [scanL_at, hd, scanAt_tok ho, ih]; rfl

theorem scan_bad_at : ∀ (m p : Nat) (l : List UInt8) (e a : Nat), l.length < m → scanL p l = .bad e a → (e = 9 ∨ e = 10) ∧ p ≤ a ∧ a < p + l.length
  | 0, _, _, _, _, h, _ => absurd h (Nat.not_lt_zero _)
  | m + 1, p, l, e, a, hm, h => by
    rw [scanL_at] at h
    have hs := skipN_le false l
    cases hd : l.drop (skipN false l) with
    | nil => rw [hd] at h; cases h
    | cons c r =>
      rw [hd] at h
      have hl := congrArg List.length hd
      rw [List.length_drop, List.length_cons] at hl
      cases ho : oneL (c :: r) with
      | bad e' =>
        rw [scanAt_bad ho] at h
        cases h
        exact ⟨oneL_bad _ _ ho, by omega, by omega⟩
      | tok k t n len =>
        rw [scanAt_tok ho] at h
        have hlen := oneL_len _ _ _ _ _ ho
        rw [List.length_cons] at hlen
        cases hr : scanL (p + skipN false l + len) ((c :: r).drop len) with
        | toks q => rw [hr] at h; cases h
        | bad e' a' =>
          rw [hr] at h
          cases h
          have := scan_bad_at m _ _ _ _ (by rw [List.length_drop, List.length_cons]; omega) hr
          rw [List.length_drop, List.length_cons] at this
          exact ⟨this.1, by omega, by omega⟩

/-! blanks -/
theorem skip_stop {c : UInt8} {r : List UInt8} (h : skipN false (c :: r) = 0) (r' : List UInt8) : skipN false (c :: r') = 0 := by
  rw [skipN] at h ⊢
  split at h
  · omega
  · rename_i h1
    split at h
    · omega
    · rename_i h2
      rw [if_neg h1, if_neg h2]
theorem skip_idem : ∀ (b : Bool) (l : List UInt8), skipN false (l.drop (skipN b l)) = 0
  | b, [] => by cases b <;> rfl
  | true, c :: r => by rw [skipN, List.drop_succ_cons]; exact skip_idem _ r
  | false, c :: r => by
    rw [skipN]
    split
    · rw [List.drop_succ_cons]; exact skip_idem true r
    · split
      · rw [List.drop_succ_cons]; exact skip_idem false r
      · rename_i h1 h2
        rw [List.drop_zero, skipN, if_neg h1, if_neg h2]
theorem skip_lt : ∀ (b : Bool) (l rest : List UInt8), skipN b l < l.length → skipN b (l ++ rest) = skipN b l
  | b, [], _, h => by simp at h
  | true, c :: r, rest, h => by
    rw [skipN] at h
    rw [List.cons_append, skipN, skipN, skip_lt _ r rest (by rw [List.length_cons] at h; omega)]
  | false, c :: r, rest, h => by
    rw [skipN] at h
    rw [List.cons_append, skipN, skipN]
    rw [List.length_cons] at h
    split
    · rename_i h1
      rw [if_pos h1] at h
      rw [skip_lt true r rest (by omega)]
    · rename_i h1
      rw [if_neg h1] at h
      split
      · rename_i h2
        rw [if_pos h2] at h
        rw [skip_lt false r rest (by omega)]
      · rfl
theorem skip_all : ∀ (b : Bool) (l rest : List UInt8), skipN b l = l.length → skipN b (l ++ 10 :: rest) = l.length + 1 + skipN false rest
  | true, [], rest, _ => by rw [List.nil_append, skipN, show decide ((10 : UInt8).toNat ≠ 10) = false from rfl]; simp; omega
  | false, [], rest, _ => by rw [List.nil_append, skipN, if_neg (by decide), if_pos (by decide)]; simp; omega
  | true, c :: r, rest, h => by
    rw [skipN, List.length_cons] at h
    rw [List.cons_append, skipN, skip_all _ r rest (by omega), List.length_cons]; omega
  | false, c :: r, rest, h => by
    rw [skipN, List.length_cons] at h
    rw [List.cons_append, skipN, List.length_cons]
    split
    · rename_i h1
      rw [if_pos h1] at h
      rw [skip_all true r rest (by omega)]; omega
    · rename_i h1
      rw [if_neg h1] at h
      split
      · rename_i h2
        rw [if_pos h2] at h
        rw [skip_all false r rest (by omega)]; omega
      · rename_i h2
        rw [if_neg h2] at h; omega

/-! a token, and what stands behind it -/
theorem spanN_app {p : UInt8 → Bool} {d : UInt8} (hd : p d = false) : ∀ l rest : List UInt8, spanN p (l ++ d :: rest) = spanN p l
  | [], rest => by
    show spanN p (d :: rest) = 0
    rw [spanN, if_neg (by rw [hd]; exact Bool.false_ne_true)]
  | c :: r, rest => by
    rw [List.cons_append, spanN, spanN, spanN_app hd r rest]
theorem textL_app : ∀ (l rest : List UInt8) q, textL l = some q → textL (l ++ rest) = some q
  | [], _, _, h => by cases h
  | [c], rest, q, h => by
    rw [List.cons_append, textL_cons]
    rw [textL_cons] at h
    split
    · rename_i h1; rw [if_pos h1] at h; exact h
    · rename_i h1
      rw [if_neg h1] at h
      split
      · rename_i h2; rw [if_pos h2] at h; cases h
      · rename_i h2
        rw [if_neg h2] at h
        split
        · rename_i h3; rw [if_pos h3] at h; cases h
        · rename_i h3; rw [if_neg h3] at h; cases h
  | c :: d :: r, rest, q, h => by
    rw [List.cons_append, textL_cons]
    rw [textL_cons] at h
    split
    · rename_i h1; rw [if_pos h1] at h; exact h
    · rename_i h1
      rw [if_neg h1] at h
      split
      · rename_i h2; rw [if_pos h2] at h; cases h
      · rename_i h2
        rw [if_neg h2] at h
        split
        · rename_i h3
          rw [if_pos h3] at h
          rw [List.cons_append]
          simp only [textE] at h ⊢
          cases hu : unescN d with
          | none => rw [hu] at h; cases h
          | some e =>
            rw [hu] at h
            dsimp only at h ⊢
            cases ht : textL r with
            | none => rw [ht] at h; cases h
            | some q' => rw [ht] at h; rw [textL_app r rest q' ht]; exact h
        · rename_i h3
          rw [if_neg h3] at h
          cases ht : textL (d :: r) with
          | none => rw [ht] at h; cases h
          | some q' => rw [ht] at h; rw [textL_app (d :: r) rest q' ht]; exact h

theorem markOf_app (c d : UInt8) (r rest : List UInt8) : ∀ ms : List (List UInt8), (∀ m ∈ ms, ∃ x, m = [x] ∨ ∃ y, m = [x, y] ∧ y ≠ d) → markOf ((c :: r) ++ d :: rest) ms = markOf (c :: r) ms
  | [], _ => rfl
  | m :: ms, h => by
    rw [markOf_cons, markOf_cons, markOf_app c d r rest ms (fun m hm => h m (by simp [hm]))]
    obtain ⟨x, rfl | ⟨y, rfl, hy⟩⟩ := h m (by simp)
    · rfl
    · cases r with
      | nil =>
        have : ([x, y] : List UInt8).isPrefixOf ([c] ++ d :: rest) = false := by
          simp [List.isPrefixOf, hy]
        rw [this]
        have : ([x, y] : List UInt8).isPrefixOf [c] = false := by simp [List.isPrefixOf]
        rw [this]
      | cons c2 r2 => simp [List.isPrefixOf]
theorem markList_form (d : UInt8) (h1 : d ≠ 61) (h2 : d ≠ 46) : ∀ m ∈ markList, ∃ x, m = [x] ∨ ∃ y, m = [x, y] ∧ y ≠ d := by
  intro m hm
  simp only [markList, List.mem_cons, List.not_mem_nil, or_false] at hm
  rcases hm with rfl | rfl | rfl | rfl | rfl | rfl | rfl | rfl | rfl | rfl | rfl | rfl | rfl | rfl | rfl | rfl | rfl | rfl | rfl | rfl
  all_goals first
    | exact ⟨_, .inl rfl⟩
    | exact ⟨_, .inr ⟨_, rfl, fun e => h1 e.symm⟩⟩
    | exact ⟨_, .inr ⟨_, rfl, fun e => h2 e.symm⟩⟩

/-- A byte that ends each token. -/
structure Sep (d : UInt8) : Prop where
  w : isW d = false
  n : isD d = false
  e : d ≠ 61
  o : d ≠ 46
theorem sep32 : Sep 32 := ⟨by decide, by decide, by decide, by decide⟩
theorem sep10 : Sep 10 := ⟨by decide, by decide, by decide, by decide⟩

theorem one_app {l : List UInt8} {k : Nat} {t : List UInt8} {n len : Nat} (h : oneL l = .tok k t n len) {d : UInt8} (hd : Sep d) (rest : List UInt8) : oneL (l ++ d :: rest) = .tok k t n len := by
  cases l with
  | nil => cases h
  | cons c r =>
    rw [List.cons_append, oneL]
    rw [oneL] at h
    split
    · rename_i h1
      rw [if_pos h1] at h
      have := spanN_app hd.w (c :: r) rest
      rw [List.cons_append] at this
      rw [this]
      have ht : (c :: (r ++ d :: rest)).take (spanN isW (c :: r)) = (c :: r).take (spanN isW (c :: r)) := by
        rw [← List.cons_append, List.take_append_of_le_length (spanN_le _ _)]
      unfold wordOf at h ⊢
      rw [ht]; exact h
    · rename_i h1
      rw [if_neg h1] at h
      split
      · rename_i h2
        rw [if_pos h2] at h
        have := spanN_app hd.n (c :: r) rest
        rw [List.cons_append] at this
        rw [this]
        have ht : (c :: (r ++ d :: rest)).take (spanN isD (c :: r)) = (c :: r).take (spanN isD (c :: r)) := by
          rw [← List.cons_append, List.take_append_of_le_length (spanN_le _ _)]
        unfold intOf' at h ⊢
        rw [ht]; exact h
      · rename_i h2
        rw [if_neg h2] at h
        split
        · rename_i h3
          rw [if_pos h3] at h
          unfold textOf at h ⊢
          cases ht : textL r with
          | none => rw [ht] at h; cases h
          | some q => rw [ht] at h; rw [textL_app r _ q ht]; exact h
        · rename_i h3
          rw [if_neg h3] at h
          have := markOf_app c d r rest markList (markList_form d hd.e hd.o)
          rw [List.cons_append] at this
          unfold markOne markN at h ⊢
          rw [this]
          have ht : (c :: (r ++ d :: rest)).take (markOf (c :: r) markList) = (c :: r).take (markOf (c :: r) markList) := by
            rw [← List.cons_append, List.take_append_of_le_length (markOf_le _ _)]
          rw [ht]; exact h

/-! texts put together -/
def moved (d : Int) (t : Tk) : Tk := { t with place := t.place + d }
theorem Scans.move {p : Nat} {l : List UInt8} {ts : List Tk} (h : Scans p l ts) : ∀ p' : Nat, Scans p' l (ts.map (moved ((p' : Int) - (p : Int)))) := by
  induction h with
  | done p l hd => exact fun p' => .done p' l hd
  | more p l c r k t n len ts hd ho _ ih =>
    intro p'
    have e : moved ((p' : Int) - (p : Int)) ⟨k, t, n, (p + skipN false l : Nat)⟩ = ⟨k, t, n, (p' + skipN false l : Nat)⟩ := by unfold moved; simp; omega
    rw [List.map_cons, e]
    have := ih (p' + skipN false l + len)
    rw [show ((p' + skipN false l + len : Nat) : Int) - ((p + skipN false l + len : Nat) : Int) = (p' : Int) - (p : Int) by omega] at this
    exact .more p' l c r k t n len _ hd ho this

theorem scans_join {p : Nat} {a : List UInt8} {x : List Tk} (h : Scans p a x) {q : Nat} {b : List UInt8} {y : List Tk} (hb : Scans q b y) : ∃ d, Scans p (a ++ 10 :: b) (x ++ y.map (moved d)) := by
  induction h with
  | done p l hd =>
    have hle := skipN_le false l
    have he : skipN false l = l.length := by
      have := congrArg List.length hd
      rw [List.length_drop] at this
      simp at this
      omega
    refine ⟨((p + l.length + 1 : Nat) : Int) - (q : Int), ?_⟩
    have := scans_iff.2 (hb.move (p + l.length + 1))
    rw [scanL_at] at this
    rw [← scans_iff, scanL_at, skip_all false l b he, List.nil_append, ← this]
    congr 1
    · omega
    · rw [show l.length + 1 + skipN false b = l.length + (1 + skipN false b) by omega, ← List.drop_drop, List.drop_left, Nat.add_comm 1, List.drop_succ_cons]
  | more p l c r k t n len ts hd ho _ ih =>
    obtain ⟨d, ih⟩ := ih
    have hlen := oneL_len _ _ _ _ _ ho
    have hl := congrArg List.length hd
    rw [List.length_drop, List.length_cons] at hl
    have hs := skip_lt false l (10 :: b) (by omega)
    refine ⟨d, ?_⟩
    have hd2 : (l ++ 10 :: b).drop (skipN false (l ++ 10 :: b)) = c :: (r ++ 10 :: b) := by
      rw [hs, List.drop_append_of_le_length (by omega), hd]; rfl
    have := Scans.more p (l ++ 10 :: b) c (r ++ 10 :: b) k t n len (ts ++ y.map (moved d)) hd2 (one_app ho sep10 b) (by
      rw [hs, ← List.cons_append, List.drop_append_of_le_length (by omega)]; exact ih)
    rw [hs] at this
    exact this

theorem Scans.len {p : Nat} {l : List UInt8} {ts : List Tk} (h : Scans p l ts) : ts.length ≤ l.length := by
  induction h with
  | done p l hd => exact Nat.zero_le _
  | more p l c r k t n len ts hd ho _ ih =>
    have hlen := oneL_len _ _ _ _ _ ho
    have hl := congrArg List.length hd
    rw [List.length_drop, List.length_cons] at hl
    rw [List.length_drop, List.length_cons] at ih
    rw [List.length_cons] at hlen ⊢
    omega

/-! each token at its place -/
theorem scans_split {p : Nat} {l : List UInt8} {ts : List Tk} (h : Scans p l ts) : ∀ (pre : List Tk) (t : Tk) (post : List Tk), ts = pre ++ t :: post →
    ∃ (a : Nat) (c : UInt8) (r : List UInt8) (k n len : Nat), t.place = ((p + a : Nat) : Int) ∧ l.drop a = c :: r ∧ skipN false (c :: r) = 0 ∧ oneL (c :: r) = .tok k t.text n len ∧ t.kind = (k : Int) ∧ Scans (p + a) (c :: r) (t :: post) ∧ (∀ u ∈ pre, u.place < t.place) := by
  induction h with
  | done p l hd => intro pre t post e; cases pre <;> cases e
  | more p l c r k t n len ts hd ho hs ih =>
    intro pre u post e
    cases pre with
    | nil =>
      cases e
      have h0 := skip_idem false l
      rw [hd] at h0
      refine ⟨skipN false l, c, r, k, n, len, rfl, hd, h0, ho, rfl, ?_, fun u hu => by cases hu⟩
      have := Scans.more (p + skipN false l) (c :: r) c r k t n len ts (by rw [h0]; rfl) ho (by rw [h0, Nat.add_zero]; exact hs)
      rw [h0, Nat.add_zero] at this
      exact this
    | cons u0 pre =>
      obtain ⟨rfl, e2⟩ := List.cons.inj e
      obtain ⟨a, c', r', k', n', len', h1, h2, h3, h4, h5, h6, h7⟩ := ih pre u post e2
      have hlen := oneL_len _ _ _ _ _ ho
      refine ⟨skipN false l + len + a, c', r', k', n', len', ?_, ?_, h3, h4, h5, ?_, ?_⟩
      · rw [h1]; omega
      · rw [← h2, ← hd, List.drop_drop, List.drop_drop, Nat.add_assoc]
      · rw [show p + (skipN false l + len + a) = p + skipN false l + len + a by omega]; exact h6
      · intro v hv
        rcases List.mem_cons.1 hv with rfl | hv
        · rw [h1]
          show ((p + skipN false l : Nat) : Int) < _
          omega
        · exact h7 v hv

theorem esc_e {d e : UInt8} (_h : unescN d = some e) : (escL e).length ≤ 2 := esc_len e
theorem text_len : ∀ (l : List UInt8) q, textL l = some q → (q.1.flatMap escL).length + 1 ≤ q.2
  | [], _, h => by cases h
  | [c], q, h => by
    rw [textL_cons] at h
    split at h
    · cases h; simp
    · split at h
      · cases h
      · split at h
        · cases h
        · cases h
  | c :: d :: r, q, h => by
    rw [textL_cons] at h
    split at h
    · cases h; simp
    · rename_i h1
      split at h
      · cases h
      · rename_i h2
        split at h
        · simp only [textE] at h
          cases hu : unescN d with
          | none => rw [hu] at h; cases h
          | some e =>
            rw [hu] at h
            dsimp only at h
            cases ht : textL r with
            | none => rw [ht] at h; cases h
            | some q' =>
              rw [ht] at h
              cases h
              have h7 := text_len r q' ht
              have h8 := esc_len e
              show (([] ++ e :: q'.1).flatMap escL).length + 1 ≤ q'.2 + 1 + 1
              rw [List.nil_append, List.flatMap_cons, List.length_append]
              omega
        · rename_i h3
          cases ht : textL (d :: r) with
          | none => rw [ht] at h; cases h
          | some q' =>
            rw [ht] at h
            cases h
            have h7 := text_len (d :: r) q' ht
            show (([c] ++ q'.1).flatMap escL).length + 1 ≤ q'.2 + 1
            rw [List.flatMap_append, List.length_append, List.flatMap_cons, esc_plain h2 h1 h3]
            simp only [List.flatMap_nil, List.append_nil, List.length_singleton]
            omega

/-- What a token's text is of the text that it was found in. -/
theorem one_text {l : List UInt8} {k : Nat} {t : List UInt8} {n len : Nat} (h : oneL l = .tok k t n len) : (k = 3 ∧ ∃ r, l = 34 :: r ∧ (quoteL t).length ≤ len) ∨ (k ≠ 3 ∧ t = l.take len ∧ n < 2 ^ 63) := by
  cases l with
  | nil => cases h
  | cons c r =>
    rw [oneL] at h
    split at h
    · unfold wordOf at h
      split at h
      · cases h; exact .inr ⟨by decide, rfl, by decide⟩
      · split at h
        · cases h
        · cases h; exact .inr ⟨by decide, rfl, by decide⟩
    · split at h
      · unfold intOf' at h
        split at h
        · cases h
        · rename_i v hv
          cases h
          refine .inr ⟨by decide, rfl, ?_⟩
          unfold numL at hv
          split at hv
          · cases hv
          · split at hv
            · cases hv; assumption
            · cases hv
      · split at h
        · rename_i h34
          unfold textOf at h
          split at h
          · cases h
          · rename_i q hq
            cases h
            refine .inl ⟨rfl, r, by rw [byte_eq h34 (by decide)]; rfl, ?_⟩
            have := text_len r q hq
            rw [quoteL_length]; omega
        · unfold markOne at h
          split at h
          · cases h
          · cases h; exact .inr ⟨by decide, rfl, by decide⟩

/-! a token by itself -/
theorem markOf_mem (l : List UInt8) : ∀ ms : List (List UInt8), markOf l ms ≠ 0 → ∃ m ∈ ms, l.take (markOf l ms) = m
  | [], h => absurd rfl h
  | m :: ms, h => by
    rw [markOf_cons] at h ⊢
    split
    · rename_i hp
      obtain ⟨r, rfl⟩ := List.isPrefixOf_iff_prefix.1 hp
      exact ⟨m, by simp, List.take_left⟩
    · rename_i hp
      rw [if_neg hp] at h
      obtain ⟨m', h1, h2⟩ := markOf_mem l ms h
      exact ⟨m', by simp [h1], h2⟩
theorem marks_self : (markList.all fun m => markN m == m.length) = true := by decide +kernel
theorem one_self {l : List UInt8} {k : Nat} {t : List UInt8} {n len : Nat} (h : oneL l = .tok k t n len) (hk : k ≠ 3) : oneL (l.take len) = .tok k t n len := by
  have hlen := oneL_len _ _ _ _ _ h
  cases l with
  | nil => cases h
  | cons c r =>
    obtain ⟨m, rfl⟩ : ∃ m, len = m + 1 := ⟨len - 1, by omega⟩
    rw [List.take_succ_cons, oneL]
    rw [oneL] at h
    split
    · rename_i h1
      rw [if_pos h1] at h
      have hs := spanN_take isW (c :: r)
      have hle := spanN_le isW (c :: r)
      have e : spanN isW (c :: r) = m + 1 := by
        unfold wordOf at h
        split at h
        · exact (One.tok.inj h).2.2.2
        · split at h
          · cases h
          · exact (One.tok.inj h).2.2.2
      rw [e] at hs hle
      rw [List.take_succ_cons] at hs
      rw [hs]
      have hl2 : (c :: r.take m).length = m + 1 := by rw [List.length_cons] at hle ⊢; rw [List.length_take]; omega
      have e3 : (c :: r).take (spanN isW (c :: r)) = c :: r.take m := by rw [e, List.take_succ_cons]
      unfold wordOf at h ⊢
      rw [e3, e] at h
      rw [List.take_length, hl2]
      exact h
    · rename_i h1
      rw [if_neg h1] at h
      split
      · rename_i h2
        rw [if_pos h2] at h
        have hs := spanN_take isD (c :: r)
        have hle := spanN_le isD (c :: r)
        have e : spanN isD (c :: r) = m + 1 := by
          unfold intOf' at h
          split at h
          · cases h
          · exact (One.tok.inj h).2.2.2
        rw [e] at hs hle
        rw [List.take_succ_cons] at hs
        rw [hs]
        have hl2 : (c :: r.take m).length = m + 1 := by rw [List.length_cons] at hle ⊢; rw [List.length_take]; omega
        have e3 : (c :: r).take (spanN isD (c :: r)) = c :: r.take m := by rw [e, List.take_succ_cons]
        unfold intOf' at h ⊢
        rw [e3, e] at h
        rw [List.take_length, hl2]
        exact h
      · rename_i h2
        rw [if_neg h2] at h
        split
        · rename_i h3
          rw [if_pos h3] at h
          unfold textOf at h
          split at h
          · cases h
          · cases h; exact absurd rfl hk
        · rename_i h3
          rw [if_neg h3] at h
          unfold markOne at h
          split at h
          · cases h
          · rename_i hz
            obtain ⟨e1, e2, e3, hm⟩ := One.tok.inj h
            subst e1 e2 e3
            obtain ⟨m', h4, h5⟩ := markOf_mem (c :: r) markList hz
            have e : (c :: r.take m) = m' := by
              rw [← h5]
              show _ = (c :: r).take (markN (c :: r))
              rw [hm, List.take_succ_cons]
            have h6 := List.all_eq_true.1 marks_self m' h4
            have h7 : markN m' = m'.length := by simpa using h6
            rw [e]
            unfold markOne
            have hle := markN_le (c :: r)
            have h8 : m'.length = m + 1 := by rw [← e]; rw [hm, List.length_cons] at hle; rw [List.length_cons, List.length_take]; omega
            rw [h7, h8, if_neg (by omega)]
            rw [← h8, List.take_length, h8]
            have h9 : (c :: r).take (markN (c :: r)) = m' := h5
            rw [h9]

end Go.Proofs.YtcfmjnhagpmnpaaDoor.Lx
