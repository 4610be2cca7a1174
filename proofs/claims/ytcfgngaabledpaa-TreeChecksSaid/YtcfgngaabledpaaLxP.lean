/- The document's scanner as functions over lists of bytes, and plain facts on them. No condition but those that each states. -/
import Derived.Lib.DecodeN
namespace Go.Proofs.Ytcfgngaabledpaa.Lx

/-! the bytes -/
def rL (r : Int) : Bool := decide (97 ≤ r) && decide (r ≤ 122)
def rD (r : Int) : Bool := decide (48 ≤ r) && decide (r ≤ 57)
def rW (r : Int) : Bool := rL r || rD r || decide (r = 95)
def rB (r : Int) : Bool := decide (r = 32) || decide (r = 9) || decide (r = 10) || decide (r = 13)
def isL (c : UInt8) : Bool := rL (c.toNat : Int)
def isD (c : UInt8) : Bool := rD (c.toNat : Int)
def isW (c : UInt8) : Bool := rW (c.toNat : Int)
def isB (c : UInt8) : Bool := rB (c.toNat : Int)

/-! blanks and remarks -/
def skipN : Bool → List UInt8 → Nat
  | _, [] => 0
  | true, c :: r => skipN (decide (c.toNat ≠ 10)) r + 1
  | false, c :: r => if c.toNat = 35 then skipN true r + 1 else if isB c then skipN false r + 1 else 0

def spanN (p : UInt8 → Bool) : List UInt8 → Nat
  | [] => 0
  | c :: r => if p c then spanN p r + 1 else 0

/-! a text in quotes -/
def unescN (c : UInt8) : Option UInt8 := if c.toNat = 110 then some 10 else if c.toNat = 34 ∨ c.toNat = 92 then some c else none

def textL : List UInt8 → Option (List UInt8 × Nat)
  | [] => none
  | c :: r =>
    if c.toNat = 34 then some ([], 1)
    else if c.toNat = 10 then none
    else if c.toNat = 92 then
      match r with
      | [] => none
      | d :: r' => match unescN d with
        | none => none
        | some e => (textL r').map fun q => (e :: q.1, q.2 + 2)
    else (textL r).map fun q => (c :: q.1, q.2 + 1)

/-! marks, keys, numbers -/
def markList : List (List UInt8) := [[61, 61], [33, 61], [60, 61], [46, 46], [40], [41], [123], [125], [91], [93], [44], [59], [46], [47], [61], [60], [43], [45], [42], [37]]
def markOf (l : List UInt8) : List (List UInt8) → Nat
  | [] => 0
  | m :: r => if m.isPrefixOf l then m.length else markOf l r
def markN (l : List UInt8) : Nat := markOf l markList

def keyList : List (List UInt8) := [[109, 111, 100, 117, 108, 101], [117, 115, 101], [102, 110], [108, 101, 116], [105, 102], [101, 108, 115, 101], [119, 104, 105, 108, 101], [98, 114, 101, 97, 107], [99, 111, 110, 116, 105, 110, 117, 101], [114, 101, 116, 117, 114, 110], [112, 117, 116], [101, 109, 105, 116], [121, 105, 101, 108, 100], [110, 105, 108], [115, 116, 97, 116, 101], [115, 112, 97, 119, 110], [108, 101, 110], [110, 111, 116], [97, 110, 100], [111, 114]]
def isKey (l : List UInt8) : Bool := keyList.contains l

def numV (l : List UInt8) : Nat := l.foldl (fun a c => a * 10 + (c.toNat - 48)) 0
def numL (l : List UInt8) : Option Nat := if 1 < l.length ∧ l.head? = some 48 then none else if numV l < 2 ^ 63 then some (numV l) else none

def isName (l : List UInt8) : Bool := decide (0 < l.length) && decide (l.length ≤ 16) && (l.head?.map isL).getD false && l.all isW && !isKey l

/-! one token -/
inductive One where
  | bad (e : Nat)
  | tok (k : Nat) (t : List UInt8) (n : Nat) (len : Nat)

def wordOf (l : List UInt8) (n : Nat) : One := if isKey (l.take n) then .tok 5 (l.take n) 0 n else if 16 < n then .bad 10 else .tok 1 (l.take n) 0 n
def intOf' (l : List UInt8) (n : Nat) : One := match numL (l.take n) with | none => .bad 10 | some v => .tok 2 (l.take n) v n
def textOf (r : List UInt8) : One := match textL r with | none => .bad 10 | some q => .tok 3 q.1 0 (q.2 + 1)
def markOne (l : List UInt8) : One := if markN l = 0 then .bad 9 else .tok 4 (l.take (markN l)) 0 (markN l)
def oneL : List UInt8 → One
  | [] => .bad 9
  | c :: r => if isL c then wordOf (c :: r) (spanN isW (c :: r)) else if isD c then intOf' (c :: r) (spanN isD (c :: r)) else if c.toNat = 34 then textOf r else markOne (c :: r)

/-! all of them -/
structure Tk where
  kind : Int
  text : List UInt8
  n : Int
  place : Int
deriving DecidableEq

inductive SR where
  | bad (e : Nat) (a : Nat)
  | toks (l : List Tk)
deriving DecidableEq
def SR.cons (t : Tk) : SR → SR
  | .bad e a => .bad e a
  | .toks l => .toks (t :: l)

def scanF : Nat → Nat → List UInt8 → SR
  | 0, _, _ => .toks []
  | f + 1, p, l =>
    match l.drop (skipN false l) with
    | [] => .toks []
    | c :: r => match oneL (c :: r) with
      | .bad e => .bad e (p + skipN false l)
      | .tok kd t n len => (scanF f (p + skipN false l + len) ((c :: r).drop len)).cons ⟨kd, t, n, (p + skipN false l : Nat)⟩
def scanL (p : Nat) (l : List UInt8) : SR := scanF (l.length + 1) p l

/-! quoting -/
def escL (c : UInt8) : List UInt8 := if c.toNat = 10 then [92, 110] else if c.toNat = 34 ∨ c.toNat = 92 then [92, c] else [c]
def quoteL (l : List UInt8) : List UInt8 := 34 :: (l.flatMap escL ++ [34])
def written (t : Tk) : List UInt8 := if t.kind = 3 then quoteL t.text else t.text
def joinL : List (List UInt8) → List UInt8
  | [] => []
  | [x] => x
  | x :: y :: r => x ++ 32 :: joinL (y :: r)
def writeL (l : List Tk) : List UInt8 := joinL (l.map written)

/-! what these are -/
theorem spanN_le (p : UInt8 → Bool) : ∀ l, spanN p l ≤ l.length
  | [] => Nat.le_refl _
  | c :: r => by unfold spanN; split <;> simp; have := spanN_le p r; omega
theorem skipN_le : ∀ b l, skipN b l ≤ l.length
  | b, [] => by cases b <;> exact Nat.le_refl _
  | true, c :: r => by
    rw [skipN]; have := skipN_le (decide (c.toNat ≠ 10)) r; rw [List.length_cons]; omega
  | false, c :: r => by
    rw [skipN]
    have h1 := skipN_le true r
    have h2 := skipN_le false r
    split
    · simp; omega
    · split
      · simp; omega
      · exact Nat.zero_le _
theorem textL_pos : ∀ (l : List UInt8) q, textL l = some q → 1 ≤ q.2 ∧ q.2 ≤ l.length
  | [], _, h => by simp [textL] at h
  | [c], q, h => by
    unfold textL at h
    split at h
    · cases h; simp
    · split at h
      · cases h
      · split at h
        · cases h
        · simp [textL] at h
  | c :: d :: r, q, h => by
    unfold textL at h
    split at h
    · cases h; simp
    · split at h
      · cases h
      · split at h
        · simp only at h
          split at h
          · cases h
          · rw [Option.map_eq_some_iff] at h
            obtain ⟨q', h', rfl⟩ := h
            have := textL_pos r q' h'
            simp; omega
        · rw [Option.map_eq_some_iff] at h
          obtain ⟨q', h', rfl⟩ := h
          have := textL_pos (d :: r) q' h'
          simp at this ⊢; omega

theorem markOf_le (l : List UInt8) : ∀ ms, markOf l ms ≤ l.length
  | [] => Nat.zero_le _
  | m :: r => by
    unfold markOf
    split
    · rename_i h
      exact (List.isPrefixOf_iff_prefix.1 h).length_le
    · exact markOf_le l r
theorem markN_le (l : List UInt8) : markN l ≤ l.length := markOf_le l _

theorem spanN_first {p : UInt8 → Bool} {c : UInt8} {r : List UInt8} (h : p c = true) : spanN p (c :: r) = spanN p r + 1 := by rw [spanN, if_pos h]
theorem isL_W {c : UInt8} (h : isL c = true) : isW c = true := by unfold isW rW; unfold isL at h; rw [h]; rfl

/-- A token has a byte or more, and no more than there are. -/
theorem oneL_len : ∀ (l : List UInt8) k t n len, oneL l = .tok k t n len → 1 ≤ len ∧ len ≤ l.length
  | [], k, t, n, len, h => by simp [oneL] at h
  | c :: r, k, t, n, len, h => by
    rw [oneL] at h
    split at h
    · rename_i hc
      have h1 := spanN_le isW (c :: r)
      have h2 := spanN_first (r := r) (isL_W hc)
      unfold wordOf at h
      split at h
      · cases h; omega
      · split at h
        · cases h
        · cases h; omega
    · split at h
      · rename_i hc
        have h1 := spanN_le isD (c :: r)
        have h2 := spanN_first (r := r) hc
        unfold intOf' at h
        split at h
        · cases h
        · cases h; omega
      · split at h
        · unfold textOf at h
          split at h
          · cases h
          · rename_i q hq
            cases h
            have := textL_pos r q hq
            simp; omega
        · unfold markOne at h
          have h1 := markN_le (c :: r)
          split at h
          · cases h
          · cases h; omega

theorem scanF_same : ∀ (f g p : Nat) (l : List UInt8), l.length < f → l.length < g → scanF f p l = scanF g p l
  | 0, _, _, _, h, _ => absurd h (Nat.not_lt_zero _)
  | _ + 1, 0, _, _, _, h => absurd h (Nat.not_lt_zero _)
  | f + 1, g + 1, p, l, hf, hg => by
    unfold scanF
    split
    · rfl
    · rename_i c r hd
      split
      · rfl
      · rename_i kd t n len ho
        have h1 := oneL_len _ _ _ _ _ ho
        have h2 : (c :: r).length ≤ l.length := by rw [← hd, List.length_drop]; omega
        rw [scanF_same f g _ ((c :: r).drop len) (by rw [List.length_drop]; omega) (by rw [List.length_drop]; omega)]

/-- What is found from a place on where no blank stands. -/
def scanAt (p : Nat) (l : List UInt8) : SR :=
  match l with
  | [] => .toks []
  | c :: r => match oneL (c :: r) with
    | .bad e => .bad e p
    | .tok kd t n len => (scanL (p + len) ((c :: r).drop len)).cons ⟨kd, t, n, (p : Nat)⟩

theorem scanL_at (p : Nat) (l : List UInt8) : scanL p l = scanAt (p + skipN false l) (l.drop (skipN false l)) := by
  show scanF (l.length + 1) p l = _
  unfold scanF scanAt
  cases hd : l.drop (skipN false l) with
  | nil => rfl
  | cons c r =>
    dsimp only
    cases ho : oneL (c :: r) with
    | bad e => rfl
    | tok kd t n len =>
      have h1 := oneL_len _ _ _ _ _ ho
      have h2 : (c :: r).length ≤ l.length := by rw [← hd, List.length_drop]; omega
      dsimp only
      unfold scanL
      rw [scanF_same l.length (((c :: r).drop len).length + 1) _ ((c :: r).drop len) (by rw [List.length_drop]; omega) (by omega)]

/-- Tokens that are found already, ahead of the others. -/
def SR.pre (ts : List Tk) : SR → SR
  | .bad e a => .bad e a
  | .toks l => .toks (ts ++ l)
theorem pre_nil (r : SR) : r.pre [] = r := by cases r <;> rfl
theorem pre_cons (ts : List Tk) (t : Tk) (r : SR) : (r.cons t).pre ts = r.pre (ts ++ [t]) := by cases r <;> simp [SR.cons, SR.pre]

end Go.Proofs.Ytcfgngaabledpaa.Lx
