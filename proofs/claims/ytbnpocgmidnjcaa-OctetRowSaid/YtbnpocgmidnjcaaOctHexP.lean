/- Plain facts on hexadecimal digits: what octet.Unhex computes, as functions over lists. No condition but those that each states. -/
import Derived.Test.YtbnpocgmidnjcaaOctPlain
import Derived.Lib.HexFns
namespace Go.Proofs.Ytbnpocgmidnjcaa

/-- A digit's value; -1 where the byte is no digit. -/
def hexVal (b : UInt8) : Int := if 48 ≤ b.toNat ∧ b.toNat ≤ 57 then (b.toNat : Int) - 48 else if 97 ≤ b.toNat ∧ b.toNat ≤ 102 then (b.toNat : Int) - 97 + 10 else -1

/-- Is each byte a digit? -/
def isHex (l : List UInt8) : Bool := l.all fun b => decide (0 ≤ hexVal b)

/-- The bytes of pairs of digits. -/
def unhexL : List UInt8 → List UInt8
  | a :: b :: r => UInt8.ofNat (16 * hexVal a + hexVal b).toNat :: unhexL r
  | _ => []

theorem hexVal_lt (b : UInt8) : hexVal b < 16 := by
  unfold hexVal; split <;> (try split) <;> omega

theorem hexVal_ge (b : UInt8) : -1 ≤ hexVal b := by
  unfold hexVal; split <;> (try split) <;> omega

theorem unhexL_length : ∀ l : List UInt8, (unhexL l).length = l.length / 2
  | [] => rfl
  | [_] => by simp [unhexL]
  | a :: b :: r => by simp [unhexL, unhexL_length r]; omega

theorem unhexL_at : ∀ (l : List UInt8) (m : Nat) (h : m < (unhexL l).length) (h1 : 2 * m + 1 < l.length), (unhexL l)[m] = UInt8.ofNat (16 * hexVal l[2 * m] + hexVal l[2 * m + 1]).toNat
  | [], m, h, _ => by simp [unhexL] at h
  | [_], m, h, _ => by simp [unhexL] at h
  | a :: b :: r, 0, _, _ => by simp [unhexL]
  | a :: b :: r, m + 1, h, h1 => by
    have h' : m < (unhexL r).length := by simpa [unhexL] using h
    have h1' : 2 * m + 1 < r.length := by simp at h1; omega
    have := unhexL_at r m h' h1'
    simp only [unhexL, List.getElem_cons_succ, this]
    simp only [show 2 * (m + 1) = 2 * m + 1 + 1 by omega, List.getElem_cons_succ]

/-- What cell m holds when i digits have been read. -/
def unCell (l : List UInt8) (i m : Nat) : Int := if 2 * m + 1 < i then 16 * hexVal (l.getD (2 * m) 0) + hexVal (l.getD (2 * m + 1) 0) else if 2 * m < i then hexVal (l.getD (2 * m) 0) else 0

theorem isHex_take_succ (l : List UInt8) (i : Nat) (h : i < l.length) (hd : 0 ≤ hexVal l[i]) (ht : isHex (l.take i) = true) : isHex (l.take (i + 1)) = true := by
  unfold isHex at ht ⊢
  rw [List.take_succ_eq_append_getElem h, List.all_append, ht]
  simp [hd]

theorem isHex_not (l : List UInt8) (i : Nat) (h : i < l.length) (hd : hexVal l[i] < 0) : isHex l = false := by
  cases he : isHex l with
  | false => rfl
  | true =>
    simp [isHex] at he
    have := he l[i] (List.getElem_mem h)
    omega

theorem u8_join (c d : Int) (h0 : 0 ≤ c) (h1 : c < 16) (d0 : 0 ≤ d) (d1 : d < 16) : bits .or .u8 (IntKind.u8.wrap (c * 16)) d = 16 * c + d := by
  rw [wraps_u8 (c * 16) (by omega) (by omega)]
  rw [bits_join .u8 8 (by decide) wraps_u8 4 (c * 16) d (by omega) (by simp) (by omega) d0 (by omega) (by omega)]
  omega

/-- What Unhex answers. -/
def unhexRes (l : List UInt8) : Value := if l.length % 2 = 0 ∧ isHex l = true then .tuple #[.string ⟨(unhexL l).toArray⟩, .int .i64 0] else .tuple #[.string ⟨#[]⟩, .int .i64 4]

theorem unhexRes_yes (l : List UInt8) (h : l.length % 2 = 0) (hx : isHex l = true) : unhexRes l = .tuple #[.string ⟨(unhexL l).toArray⟩, .int .i64 0] := by
  unfold unhexRes; rw [if_pos ⟨h, hx⟩]
theorem unhexRes_odd (l : List UInt8) (h : l.length % 2 = 1) : unhexRes l = .tuple #[.string ⟨#[]⟩, .int .i64 4] := by
  unfold unhexRes; rw [if_neg (by omega)]
theorem unhexRes_no (l : List UInt8) (hx : isHex l = false) : unhexRes l = .tuple #[.string ⟨#[]⟩, .int .i64 4] := by
  unfold unhexRes; rw [if_neg (by simp [hx])]

/-- The row of Unhex when i digits have been read. -/
def unRow (l : List UInt8) (i : Nat) : Nat → Value := fun m => .int .u8 (unCell l i m)

theorem unRow_zero (l : List UInt8) (m : Nat) : Value.int .u8 0 = unRow l 0 m := by simp [unRow, unCell]

theorem unRow_step (l : List UInt8) (i : Nat) (b : UInt8) (hb : l[i]? = some b) (h0 : 0 ≤ hexVal b) (hprev : ∀ p, i = 2 * p + 1 → 0 ≤ hexVal (l.getD (2 * p) 0)) (m : Nat) :
    (if m = i / 2 then Value.int .u8 (bits .or .u8 (IntKind.u8.wrap (unCell l i (i / 2) * 16)) (hexVal b)) else unRow l i m) = unRow l (i + 1) m := by
  have hbd : l.getD i 0 = b := by rw [List.getD_eq_getElem?_getD, hb]; rfl
  have hlt := hexVal_lt b
  by_cases hm : m = i / 2
  · subst hm
    rw [if_pos rfl]
    unfold unRow
    congr 1
    by_cases he : i % 2 = 0
    · have e1 : unCell l i (i / 2) = 0 := by unfold unCell; rw [if_neg (by omega), if_neg (by omega)]
      rw [e1, u8_join 0 _ (by omega) (by omega) h0 hlt]
      unfold unCell
      rw [if_neg (by omega), if_pos (by omega), show 2 * (i / 2) = i by omega, hbd]
      omega
    · have e1 : unCell l i (i / 2) = hexVal (l.getD (2 * (i / 2)) 0) := by unfold unCell; rw [if_neg (by omega), if_pos (by omega)]
      rw [e1, u8_join _ _ (hprev (i / 2) (by omega)) (hexVal_lt _) h0 hlt]
      unfold unCell
      rw [if_pos (by omega), show 2 * (i / 2) + 1 = i by omega, hbd]
  · rw [if_neg hm]
    unfold unRow
    congr 1
    unfold unCell
    by_cases h2 : 2 * m + 1 < i
    · rw [if_pos h2, if_pos (by omega)]
    · rw [if_neg h2]
      by_cases h3 : 2 * m < i
      · rw [if_pos h3]
        exact absurd h3 (by omega)
      · rw [if_neg h3, if_neg (by omega), if_neg (by omega)]

theorem isHex_at (l : List UInt8) (i m : Nat) (hm : m < i) (hi : i ≤ l.length) (ht : isHex (l.take i) = true) : 0 ≤ hexVal (l.getD m 0) := by
  simp only [isHex, List.all_eq_true, decide_eq_true_eq] at ht
  have hml : m < l.length := by omega
  have hmem : l[m] ∈ l.take i := by
    have : (l.take i)[m]'(by simp; omega) = l[m] := List.getElem_take
    rw [← this]; exact List.getElem_mem _
  have := ht _ hmem
  rw [List.getD_eq_getElem?_getD, List.getElem?_eq_getElem hml]
  exact this

theorem unRow_all (l : List UInt8) (k : Nat) (hk : l.length = 2 * k) (hx : isHex l = true) (m : Nat) (hm : m < (unhexL l).length) : unRow l l.length m = .int .u8 ((unhexL l)[m].toNat : Int) := by
  rw [unhexL_length] at hm
  have h1 : 2 * m + 1 < l.length := by omega
  have hx' : isHex (l.take l.length) = true := by rw [List.take_length]; exact hx
  have a := isHex_at l l.length (2 * m) (by omega) (Nat.le_refl _) hx'
  have b := isHex_at l l.length (2 * m + 1) (by omega) (Nat.le_refl _) hx'
  have c := hexVal_lt (l.getD (2 * m) 0)
  have d := hexVal_lt (l.getD (2 * m + 1) 0)
  rw [unhexL_at l m (by rw [unhexL_length]; exact hm) h1]
  unfold unRow unCell
  rw [if_pos h1]
  rw [List.getD_eq_getElem?_getD, List.getElem?_eq_getElem (by omega)] at a c
  rw [List.getD_eq_getElem?_getD, List.getElem?_eq_getElem (by omega)] at b d
  rw [List.getD_eq_getElem?_getD, List.getD_eq_getElem?_getD, List.getElem?_eq_getElem (by omega), List.getElem?_eq_getElem (by omega)]
  simp only [Option.getD_some] at a b c d ⊢
  rw [UInt8.toNat_ofNat']
  congr 1
  omega

end Go.Proofs.Ytbnpocgmidnjcaa
