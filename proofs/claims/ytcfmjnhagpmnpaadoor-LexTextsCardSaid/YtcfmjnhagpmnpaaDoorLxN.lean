/- Plain facts on the scanner: what is written of tokens has the same tokens. No condition but those that each states. -/
import Derived.Test.YtcfmjnhagpmnpaaDoorLxM
namespace Go.Proofs.YtcfmjnhagpmnpaaDoor.Lx

/-- A token that is written as itself. -/
def Good (t : Tk) : Prop := ∃ k n : Nat, t.kind = (k : Int) ∧ t.n = (n : Int) ∧ (written t).length ≠ 0 ∧ (∀ rest, skipN false (written t ++ rest) = 0) ∧
  (∀ rest, oneL (written t ++ 32 :: rest) = .tok k t.text n (written t).length) ∧ oneL (written t) = .tok k t.text n (written t).length

theorem good_of {c : UInt8} {r : List UInt8} {k : Nat} {t : List UInt8} {n len : Nat} (h0 : skipN false (c :: r) = 0) (h : oneL (c :: r) = .tok k t n len) (p : Int) : Good ⟨k, t, n, p⟩ ∧ (written ⟨k, t, n, p⟩).length ≤ len := by
  have hlen := oneL_len _ _ _ _ _ h
  rcases one_text h with ⟨rfl, r', e, hq⟩ | ⟨hk, e, hn⟩
  · have hw : written ⟨(3 : Nat), t, n, p⟩ = quoteL t := if_pos (show ((3 : Nat) : Int) = 3 from rfl)
    have hn0 : n = 0 := by
      rw [e] at h
      rw [oneL, if_neg (by decide), if_neg (by decide), if_pos (by decide)] at h
      unfold textOf at h
      split at h
      · cases h
      · exact (One.tok.inj h).2.2.1.symm
    subst hn0
    refine ⟨⟨3, 0, rfl, rfl, ?_, ?_, ?_, ?_⟩, by rw [hw]; exact hq⟩
    · rw [hw, quoteL_length]; omega
    · intro rest
      rw [hw]
      exact skip_letter (c := 34) (.inr (.inr rfl)) _
    · intro rest; rw [hw]; exact oneL_quote t _
    · rw [hw]
      have := oneL_quote t []
      rwa [List.append_nil] at this
  · have hw : written ⟨(k : Nat), t, n, p⟩ = t := if_neg (show ¬(k : Int) = 3 by omega)
    have hs := one_self h hk
    have ht : t.length = len := by rw [e, List.length_take]; omega
    rw [← e] at hs
    obtain ⟨m, hm⟩ : ∃ m, len = m + 1 := ⟨len - 1, by omega⟩
    have ht2 : t = c :: r.take m := by rw [e, hm, List.take_succ_cons]
    rw [← ht] at hs
    refine ⟨⟨k, n, rfl, rfl, ?_, ?_, ?_, ?_⟩, by rw [hw]; omega⟩
    · rw [hw]; omega
    · intro rest
      rw [hw, ht2]
      exact skip_stop h0 _
    · intro rest; rw [hw]; exact one_app hs sep32 rest
    · rw [hw]; exact hs

theorem scans_good {p : Nat} {l : List UInt8} {ts : List Tk} (h : Scans p l ts) : (∀ t ∈ ts, Good t) ∧ (writeL ts).length + (if ts = [] then 0 else 1) ≤ 2 * l.length := by
  induction h with
  | done p l hd => exact ⟨fun t ht => (by cases ht), by simp [writeL, joinL]⟩
  | more p l c r k t n len ts hd ho hs ih =>
    have h0 := skip_idem false l
    rw [hd] at h0
    obtain ⟨g1, g2⟩ := good_of h0 ho ((p + skipN false l : Nat) : Int)
    have hlen := oneL_len _ _ _ _ _ ho
    have hl := congrArg List.length hd
    rw [List.length_drop, List.length_cons] at hl
    rw [List.length_cons] at hlen
    obtain ⟨i1, i2⟩ := ih
    rw [List.length_drop, List.length_cons] at i2
    refine ⟨fun u hu => ?_, ?_⟩
    · rcases List.mem_cons.1 hu with rfl | hu
      · exact g1
      · exact i1 u hu
    · rw [if_neg (by simp)]
      cases ts with
      | nil =>
        show (written _).length + 1 ≤ _
        omega
      | cons u us =>
        rw [if_neg (by simp)] at i2
        show (written _ ++ 32 :: writeL (u :: us)).length + 1 ≤ _
        rw [List.length_append, List.length_cons]
        omega

/-- Alike but for the places. -/
def key3 (t : Tk) : Int × List UInt8 × Int := (t.kind, t.text, t.n)
def Alike (a b : List Tk) : Prop := a.map key3 = b.map key3

theorem scan_blank (p : Nat) (l : List UInt8) : scanL p (32 :: l) = scanL (p + 1) l := by
  rw [scanL_at, scanL_at]
  have : skipN false (32 :: l) = skipN false l + 1 := by rw [skipN, if_neg (by decide), if_pos (by decide)]
  rw [this, List.drop_succ_cons]
  congr 1
  omega

theorem write_scan : ∀ (ts : List Tk), (∀ t ∈ ts, Good t) → ∀ p, ∃ us, scanL p (writeL ts) = .toks us ∧ Alike us ts
  | [], _, p => ⟨[], rfl, rfl⟩
  | [t], h, p => by
    obtain ⟨k, n, hk, hn, h0, h1, h2, h3⟩ := h t (by simp)
    have h1' := h1 []
    rw [List.append_nil] at h1'
    refine ⟨[⟨k, t.text, n, p⟩], ?_, ?_⟩
    · show scanL p (written t) = _
      rw [scanL_step h1' h3, List.drop_length, scanL_nil]; rfl
    · unfold Alike key3
      simp [hk, hn]
  | t :: u :: ts, h, p => by
    obtain ⟨k, n, hk, hn, h0, h1, h2, h3⟩ := h t (by simp)
    obtain ⟨us, i1, i2⟩ := write_scan (u :: ts) (fun x hx => h x (by simp [hx])) (p + (written t).length + 1)
    refine ⟨⟨k, t.text, n, p⟩ :: us, ?_, ?_⟩
    · show scanL p (written t ++ 32 :: writeL (u :: ts)) = _
      rw [scanL_step (h1 _) (h2 _), List.drop_left, scan_blank, i1]; rfl
    · unfold Alike at i2 ⊢
      rw [List.map_cons, i2]
      unfold key3
      simp [hk, hn]

theorem written_key {a b : Tk} (h : key3 a = key3 b) : written a = written b := by
  unfold key3 at h
  obtain ⟨h1, h2⟩ := Prod.mk.inj h
  obtain ⟨h3, h4⟩ := Prod.mk.inj h2
  unfold written
  rw [h1, h3]
theorem map_written : ∀ (a b : List Tk), Alike a b → a.map written = b.map written
  | [], [], _ => rfl
  | [], _ :: _, h => by unfold Alike at h; simp at h
  | _ :: _, [], h => by unfold Alike at h; simp at h
  | x :: a, y :: b, h => by
    unfold Alike at h
    rw [List.map_cons, List.map_cons] at h
    obtain ⟨h1, h2⟩ := List.cons.inj h
    rw [List.map_cons, List.map_cons, written_key h1, map_written a b h2]
theorem write_alike {a b : List Tk} (h : Alike a b) : writeL a = writeL b := by unfold writeL; rw [map_written a b h]

end Go.Proofs.YtcfmjnhagpmnpaaDoor.Lx
