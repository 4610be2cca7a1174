/- One step of a range over a string, and the walk of lex.wordEnd: its contract. No condition but those that each states. -/
import Derived.Test.YtcfgngaabledpaaTnA
import Derived.Lib.OthersKept
import Derived.IntWalk
import Derived.Lib.Strings
import Derived.Lib.Hide
import Derived.WalkSmall
namespace Go.Proofs.Ytcfgngaabledpaa.Lx
open Go.RowKit
/-- Of the bytes from a place on a rune takes so many: one, if it is ASCII; else each of these is none. -/
structure Rune (T : List UInt8) (i : Nat) (r : Int) (k : Nat) : Prop where
  lt : i < T.length
  pos : 1 ≤ k
  le : i + k ≤ T.length
  is : (∃ c, T.drop i = c :: T.drop (i + 1) ∧ r = (c.toNat : Int) ∧ r < 128 ∧ k = 1) ∨ (128 ≤ r ∧ ∀ c ∈ (T.drop i).take k, 128 ≤ c.toNat)
theorem iter_step {P : Program} {wr : World} {t : ByteArray} {i b : Nat} (hit : wr.heap[b]? = some (.stringIter t i)) (hlt : i < t.size) :
    ∃ r k w1, Rune t.data.toList i r k ∧ (∀ ty, (Instr.next (.pointer (some ⟨b, 0, none⟩)) true ty).run P wr = .ok (.tuple #[.bool true, .int .i64 i, .int .i32 r]) w1) ∧ w1.heap[b]? = some (.stringIter t (i + k)) ∧ (∀ B w, B ≤ b → Below B w wr → Below B w w1) ∧ (∀ j, j ≠ b → w1.heap[j]? = wr.heap[j]?) ∧ w1.heap.size = wr.heap.size := by
  have hl : i < t.data.toList.length := by simpa using hlt
  refine ⟨_, _, _, ?_, fun ty => Lib.run_next_any_at wr _ t i ty hit hlt, Lib.iterAt_heap wr _ t i _ hit, fun B w hB hb => Lib.below_iterAt hb hB t _, fun j hj => Lib.iterAt_other wr _ _ t _ hj, Lib.iterAt_size _ _ _ _⟩
  by_cases ha : (t[i]'hlt).toNat < 128
  · rw [decode_ascii t i hlt ha]
    refine ⟨hl, Nat.le_refl _, hl, .inl ⟨t[i], ?_, rfl, by omega, rfl⟩⟩
    rw [List.drop_eq_getElem_cons hl]
    rfl
  · have h1 := decode_high t i hlt (by omega)
    obtain ⟨h2, h3, h4⟩ := decode_bytes t i hlt (by omega)
    refine ⟨hl, h2, by simpa using h3, .inr ⟨by have := h1.1; omega, h4⟩⟩
section
variable {T : List UInt8} {i k : Nat} {r : Int}
theorem Rune.first (h : Rune T i r k) (hr : r < 128) : ∃ c, T.drop i = c :: T.drop (i + 1) ∧ r = (c.toNat : Int) ∧ k = 1 := by
  rcases h.is with ⟨c, h1, h2, h3, h4⟩ | ⟨h1, h2⟩
  · exact ⟨c, h1, h2, h4⟩
  · omega
theorem Rune.head (h : Rune T i r k) : ∃ c, T.drop i = c :: T.drop (i + 1) ∧ (r < 128 → r = (c.toNat : Int) ∧ k = 1) ∧ (128 ≤ r → 128 ≤ c.toNat) := by
  have e := List.drop_eq_getElem_cons h.lt
  rcases h.is with ⟨c, h1, h2, h3, h4⟩ | ⟨h1, h2⟩
  · exact ⟨c, h1, fun _ => ⟨h2, h4⟩, fun _ => by omega⟩
  · refine ⟨_, e, fun _ => by omega, fun _ => h2 _ ?_⟩
    obtain ⟨k', rfl⟩ : ∃ k', k = k' + 1 := ⟨k - 1, by have := h.pos; omega⟩
    rw [e, List.take_succ_cons]
    exact List.mem_cons_self
theorem spanN_yes {p : UInt8 → Bool} {q : Int → Bool} (hp : ∀ c, p c = q (c.toNat : Int)) (hq : ∀ x, 128 ≤ x → q x = false) (h : Rune T i r k) (hr : q r = true) : k = 1 ∧ spanN p (T.drop i) = spanN p (T.drop (i + 1)) + 1 := by
  have hlt : r < 128 := by
    rcases Int.lt_or_le r 128 with h' | h'
    · exact h'
    · rw [hq r h'] at hr; cases hr
  obtain ⟨c, e, hc, hk⟩ := h.first hlt
  refine ⟨hk, ?_⟩
  rw [e, spanN, if_pos (by rw [hp, ← hc]; exact hr)]
theorem spanN_no {p : UInt8 → Bool} {q : Int → Bool} (hp : ∀ c, p c = q (c.toNat : Int)) (hq : ∀ x, 128 ≤ x → q x = false) (h : Rune T i r k) (hr : q r = false) : spanN p (T.drop i) = 0 := by
  obtain ⟨c, e, h1, h2⟩ := h.head
  have : p c = false := by
    rw [hp]
    rcases Int.lt_or_le r 128 with h' | h'
    · rw [← (h1 h').1]; exact hr
    · exact hq _ (by have := h2 h'; omega)
  rw [e, spanN, if_neg (by rw [this]; exact Bool.false_ne_true)]
end
theorem iter_old (w : World) (s : ByteArray) (pos j : Nat) (h : j < w.heap.size) : (w.iter s pos).heap[j]? = w.heap[j]? := by
  show (w.heap.push _)[j]? = _
  rw [Array.getElem?_push, if_neg (by omega)]
theorem below_iter {B : Nat} {a w : World} (h : Below B a w) (hB : B ≤ w.heap.size) (s : ByteArray) (pos : Nat) : Below B a (w.iter s pos) :=
  h.trans ⟨rfl, rfl, rfl, by show _ ≤ (w.heap.push _).size; simp, fun k hk => iter_old w s pos k (by omega)⟩
/-- What stands from a place on. -/
def from' (s : ByteArray) (a : Nat) : List UInt8 := s.data.toList.drop a
theorem extract_list (s : ByteArray) (a : Nat) : (s.extract a s.size).data.toList = from' s a := by
  rw [Lib.extract_data, List.take_of_length_le (by simp)]; rfl
theorem from_length (s : ByteArray) (a : Nat) : (from' s a).length = s.size - a := by simp [from']
theorem extract_size (s : ByteArray) (a : Nat) : (s.extract a s.size).size = s.size - a := by rw [Lib.size_eq, extract_list, from_length]
theorem from_drop (s : ByteArray) (a b : Nat) : (from' s a).drop b = from' s (a + b) := by unfold from'; rw [List.drop_drop]
theorem run_from {P : Program} (s : ByteArray) (a : Nat) (h : a ≤ s.size) (t : TypeId) (ht : P.underlying t = some .string) (W : World) : (Instr.slice t (.string s) (some (.int .i64 (a : Int))) none none).run P W = .ok (.string (s.extract a s.size)) W := by
  rw [run_slice_string_from_if W t s .i64 _ ht, if_pos ⟨by omega, by omega⟩]
  rfl
theorem spanN_nil (p : UInt8 → Bool) : spanN p [] = 0 := rfl
theorem rW_high (x : Int) (h : 128 ≤ x) : rW x = false := by unfold rW rL rD; simp; omega
theorem rD_high (x : Int) (h : 128 ≤ x) : rD x = false := by unfold rD; simp; omega
set_option maxHeartbeats 1000000 in
theorem wordEnd_any (s : ByteArray) (a : Nat) (w : World) (ha : a ≤ s.size) (hs : s.size ≤ 2 ^ 40) :
    Calls Try.prog 44 #[.string s, .int .i64 (a : Int)] w fun e w' => e = .returned (.int .i64 ((a + spanN isW (from' s a) : Nat) : Int)) ∧ Below w.heap.size w w' := by
  have hsl := fun W => run_from (P := Try.prog) s a ha 9 Try.underlying9 W
  have hsz := extract_size s a
  have hls := extract_list s a
  generalize s.extract a s.size = t at hsl hsz hls
  have HL := Lib.hid hls
  have hz : t.size ≤ s.size := by omega
  have HZ := Lib.hid hsz
  clear hsz hls
  go_enter Try.func44, Try.ntmps44
  go_wp2
  clear hsl
  go_loopw [5] (fun _ wr => ∃ (i : Nat), i ≤ t.size ∧ Hid (wr.heap[w.heap.size]? = some (.stringIter t i)) ∧ Hid (spanN isW t.data.toList = i + spanN isW (t.data.toList.drop i)) ∧ Hid (Below w.heap.size w wr)) (fun _ wr => t.size - wr.iterPos w.heap.size)
  case atStart => exact ⟨0, Nat.zero_le _, Lib.hid (World.iter_heap w t 0), Lib.hid (by simp), Lib.hid (below_iter (Below.refl _ _) (Nat.le_refl _) t 0)⟩
  case round =>
    obtain ⟨i, hi, hit, hsk, hbel⟩ := hrel
    by_cases hlt : i < t.size
    · obtain ⟨r, k, w1, hR, hn, hit1, hB1, -⟩ := iter_step (P := Try.prog) hit.out hlt
      have HB := Lib.hid (hB1 _ _ (Nat.le_refl _) hbel.out)
      have HI := Lib.hid hit1
      have HR := Lib.hid hR
      have hle : i + k ≤ t.size := by have := hR.le; simpa using this
      have hpos := hR.pos
      have HM : Hid (t.size - w1.iterPos w.heap.size < t.size - wr.iterPos w.heap.size) := Lib.hid (by rw [iterPos_of hit1, iterPos_of hit.out]; omega)
      clear hR hB1 hit1 hit hbel hpos
      have C := Lib.hid (fun W => digit_any r W)
      have CL := Lib.hid (fun W => letter_any r W)
      cases hb : rW r with
      | true =>
        have HS : Hid (k = 1 ∧ spanN isW t.data.toList = i + k + spanN isW (t.data.toList.drop (i + k))) := Lib.hid (by
          obtain ⟨rfl, h2⟩ := spanN_yes (p := isW) (fun _ => rfl) rW_high HR.out hb
          have := hsk.out
          exact ⟨rfl, by omega⟩)
        have HB2 := Lib.hid hb
        clear hsk hb
        rcases hl : rL r with _ | _
        · rcases hd : rD r with _ | _
          · have h95 : r = 95 := by have := HB2.out; unfold rW at this; rw [hl, hd] at this; simpa using this
            rw [hd] at C
            rw [hl] at CL
            clear hl hd
            subst h95
            go_wp2_with (first
          | (go_at_call 49; refine (C.out _).mono ?_; rintro e w' ⟨rfl, rfl⟩)
          | (go_at_call 43; refine (CL.out _).mono ?_; rintro e w' ⟨rfl, rfl⟩))
            go_roundw
            case rel => exact ⟨i + k, hle, HI, Lib.hid HS.out.2, HB⟩
            case measure => exact HM.out
          · rw [hd] at C
            rw [hl] at CL
            clear hl hd
            go_wp2_with (first
          | (go_at_call 49; refine (C.out _).mono ?_; rintro e w' ⟨rfl, rfl⟩)
          | (go_at_call 43; refine (CL.out _).mono ?_; rintro e w' ⟨rfl, rfl⟩))
            go_roundw
            case rel => exact ⟨i + k, hle, HI, Lib.hid HS.out.2, HB⟩
            case measure => exact HM.out
        · rw [hl] at CL
          clear hl
          go_wp2_with (first
          | (go_at_call 49; refine (C.out _).mono ?_; rintro e w' ⟨rfl, rfl⟩)
          | (go_at_call 43; refine (CL.out _).mono ?_; rintro e w' ⟨rfl, rfl⟩))
          go_roundw
          case rel => exact ⟨i + k, hle, HI, Lib.hid HS.out.2, HB⟩
          case measure => exact HM.out
      | false =>
        have HS : Hid (spanN isW t.data.toList = i) := Lib.hid (by have := spanN_no (p := isW) (fun _ => rfl) rW_high HR.out hb; have := hsk.out; omega)
        have h3 : rL r = false ∧ rD r = false ∧ r ≠ 95 := by
          unfold rW at hb
          rw [Bool.or_eq_false_iff, Bool.or_eq_false_iff] at hb
          exact ⟨hb.1.1, hb.1.2, by simpa using hb.2⟩
        obtain ⟨hl, hd, h95⟩ := h3
        rw [hd] at C
        rw [hl] at CL
        clear hsk hb hl hd
        go_wp2_with (first
          | (go_at_call 49; refine (C.out _).mono ?_; rintro e w' ⟨rfl, rfl⟩)
          | (go_at_call 43; refine (CL.out _).mono ?_; rintro e w' ⟨rfl, rfl⟩))
        go_ret
        refine ⟨?_, HB.out⟩
        rw [← HL.out, HS.out]
        simp
    · obtain rfl : i = t.size := by omega
      have hn := fun ty => Lib.run_next_end_at (P := Try.prog) wr w.heap.size t t.size ty hit.out (Nat.lt_irrefl _)
      have HS : Hid (spanN isW t.data.toList = t.size) := Lib.hid (by have := hsk.out; rw [List.drop_eq_nil_of_le (by simp)] at this; simpa [spanN] using this)
      clear hsk
      go_wp2
      go_ret
      refine ⟨?_, hbel.out⟩
      rw [← HL.out, HS.out, HZ.out, show a + (s.size - a) = s.size by omega]
      rfl
end Go.Proofs.Ytcfgngaabledpaa.Lx
