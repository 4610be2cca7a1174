/- One step of a range over a string, and the walks of lex; Contracts of the library, of the shelf, at this dump. No condition but those that each states. -/
import Derived.Test.YtmljjpdodcpohaaGreatDoorMgAA
import Derived.Lib.OthersKept
import Derived.IntWalk
import Derived.Lib.Strings
import Derived.Lib.Hide
import Derived.WalkSmall
import Derived.Shelf.Strings.OnBuilder
import Derived.Shelf.Small.Strs
import Derived.Shelf.Strings.Prefix
import Derived.Shelf.Strconv.ErrVarParseInt
import Derived.Test.YtmljjpdodcpohaaGreatDoorChecked
namespace Go.Proofs.YtmljjpdodcpohaaGreatDoor.Lx
open Lib (hid)
set_option maxHeartbeats 1000000
open Go.RowKit
structure Rune (T : List UInt8) (i : Nat) (r : Int) (k : Nat) : Prop where
  lt : i < T.length
  pos : 1 ≤ k
  le : i + k ≤ T.length
  is : (∃ c, T.drop i = c :: T.drop (i + 1) ∧ r = (c.toNat : Int) ∧ r < 128 ∧ k = 1) ∨ (128 ≤ r ∧ ∀ c ∈ (T.drop i).take k, 128 ≤ c.toNat)
theorem iter_step {P : Program} {wr : World} {t : ByteArray} {i b : Nat} (hit : wr.heap[b]? = some (.stringIter t i)) (hlt : i < t.size) :
    ∃ r k w1, Rune t.data.toList i r k ∧ (∀ ty, (Instr.next (.pointer (some ⟨b, 0, none⟩)) true ty).run P wr = .ok (.tuple #[.bool true, .int .i64 i, .int .i32 r]) w1) ∧ w1.heap[b]? = some (.stringIter t (i + k)) ∧ (∀ B w, B ≤ b → Below B w wr → Below B w w1) ∧ (∀ j, j ≠ b → w1.heap[j]? = wr.heap[j]?) ∧ w1.heap.size = wr.heap.size := by
  have hl : i < t.data.toList.length := by simpa using hlt
  refine ⟨_, _, _, ?_, fun ty => Lib.run_next_any_at wr _ t i ty hit hlt, Lib.iterAt_heap wr _ t i _ hit, fun B w hB hb => Lib.below_iterAt hb hB t _, fun j hj => Lib.iterAt_other wr _ _ t _ hj, Lib.iterAt_size _ _ _ _⟩; by_cases ha : (t[i]'hlt).toNat < 128
  · rw [decode_ascii t i hlt ha]
    refine ⟨hl, Nat.le_refl _, hl, .inl ⟨t[i], ?_, rfl, by omega, rfl⟩⟩; rw [List.drop_eq_getElem_cons hl]; rfl
  · have h1 := decode_high t i hlt (by omega)
    obtain ⟨h2, h3, h4⟩ := decode_bytes t i hlt (by omega); refine ⟨hl, h2, by simpa using h3, .inr ⟨by have := h1.1; omega, h4⟩⟩
section
variable {T : List UInt8} {i k : Nat} {r : Int}
theorem Rune.first (h : Rune T i r k) (hr : r < 128) : ∃ c, T.drop i = c :: T.drop (i + 1) ∧ r = (c.toNat : Int) ∧ k = 1 := by
  rcases h.is with ⟨c, h1, h2, h3, h4⟩ | ⟨h1, h2⟩
  · exact ⟨c, h1, h2, h4⟩
  · omega
theorem Rune.head (h : Rune T i r k) : ∃ c, T.drop i = c :: T.drop (i + 1) ∧ (r < 128 → r = (c.toNat : Int) ∧ k = 1) ∧ (128 ≤ r → 128 ≤ c.toNat) := by
  have e := List.drop_eq_getElem_cons h.lt; rcases h.is with ⟨c, h1, h2, h3, h4⟩ | ⟨h1, h2⟩
  · exact ⟨c, h1, fun _ => ⟨h2, h4⟩, fun _ => by omega⟩
  · refine ⟨_, e, fun _ => by omega, fun _ => h2 _ ?_⟩
    obtain ⟨k', rfl⟩ : ∃ k', k = k' + 1 := ⟨k - 1, by have := h.pos; omega⟩
    rw [e, List.take_succ_cons]; exact List.mem_cons_self
theorem spanN_yes {p : UInt8 → Bool} {q : Int → Bool} (hp : ∀ c, p c = q (c.toNat : Int)) (hq : ∀ x, 128 ≤ x → q x = false) (h : Rune T i r k) (hr : q r = true) : k = 1 ∧ spanN p (T.drop i) = spanN p (T.drop (i + 1)) + 1 := by
  have hlt : r < 128 := by
    rcases Int.lt_or_le r 128 with h' | h'
    · exact h'
    · rw [hq r h'] at hr; cases hr
  obtain ⟨c, e, hc, hk⟩ := h.first hlt; refine ⟨hk, ?_⟩; rw [e, spanN, if_pos (by rw [hp, ← hc]; exact hr)]
theorem spanN_no {p : UInt8 → Bool} {q : Int → Bool} (hp : ∀ c, p c = q (c.toNat : Int)) (hq : ∀ x, 128 ≤ x → q x = false) (h : Rune T i r k) (hr : q r = false) : spanN p (T.drop i) = 0 := by
  obtain ⟨c, e, h1, h2⟩ := h.head
  have : p c = false := by
    rw [hp]; rcases Int.lt_or_le r 128 with h' | h'
    · rw [← (h1 h').1]; exact hr
    · exact hq _ (by have := h2 h'; omega)
  rw [e, spanN, if_neg (by rw [this]; exact Bool.false_ne_true)]
theorem skipN_high : ∀ (l : List UInt8) (k : Nat), k ≤ l.length → (∀ c ∈ l.take k, 128 ≤ c.toNat) → skipN true l = skipN true (l.drop k) + k
  | l, 0, _, _ => by simp
  | [], k + 1, h, _ => by simp at h
  | c :: l, k + 1, h, h' => by
    have hc := h' c (by simp); rw [skipN, show decide (c.toNat ≠ 10) = true by simp; omega, skipN_high l k (by simpa using h) (fun x hx => h' x (by simp [hx]))]
    simp; omega
theorem skipN_in (h : Rune T i r k) (hr : r ≠ 10) : skipN true (T.drop i) = skipN true (T.drop (i + k)) + k := by
  rcases h.is with ⟨c, e, h2, h3, rfl⟩ | ⟨h1, h2⟩
  · rw [e, skipN, show decide (c.toNat ≠ 10) = true by simp; omega]
  · rw [skipN_high (T.drop i) k (by rw [List.length_drop]; have := h.le; omega) h2, List.drop_drop]
theorem skipN_out (h : Rune T i r k) (hr : r = 10) : skipN true (T.drop i) = skipN false (T.drop (i + k)) + k := by
  obtain ⟨c, e, hc, rfl⟩ := h.first (by omega); rw [e, skipN, show decide (c.toNat ≠ 10) = false by simp; omega]
theorem skipN_hash (h : Rune T i r k) (hr : r = 35) : skipN false (T.drop i) = skipN true (T.drop (i + k)) + k := by
  obtain ⟨c, e, hc, rfl⟩ := h.first (by omega); rw [e, skipN, if_pos (by omega)]
theorem rB_high {x : Int} (h : 14 ≤ x) (h' : x ≠ 32) : rB x = false := by unfold rB; simp; omega
theorem skipN_blank (h : Rune T i r k) (h35 : r ≠ 35) (hr : rB r = true) : skipN false (T.drop i) = skipN false (T.drop (i + k)) + k := by
  have hlt : r < 128 := by
    rcases Int.lt_or_le r 128 with h' | h'
    · exact h'
    · rw [rB_high (by omega) (by omega)] at hr; cases hr
  obtain ⟨c, e, hc, rfl⟩ := h.first hlt; rw [e, skipN, if_neg (by omega), if_pos (by unfold isB; rw [← hc]; exact hr)]
theorem skipN_stop (h : Rune T i r k) (h35 : r ≠ 35) (hr : rB r = false) : skipN false (T.drop i) = 0 := by
  obtain ⟨c, e, h1, h2⟩ := h.head
  have n1 : ¬c.toNat = 35 := by
    rcases Int.lt_or_le r 128 with h' | h'
    · have := h1 h'; omega
    · have := h2 h'; omega
  have n2 : isB c = false := by
    unfold isB; rcases Int.lt_or_le r 128 with h' | h'
    · rw [← (h1 h').1]; exact hr
    · have := h2 h'; exact rB_high (by omega) (by omega)
  rw [e, skipN, if_neg n1, if_neg (by rw [n2]; exact Bool.false_ne_true)]
end
theorem iter_old (w : World) (s : ByteArray) (pos j : Nat) (h : j < w.heap.size) : (w.iter s pos).heap[j]? = w.heap[j]? := by
  show (w.heap.push _)[j]? = _
  rw [Array.getElem?_push, if_neg (by omega)]
theorem below_iter {B : Nat} {a w : World} (h : Below B a w) (hB : B ≤ w.heap.size) (s : ByteArray) (pos : Nat) : Below B a (w.iter s pos) :=
  h.trans ⟨rfl, rfl, rfl, by show _ ≤ (w.heap.push _).size; simp, fun k hk => iter_old w s pos k (by omega)⟩
def from' (s : ByteArray) (a : Nat) : List UInt8 := s.data.toList.drop a
theorem extract_list (s : ByteArray) (a : Nat) : (s.extract a s.size).data.toList = from' s a := by
  rw [Lib.extract_data, List.take_of_length_le (by simp)]; rfl
theorem from_length (s : ByteArray) (a : Nat) : (from' s a).length = s.size - a := by simp [from']
theorem extract_size (s : ByteArray) (a : Nat) : (s.extract a s.size).size = s.size - a := by rw [Lib.size_eq, extract_list, from_length]
theorem from_drop (s : ByteArray) (a b : Nat) : (from' s a).drop b = from' s (a + b) := by unfold from'; rw [List.drop_drop]
theorem run_from {P : Program} (s : ByteArray) (a : Nat) (h : a ≤ s.size) (t : TypeId) (ht : P.underlying t = some .string) (W : World) : (Instr.slice t (.string s) (some (.int .i64 (a : Int))) none none).run P W = .ok (.string (s.extract a s.size)) W := by
  rw [run_slice_string_from_if W t s .i64 _ ht, if_pos ⟨by omega, by omega⟩]; rfl
theorem skip_any (s : ByteArray) (a : Nat) (w : World) (ha : a ≤ s.size) (hs : s.size ≤ 2 ^ 40) :
    Calls Tryz.prog 84 #[.string s, .int .i64 (a : Int)] w fun e w' => e = .returned (.int .i64 ((a + skipN false (from' s a) : Nat) : Int)) ∧ Below w.heap.size w w' := by
  have hsl := fun W => run_from (P := Tryz.prog) s a ha 9 Tryz.underlying9 W
  have hsz := extract_size s a; have hls := extract_list s a; generalize s.extract a s.size = t at hsl hsz hls; have HL := hid hls; have hz : t.size ≤ s.size := by omega
  have HZ := hid hsz; clear hsz hls; go_enter Tryz.func84, Tryz.ntmps84
  go_wp2; clear hsl; go_loopw [5] (fun vb wr => ∃ (i : Nat) (b : Bool), i ≤ t.size ∧ vb = .bool b ∧ Hid (wr.heap[w.heap.size]? = some (.stringIter t i)) ∧ Hid (skipN false t.data.toList = i + skipN b (t.data.toList.drop i)) ∧ Hid (Below w.heap.size w wr)) (fun _ wr => t.size - wr.iterPos w.heap.size)
  case atStart => exact ⟨0, false, Nat.zero_le _, rfl, hid (World.iter_heap w t 0), hid (by simp), hid (below_iter (Below.refl _ _) (Nat.le_refl _) t 0)⟩
  case round =>
    obtain ⟨i, b, hi, rfl, hit, hsk, hbel⟩ := hrel; by_cases hlt : i < t.size
    · obtain ⟨r, k, w1, hR, hn, hit1, hB1, -⟩ := iter_step (P := Tryz.prog) hit.out hlt
      have HB := hid (hB1 _ _ (Nat.le_refl _) hbel.out); have HI := hid hit1; have HR := hid hR; have hle : i + k ≤ t.size := by have := hR.le; simpa using this
      have hpos := hR.pos; have HM : Hid (t.size - w1.iterPos w.heap.size < t.size - wr.iterPos w.heap.size) := hid (by rw [iterPos_of hit1, iterPos_of hit.out]; omega)
      clear hR hB1 hit1 hit hbel hpos; cases b with
      | true =>
        by_cases h10 : r = 10
        · have HS : Hid (skipN false t.data.toList = i + k + skipN false (t.data.toList.drop (i + k))) := hid (by have := skipN_out HR.out h10; have := hsk.out; omega)
          clear hsk; go_wp2; go_roundw
          case rel => exact ⟨i + k, false, hle, rfl, HI, HS, HB⟩
          case measure => exact HM.out
        · have HS : Hid (skipN false t.data.toList = i + k + skipN true (t.data.toList.drop (i + k))) := hid (by have := skipN_in HR.out h10; have := hsk.out; omega)
          clear hsk; go_wp2; go_roundw
          case rel => exact ⟨i + k, true, hle, by simp [h10], HI, HS, HB⟩
          case measure => exact HM.out
      | false =>
        by_cases h35 : r = 35
        · have HS : Hid (skipN false t.data.toList = i + k + skipN true (t.data.toList.drop (i + k))) := hid (by have := skipN_hash HR.out h35; have := hsk.out; omega)
          clear hsk; go_wp2; go_roundw
          case rel => exact ⟨i + k, true, hle, rfl, HI, HS, HB⟩
          case measure => exact HM.out
        · cases hb : rB r with
          | true =>
            have HS : Hid (skipN false t.data.toList = i + k + skipN false (t.data.toList.drop (i + k))) := hid (by have := skipN_blank HR.out h35 hb; have := hsk.out; omega)
            have C := hid (fun W => blank_any r W); rw [hb] at C; clear hsk hb; go_wp2_with (go_at_call 137; refine (C.out _).mono ?_; rintro e w' ⟨rfl, rfl⟩)
            go_roundw
            case rel => exact ⟨i + k, false, hle, rfl, HI, HS, HB⟩
            case measure => exact HM.out
          | false =>
            have HS : Hid (skipN false t.data.toList = i) := hid (by have := skipN_stop HR.out h35 hb; have := hsk.out; omega)
            have C := hid (fun W => blank_any r W); rw [hb] at C; clear hsk hb; go_wp2_with (go_at_call 137; refine (C.out _).mono ?_; rintro e w' ⟨rfl, rfl⟩)
            go_ret; refine ⟨?_, HB.out⟩; rw [← HL.out, HS.out]; simp
    · obtain rfl : i = t.size := by omega
      have hn := fun ty => Lib.run_next_end_at (P := Tryz.prog) wr w.heap.size t t.size ty hit.out (Nat.lt_irrefl _)
      have HS : Hid (skipN false t.data.toList = t.size) := hid (by have := hsk.out; rw [List.drop_eq_nil_of_le (by simp)] at this; simpa [skipN] using this)
      clear hsk; go_wp2; go_ret; refine ⟨?_, hbel.out⟩; rw [← HL.out, HS.out, HZ.out, show a + (s.size - a) = s.size by omega]; rfl
theorem rW_high (x : Int) (h : 128 ≤ x) : rW x = false := by unfold rW rL rD; simp; omega
theorem rD_high (x : Int) (h : 128 ≤ x) : rD x = false := by unfold rD; simp; omega
theorem digitsEnd_any (s : ByteArray) (a : Nat) (w : World) (ha : a ≤ s.size) (hs : s.size ≤ 2 ^ 40) :
    Calls Tryz.prog 176 #[.string s, .int .i64 (a : Int)] w fun e w' => e = .returned (.int .i64 ((a + spanN isD (from' s a) : Nat) : Int)) ∧ Below w.heap.size w w' := by
  have hsl := fun W => run_from (P := Tryz.prog) s a ha 9 Tryz.underlying9 W
  have hsz := extract_size s a; have hls := extract_list s a; generalize s.extract a s.size = t at hsl hsz hls; have HL := hid hls; have hz : t.size ≤ s.size := by omega
  have HZ := hid hsz; clear hsz hls; go_enter Tryz.func176, Tryz.ntmps176
  go_wp2; clear hsl; go_loopw [5] (fun _ wr => ∃ (i : Nat), i ≤ t.size ∧ Hid (wr.heap[w.heap.size]? = some (.stringIter t i)) ∧ Hid (spanN isD t.data.toList = i + spanN isD (t.data.toList.drop i)) ∧ Hid (Below w.heap.size w wr)) (fun _ wr => t.size - wr.iterPos w.heap.size)
  case atStart => exact ⟨0, Nat.zero_le _, hid (World.iter_heap w t 0), hid (by simp), hid (below_iter (Below.refl _ _) (Nat.le_refl _) t 0)⟩
  case round =>
    obtain ⟨i, hi, hit, hsk, hbel⟩ := hrel; by_cases hlt : i < t.size
    · obtain ⟨r, k, w1, hR, hn, hit1, hB1, -⟩ := iter_step (P := Tryz.prog) hit.out hlt
      have HB := hid (hB1 _ _ (Nat.le_refl _) hbel.out); have HI := hid hit1; have HR := hid hR; have hle : i + k ≤ t.size := by have := hR.le; simpa using this
      have hpos := hR.pos; have HM : Hid (t.size - w1.iterPos w.heap.size < t.size - wr.iterPos w.heap.size) := hid (by rw [iterPos_of hit1, iterPos_of hit.out]; omega)
      clear hR hB1 hit1 hit hbel hpos; have C := hid (fun W => digit_any r W); cases hb : rD r with
      | true =>
        have HS : Hid (k = 1 ∧ spanN isD t.data.toList = i + k + spanN isD (t.data.toList.drop (i + k))) := hid (by
          obtain ⟨rfl, h2⟩ := spanN_yes (p := isD) (fun _ => rfl) rD_high HR.out hb; have := hsk.out
          exact ⟨rfl, by omega⟩)
        rw [hb] at C; clear hsk hb; go_wp2_with (go_at_call 140; refine (C.out _).mono ?_; rintro e w' ⟨rfl, rfl⟩)
        go_roundw
        case rel => exact ⟨i + k, hle, HI, hid HS.out.2, HB⟩
        case measure => exact HM.out
      | false =>
        have HS : Hid (spanN isD t.data.toList = i) := hid (by have := spanN_no (p := isD) (fun _ => rfl) rD_high HR.out hb; have := hsk.out; omega)
        rw [hb] at C; clear hsk hb; go_wp2_with (go_at_call 140; refine (C.out _).mono ?_; rintro e w' ⟨rfl, rfl⟩)
        go_ret; refine ⟨?_, HB.out⟩; rw [← HL.out, HS.out]; simp
    · obtain rfl : i = t.size := by omega
      have hn := fun ty => Lib.run_next_end_at (P := Tryz.prog) wr w.heap.size t t.size ty hit.out (Nat.lt_irrefl _)
      have HS : Hid (spanN isD t.data.toList = t.size) := hid (by have := hsk.out; rw [List.drop_eq_nil_of_le (by simp)] at this; simpa [spanN] using this)
      clear hsk; go_wp2; go_ret; refine ⟨?_, hbel.out⟩; rw [← HL.out, HS.out, HZ.out, show a + (s.size - a) = s.size by omega]; rfl
theorem wordEnd_any (s : ByteArray) (a : Nat) (w : World) (ha : a ≤ s.size) (hs : s.size ≤ 2 ^ 40) :
    Calls Tryz.prog 156 #[.string s, .int .i64 (a : Int)] w fun e w' => e = .returned (.int .i64 ((a + spanN isW (from' s a) : Nat) : Int)) ∧ Below w.heap.size w w' := by
  have hsl := fun W => run_from (P := Tryz.prog) s a ha 9 Tryz.underlying9 W
  have hsz := extract_size s a; have hls := extract_list s a; generalize s.extract a s.size = t at hsl hsz hls; have HL := hid hls; have hz : t.size ≤ s.size := by omega
  have HZ := hid hsz; clear hsz hls; go_enter Tryz.func156, Tryz.ntmps156
  go_wp2; clear hsl; go_loopw [5] (fun _ wr => ∃ (i : Nat), i ≤ t.size ∧ Hid (wr.heap[w.heap.size]? = some (.stringIter t i)) ∧ Hid (spanN isW t.data.toList = i + spanN isW (t.data.toList.drop i)) ∧ Hid (Below w.heap.size w wr)) (fun _ wr => t.size - wr.iterPos w.heap.size)
  case atStart => exact ⟨0, Nat.zero_le _, hid (World.iter_heap w t 0), hid (by simp), hid (below_iter (Below.refl _ _) (Nat.le_refl _) t 0)⟩
  case round =>
    obtain ⟨i, hi, hit, hsk, hbel⟩ := hrel; by_cases hlt : i < t.size
    · obtain ⟨r, k, w1, hR, hn, hit1, hB1, -⟩ := iter_step (P := Tryz.prog) hit.out hlt
      have HB := hid (hB1 _ _ (Nat.le_refl _) hbel.out); have HI := hid hit1; have HR := hid hR; have hle : i + k ≤ t.size := by have := hR.le; simpa using this
      have hpos := hR.pos; have HM : Hid (t.size - w1.iterPos w.heap.size < t.size - wr.iterPos w.heap.size) := hid (by rw [iterPos_of hit1, iterPos_of hit.out]; omega)
      clear hR hB1 hit1 hit hbel hpos; have C := hid (fun W => digit_any r W); have CL := hid (fun W => letter_any r W); cases hb : rW r with
      | true =>
        have HS : Hid (k = 1 ∧ spanN isW t.data.toList = i + k + spanN isW (t.data.toList.drop (i + k))) := hid (by
          obtain ⟨rfl, h2⟩ := spanN_yes (p := isW) (fun _ => rfl) rW_high HR.out hb; have := hsk.out
          exact ⟨rfl, by omega⟩)
        have HB2 := hid hb; clear hsk hb; rcases hl : rL r with _ | _
        · rcases hd : rD r with _ | _
          · have h95 : r = 95 := by have := HB2.out; unfold rW at this; rw [hl, hd] at this; simpa using this
            rw [hd] at C; rw [hl] at CL; clear hl hd; subst h95
            go_wp2_with (first
          | (go_at_call 140; refine (C.out _).mono ?_; rintro e w' ⟨rfl, rfl⟩)
          | (go_at_call 138; refine (CL.out _).mono ?_; rintro e w' ⟨rfl, rfl⟩))
            go_roundw
            case rel => exact ⟨i + k, hle, HI, hid HS.out.2, HB⟩
            case measure => exact HM.out
          · rw [hd] at C
            rw [hl] at CL; clear hl hd
            go_wp2_with (first
          | (go_at_call 140; refine (C.out _).mono ?_; rintro e w' ⟨rfl, rfl⟩)
          | (go_at_call 138; refine (CL.out _).mono ?_; rintro e w' ⟨rfl, rfl⟩))
            go_roundw
            case rel => exact ⟨i + k, hle, HI, hid HS.out.2, HB⟩
            case measure => exact HM.out
        · rw [hl] at CL
          clear hl
          go_wp2_with (first
          | (go_at_call 140; refine (C.out _).mono ?_; rintro e w' ⟨rfl, rfl⟩)
          | (go_at_call 138; refine (CL.out _).mono ?_; rintro e w' ⟨rfl, rfl⟩))
          go_roundw
          case rel => exact ⟨i + k, hle, HI, hid HS.out.2, HB⟩
          case measure => exact HM.out
      | false =>
        have HS : Hid (spanN isW t.data.toList = i) := hid (by have := spanN_no (p := isW) (fun _ => rfl) rW_high HR.out hb; have := hsk.out; omega)
        have h3 : rL r = false ∧ rD r = false ∧ r ≠ 95 := by
          unfold rW at hb; rw [Bool.or_eq_false_iff, Bool.or_eq_false_iff] at hb; exact ⟨hb.1.1, hb.1.2, by simpa using hb.2⟩
        obtain ⟨hl, hd, h95⟩ := h3; rw [hd] at C; rw [hl] at CL; clear hsk hb hl hd
        go_wp2_with (first
          | (go_at_call 140; refine (C.out _).mono ?_; rintro e w' ⟨rfl, rfl⟩)
          | (go_at_call 138; refine (CL.out _).mono ?_; rintro e w' ⟨rfl, rfl⟩))
        go_ret; refine ⟨?_, HB.out⟩; rw [← HL.out, HS.out]; simp
    · obtain rfl : i = t.size := by omega
      have hn := fun ty => Lib.run_next_end_at (P := Tryz.prog) wr w.heap.size t t.size ty hit.out (Nat.lt_irrefl _)
      have HS : Hid (spanN isW t.data.toList = t.size) := hid (by have := hsk.out; rw [List.drop_eq_nil_of_le (by simp)] at this; simpa [spanN] using this)
      clear hsk; go_wp2; go_ret; refine ⟨?_, hbel.out⟩; rw [← HL.out, HS.out, HZ.out, show a + (s.size - a) = s.size by omega]; rfl
end Go.Proofs.YtmljjpdodcpohaaGreatDoor.Lx

namespace Go.Proofs.YtmljjpdodcpohaaGreatDoor.Lx
open Go.Shelf
def lays156_ren : Go.Shelf.Ren := ⟨fun | 156 => 73 | 165 => 112 | 166 => 113 | 169 => 114 | 240 => 161 | 241 => 162 | 276 => 192 | 277 => 193 | n => n, fun | 31 => 83 | 9 => 9 | 3 => 3 | 4 => 4 | 0 => 0 | 20 => 20 | 72 => 148 | 76 => 151 | 70 => 146 | 37 => 63 | 75 => 150 | 127 => 181 | 164 => 203 | 5 => 5 | 80 => 153 | n => n, fun | n => n⟩
theorem lays156 : Go.Proofs.Lays.n156 Tryz.prog lays156_ren := {
  mixed := by kernel_rfl
  f156 := Tryz.func73.trans (congrArg some (by kernel_rfl))
  f165 := Tryz.func112.trans (congrArg some (by kernel_rfl))
  f166 := Tryz.func113.trans (congrArg some (by kernel_rfl))
  f169 := Tryz.func114.trans (congrArg some (by kernel_rfl))
  f240 := Tryz.func161.trans (congrArg some (by kernel_rfl))
  f241 := Tryz.func162.trans (congrArg some (by kernel_rfl))
  f276 := Tryz.func192.trans (congrArg some (by kernel_rfl))
  f277 := Tryz.func193.trans (congrArg some (by kernel_rfl))
  t0 := Tryz.underlying0
  a0 := Tryz.isAgg0
  z0 := Tryz.sizeOf0
  v0 := Tryz.zeroValue0
  t3 := Tryz.underlying3
  a3 := Tryz.isAgg3
  z3 := Tryz.sizeOf3
  v3 := Tryz.zeroValue3
  t4 := Tryz.underlying4
  a4 := Tryz.isAgg4
  z4 := Tryz.sizeOf4
  v4 := Tryz.zeroValue4
  t9 := Tryz.underlying9
  a9 := Tryz.isAgg9
  z9 := Tryz.sizeOf9
  v9 := Tryz.zeroValue9
  t20 := Tryz.underlying20
  a20 := Tryz.isAgg20
  z20 := Tryz.sizeOf20
  v20 := Tryz.zeroValue20
  t31 := Tryz.underlying83
  a31 := Tryz.isAgg83
  z31 := Tryz.sizeOf83
  v31 := Tryz.zeroValue83
  t37 := Tryz.underlying63
  a37 := Tryz.isAgg63
  z37 := Tryz.sizeOf63
  v37 := Tryz.zeroValue63
  t70 := Tryz.underlying146
  a70 := Tryz.isAgg146
  z70 := Tryz.sizeOf146
  v70 := Tryz.zeroValue146
  t72 := Tryz.underlying148
  a72 := Tryz.isAgg148
  z72 := Tryz.sizeOf148
  v72 := Tryz.zeroValue148
  t75 := Tryz.underlying150
  a75 := Tryz.isAgg150
  z75 := Tryz.sizeOf150
  v75 := Tryz.zeroValue150
  t76 := Tryz.underlying151
  a76 := Tryz.isAgg151
  z76 := Tryz.sizeOf151
  v76 := Tryz.zeroValue151
  t127 := Tryz.underlying181
  a127 := Tryz.isAgg181
  z127 := Tryz.sizeOf181
  v127 := Tryz.zeroValue181
  t164 := Tryz.underlying203
  a164 := Tryz.isAgg203
  z164 := Tryz.sizeOf203
  v164 := Tryz.zeroValue203 }
theorem Builder_Extra_156 : Builder.Extra Tryz.prog lays156_ren := {
  sizeBuilder := by kernel_rfl
  liesBuilder := by kernel_rfl
  t5 := Tryz.underlying5
  a5 := Tryz.isAgg5
  z5 := Tryz.sizeOf5
  v5 := Tryz.zeroValue5
  infoByte := by kernel_rfl
  cellsByte := by kernel_rfl
  sizeByte := by kernel_rfl
  neB5 := by decide }
open Go.RowKit in
theorem strings_Join_none (a : Option Addr) (c : Nat) (sep : ByteArray) (w : World) :
    Calls Tryz.prog 73 #[.slice a 0 c, .string sep] w fun e w' => e = .returned (.string ⟨#[]⟩) ∧ w' = w := Any.strings_Join_none lays156 Builder_Extra_156 a c sep w
open Go.RowKit in
theorem strings_Join (bk o c : Nat) (xs : List ByteArray) (sep : ByteArray) (w : World) (hcells : ∀ (j : Nat) x, xs[j]? = some x → w.cell? ⟨bk, o + j, none⟩ = some (.string x)) (hbk : bk < w.heap.size) (hN : xs.length ≤ 140737488355328) (hcap : xs.length ≤ c) (hlen : (Lib.join (xs.map (·.data.toList)) sep.data.toList).length ≤ 140737488355328) :
    Calls Tryz.prog 73 #[.slice (some ⟨bk, o, none⟩) xs.length c, .string sep] w fun e w' => e = .returned (.string ⟨(Lib.join (xs.map (·.data.toList)) sep.data.toList).toArray⟩) ∧ Below w.heap.size w w' := Any.strings_Join lays156 Builder_Extra_156 bk o c xs sep w hcells hbk hN hcap hlen
def lays137_ren : Go.Shelf.Ren := ⟨fun | 137 => 206 | 217 => 228 | 266 => 243 | n => n, fun | 9 => 9 | 5 => 5 | 3 => 3 | n => n, fun | n => n⟩
theorem lays137 : Go.Proofs.Lays.n137 Tryz.prog lays137_ren := {
  mixed := by kernel_rfl
  f137 := Tryz.func206.trans (congrArg some (by kernel_rfl))
  f217 := Tryz.func228.trans (congrArg some (by kernel_rfl))
  f266 := Tryz.func243.trans (congrArg some (by kernel_rfl))
  t3 := Tryz.underlying3
  a3 := Tryz.isAgg3
  z3 := Tryz.sizeOf3
  v3 := Tryz.zeroValue3
  t5 := Tryz.underlying5
  a5 := Tryz.isAgg5
  z5 := Tryz.sizeOf5
  v5 := Tryz.zeroValue5
  t9 := Tryz.underlying9
  a9 := Tryz.isAgg9
  z9 := Tryz.sizeOf9
  v9 := Tryz.zeroValue9 }
open Go.RowKit in
theorem strings_IndexByte (s : ByteArray) (c : Int) (w : World) :
    Calls Tryz.prog 206 #[.string s, .int .u8 c] w fun e w' => e = .returned (.int .i64 (Lib.indexByte s.data.toList c.toNat.toUInt8)) ∧ w' = w := Any.strings_IndexByte lays137 s c w
def laysC174_ren : Go.Shelf.Ren := ⟨fun | 174 => 177 | 247 => 203 | 245 => 204 | 287 => 222 | 279 => 223 | 280 => 224 | 281 => 225 | 282 => 226 | 321 => 238 | 322 => 239 | 316 => 240 | 171 => 242 | 205 => 241 | 243 => 249 | 246 => 160 | 283 => 188 | 284 => 189 | 285 => 190 | 286 => 191 | 129 => 212 | 317 => 211 | 318 => 213 | 319 => 214 | 320 => 215 | 337 => 232 | 338 => 233 | n => n, fun | 9 => 9 | 3 => 3 | 2 => 2 | 75 => 150 | 85 => 193 | 4 => 4 | 167 => 220 | 5 => 5 | 53 => 192 | 175 => 221 | 46 => 216 | 168 => 223 | 37 => 63 | 0 => 0 | 210 => 230 | 21 => 21 | 127 => 181 | 145 => 238 | 143 => 236 | 171 => 198 | 173 => 201 | 212 => 213 | 51 => 214 | 20 => 20 | 213 => 215 | 232 => 233 | 233 => 234 | 80 => 153 | n => n, fun | 15 => 2 | 16 => 3 | 17 => 0 | 18 => 4 | 19 => 5 | n => n⟩
theorem laysC174 : Go.Proofs.LaysC.n174 Tryz.prog laysC174_ren := {
  mixed := by kernel_rfl
  f129 := Tryz.func212.trans (congrArg some (by kernel_rfl))
  f171 := Tryz.func242.trans (congrArg some (by kernel_rfl))
  f174 := Tryz.func177.trans (congrArg some (by kernel_rfl))
  f205 := Tryz.func241.trans (congrArg some (by kernel_rfl))
  f243 := Tryz.func249.trans (congrArg some (by kernel_rfl))
  f245 := Tryz.func204.trans (congrArg some (by kernel_rfl))
  f246 := Tryz.func160.trans (congrArg some (by kernel_rfl))
  f247 := Tryz.func203.trans (congrArg some (by kernel_rfl))
  f279 := Tryz.func223.trans (congrArg some (by kernel_rfl))
  f280 := Tryz.func224.trans (congrArg some (by kernel_rfl))
  f281 := Tryz.func225.trans (congrArg some (by kernel_rfl))
  f282 := Tryz.func226.trans (congrArg some (by kernel_rfl))
  f283 := Tryz.func188.trans (congrArg some (by kernel_rfl))
  f284 := Tryz.func189.trans (congrArg some (by kernel_rfl))
  f285 := Tryz.func190.trans (congrArg some (by kernel_rfl))
  f286 := Tryz.func191.trans (congrArg some (by kernel_rfl))
  f287 := Tryz.func222.trans (congrArg some (by kernel_rfl))
  f316 := Tryz.func240.trans (congrArg some (by kernel_rfl))
  f317 := Tryz.func211.trans (congrArg some (by kernel_rfl))
  f318 := Tryz.func213.trans (congrArg some (by kernel_rfl))
  f319 := Tryz.func214.trans (congrArg some (by kernel_rfl))
  f320 := Tryz.func215.trans (congrArg some (by kernel_rfl))
  f321 := Tryz.func238.trans (congrArg some (by kernel_rfl))
  f322 := Tryz.func239.trans (congrArg some (by kernel_rfl))
  f337 := Tryz.func232.trans (congrArg some (by kernel_rfl))
  f338 := Tryz.func233.trans (congrArg some (by kernel_rfl))
  t0 := Tryz.underlying0
  a0 := Tryz.isAgg0
  z0 := Tryz.sizeOf0
  v0 := Tryz.zeroValue0
  t2 := Tryz.underlying2
  a2 := Tryz.isAgg2
  z2 := Tryz.sizeOf2
  v2 := Tryz.zeroValue2
  t3 := Tryz.underlying3
  a3 := Tryz.isAgg3
  z3 := Tryz.sizeOf3
  v3 := Tryz.zeroValue3
  t4 := Tryz.underlying4
  a4 := Tryz.isAgg4
  z4 := Tryz.sizeOf4
  v4 := Tryz.zeroValue4
  t5 := Tryz.underlying5
  a5 := Tryz.isAgg5
  z5 := Tryz.sizeOf5
  v5 := Tryz.zeroValue5
  t9 := Tryz.underlying9
  a9 := Tryz.isAgg9
  z9 := Tryz.sizeOf9
  v9 := Tryz.zeroValue9
  t20 := Tryz.underlying20
  a20 := Tryz.isAgg20
  z20 := Tryz.sizeOf20
  v20 := Tryz.zeroValue20
  t21 := Tryz.underlying21
  a21 := Tryz.isAgg21
  z21 := Tryz.sizeOf21
  v21 := Tryz.zeroValue21
  t37 := Tryz.underlying63
  a37 := Tryz.isAgg63
  z37 := Tryz.sizeOf63
  v37 := Tryz.zeroValue63
  t46 := Tryz.underlying216
  a46 := Tryz.isAgg216
  z46 := Tryz.sizeOf216
  v46 := Tryz.zeroValue216
  t51 := Tryz.underlying214
  a51 := Tryz.isAgg214
  z51 := Tryz.sizeOf214
  v51 := Tryz.zeroValue214
  t53 := Tryz.underlying192
  a53 := Tryz.isAgg192
  z53 := Tryz.sizeOf192
  v53 := Tryz.zeroValue192
  t75 := Tryz.underlying150
  a75 := Tryz.isAgg150
  z75 := Tryz.sizeOf150
  v75 := Tryz.zeroValue150
  t85 := Tryz.underlying193
  a85 := Tryz.isAgg193
  z85 := Tryz.sizeOf193
  v85 := Tryz.zeroValue193
  t127 := Tryz.underlying181
  a127 := Tryz.isAgg181
  z127 := Tryz.sizeOf181
  v127 := Tryz.zeroValue181
  t143 := Tryz.underlying236
  a143 := Tryz.isAgg236
  z143 := Tryz.sizeOf236
  v143 := Tryz.zeroValue236
  t145 := Tryz.underlying238
  a145 := Tryz.isAgg238
  z145 := Tryz.sizeOf238
  v145 := Tryz.zeroValue238
  t167 := Tryz.underlying220
  a167 := Tryz.isAgg220
  z167 := Tryz.sizeOf220
  v167 := Tryz.zeroValue220
  t168 := Tryz.underlying223
  a168 := Tryz.isAgg223
  z168 := Tryz.sizeOf223
  v168 := Tryz.zeroValue223
  t171 := Tryz.underlying198
  a171 := Tryz.isAgg198
  z171 := Tryz.sizeOf198
  v171 := Tryz.zeroValue198
  t173 := Tryz.underlying201
  a173 := Tryz.isAgg201
  z173 := Tryz.sizeOf201
  v173 := Tryz.zeroValue201
  t175 := Tryz.underlying221
  a175 := Tryz.isAgg221
  z175 := Tryz.sizeOf221
  v175 := Tryz.zeroValue221
  t210 := Tryz.underlying230
  a210 := Tryz.isAgg230
  z210 := Tryz.sizeOf230
  v210 := Tryz.zeroValue230
  t212 := Tryz.underlying213
  a212 := Tryz.isAgg213
  z212 := Tryz.sizeOf213
  v212 := Tryz.zeroValue213
  t213 := Tryz.underlying215
  a213 := Tryz.isAgg215
  z213 := Tryz.sizeOf215
  t232 := Tryz.underlying233
  a232 := Tryz.isAgg233
  z232 := Tryz.sizeOf233
  v232 := Tryz.zeroValue233
  t233 := Tryz.underlying234
  a233 := Tryz.isAgg234
  z233 := Tryz.sizeOf234
  v233 := Tryz.zeroValue234
  g15 := by kernel_rfl
  g16 := by kernel_rfl
  g17 := by kernel_rfl
  g18 := by kernel_rfl
  g19 := by kernel_rfl
  t80 := Tryz.underlying153
  a80 := Tryz.isAgg153
  z80 := Tryz.sizeOf153
  v80 := Tryz.zeroValue153
  i0 := by kernel_rfl
  i2 := by kernel_rfl
  i3 := by kernel_rfl
  i4 := by kernel_rfl
  i5 := by kernel_rfl
  i9 := by kernel_rfl
  i20 := by kernel_rfl
  i21 := by kernel_rfl
  i37 := by kernel_rfl
  i46 := by kernel_rfl
  i51 := by kernel_rfl
  i53 := by kernel_rfl
  i75 := by kernel_rfl
  i80 := by kernel_rfl
  i85 := by kernel_rfl
  i127 := by kernel_rfl
  i143 := by kernel_rfl
  i145 := by kernel_rfl
  i167 := by kernel_rfl
  i168 := by kernel_rfl
  i171 := by kernel_rfl
  i173 := by kernel_rfl
  i175 := by kernel_rfl
  i210 := by kernel_rfl
  i212 := by kernel_rfl
  i232 := by kernel_rfl
  i233 := by kernel_rfl
  m15 := by kernel_rfl
  m16 := by kernel_rfl
  m17 := by kernel_rfl
  m18 := by kernel_rfl
  m19 := by kernel_rfl
  c0 := by kernel_rfl
  c2 := by kernel_rfl
  c3 := by kernel_rfl
  c4 := by kernel_rfl
  c5 := by kernel_rfl
  c9 := by kernel_rfl
  c20 := by kernel_rfl
  c21 := by kernel_rfl
  c37 := by kernel_rfl
  c46 := by kernel_rfl
  c51 := by kernel_rfl
  c53 := by kernel_rfl
  c75 := by kernel_rfl
  c80 := by kernel_rfl
  c85 := by kernel_rfl
  c127 := by kernel_rfl
  c143 := by kernel_rfl
  c145 := by kernel_rfl
  c167 := by kernel_rfl
  c168 := by kernel_rfl
  c171 := by kernel_rfl
  c173 := by kernel_rfl
  c175 := by kernel_rfl
  c210 := by kernel_rfl
  c212 := by kernel_rfl
  c213 := by kernel_rfl
  c232 := by kernel_rfl
  c233 := by kernel_rfl }
open Go.RowKit in
theorem strconv_ParseInt_10_at64_ok (s : ByteArray) (hmax : s.size ≤ 9223372036854775806) (v : Int) (h : Lib.parseIntB 64 s.data.toList = .ok v) (w : World) :
    Calls Tryz.prog 177 #[.string s, .int .i64 10, .int .i64 64] w fun e w' => e = .returned (.tuple #[.int .i64 v, .nilIface]) ∧ (w' = w ∨ ∃ t, w' = Lib.bytesWorld w 5 t) := Any.strconv_ParseInt_10_at64_ok laysC174 s hmax v h w
open Go.RowKit in
theorem strconv_ParseInt_10_at64_range_var (s : ByteArray) (hlim : s.size ≤ 281474976710656) (h : Lib.parseIntB 64 s.data.toList = .range) (tp : TypeId) (p : Value) (w : World) (hvar : w.var? Tryz.prog "strconv.ErrRange" = some #[.iface tp p]) :
    Calls Tryz.prog 177 #[.string s, .int .i64 10, .int .i64 64] w fun e w' => ∃ N, e = .returned (.tuple #[.int .i64 (Lib.intSat 64 s.data.toList), .iface 223 (.pointer (some ⟨N, 0, none⟩))]) ∧ w.heap.size ≤ N ∧ w'.heap[N]? = some (.cells #[.string ⟨#[80, 97, 114, 115, 101, 73, 110, 116]⟩, .string s, .iface tp p] 230 (0, 0)) ∧ Below w.heap.size w w' := Any.strconv_ParseInt_10_at64_range_var laysC174 s hlim h tp p w hvar
def lays99_ren : Go.Shelf.Ren := ⟨fun | 99 => 205 | 206 => 227 | n => n, fun | 9 => 9 | 4 => 4 | 3 => 3 | n => n, fun | n => n⟩
theorem lays99 : Go.Proofs.Lays.n99 Tryz.prog lays99_ren := {
  mixed := by kernel_rfl
  f99 := Tryz.func205.trans (congrArg some (by kernel_rfl))
  f206 := Tryz.func227.trans (congrArg some (by kernel_rfl))
  t3 := Tryz.underlying3
  a3 := Tryz.isAgg3
  z3 := Tryz.sizeOf3
  v3 := Tryz.zeroValue3
  t4 := Tryz.underlying4
  a4 := Tryz.isAgg4
  z4 := Tryz.sizeOf4
  v4 := Tryz.zeroValue4
  t9 := Tryz.underlying9
  a9 := Tryz.isAgg9
  z9 := Tryz.sizeOf9
  v9 := Tryz.zeroValue9 }
open Go.RowKit Go.Lib in
theorem strings_HasPrefix (s p : ByteArray) (w : World) :
    Calls Tryz.prog 205 #[.string s, .string p] w fun e w' => e = .returned (.bool (Lib.hasPrefix s.data.toList p.data.toList)) ∧ w' = w := Any.strings_HasPrefix lays99 s p w
end Go.Proofs.YtmljjpdodcpohaaGreatDoor.Lx

