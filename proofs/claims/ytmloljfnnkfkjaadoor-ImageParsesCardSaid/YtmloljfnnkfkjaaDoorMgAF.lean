/- The walks of inst.Wide and Build: their contracts. The walks of lex's isLetter and isDigit: their contracts. One step of a range over a string, and the walk of lex.wordEnd: its contract. The walk of lex.Key: its contract. No condition but those that each states. -/
import Derived.Test.YtmloljfnnkfkjaaDoorMgAD
import Derived.Test.YtmloljfnnkfkjaaDoorChecked
import Derived.Test.YtmloljfnnkfkjaaDoorMgAA
import Derived.ProofKit
import Derived.WalkKit
import Derived.Below
import Derived.Lib.OthersKept
import Derived.IntWalk
import Derived.Lib.Strings
import Derived.Lib.Hide
import Derived.WalkSmall
import Derived.Test.YtmloljfnnkfkjaaDoorMgAC
namespace Go.Proofs.YtmloljfnnkfkjaaDoor.In
open Go.RowKit Dk

theorem conv4 (op a b c : Int) (ho : 0 ≤ op ∧ op < 38) (ha : 0 ≤ a ∧ a ≤ 255) (hb : 0 ≤ b ∧ b ≤ 255) (hc : 0 ≤ c ∧ c ≤ 255) (W : World) :
    (convert 74 9 (.slice (some ⟨W.heap.size, 0, none⟩) 4 4)).run Tryd.prog (W.alloc (.cells #[.int .u8 op, .int .u8 a, .int .u8 b, .int .u8 c] 5)) = .ok (.string (strOf [byteOf op, byteOf a, byteOf b, byteOf c])) (W.alloc (.cells #[.int .u8 op, .int .u8 a, .int .u8 b, .int .u8 c] 5)) := by
  have e : bv [byteOf op, byteOf a, byteOf b, byteOf c] = [.int .u8 op, .int .u8 a, .int .u8 b, .int .u8 c] := by
    unfold bv
    simp only [List.map_cons, List.map_nil]
    rw [byte_back ho.1 (by omega), byte_back ha.1 ha.2, byte_back hb.1 hb.2, byte_back hc.1 hc.2]
  refine convert_range W.heap.size 0 4 4 [byteOf op, byteOf a, byteOf b, byteOf c] Tryd.underlying74 Tryd.underlying5 Tryd.underlying9 rfl ?_
  rw [e]
  exact range_new W [.int .u8 op, .int .u8 a, .int .u8 b, .int .u8 c] 5

set_option maxHeartbeats 1000000 in
set_option maxRecDepth 100000 in
theorem build_any (x : Ix) (w : World) (HF : HasF w) : Calls Tryd.prog 86 #[.agg x.cells.toArray] w fun e w' => e = .returned (if rightB x then .tuple #[.string (strOf (buildL x)), .int .i64 0] else .tuple #[.string ⟨#[]⟩, .int .i64 4]) ∧ Below w.heap.size w w' := by
  obtain ⟨W1, hW1⟩ : ∃ W1, W1 = w.alloc (.cells x.cells.toArray 89) := ⟨_, rfl⟩
  have HB1 : Hid (Below w.heap.size w W1) := Lib.hid (by rw [hW1]; exact (Below.refl _ _).alloc (Nat.le_refl _) _)
  have HX : Hid (IB W1 w.heap.size x) := Lib.hid (by rw [hW1]; exact ib_new w x _)
  have RT := Lib.hid (right_any x W1 (HF.later HB1.out))
  have HI := Lib.hid (i_info x)
  have HRI := Lib.hid (fun h => right_in (x := x) h)
  have HBL : Hid (buildL x = [byteOf x.op, byteOf x.a, byteOf x.b, byteOf x.c]) := Lib.hid rfl
  obtain ⟨op, a, b, c⟩ := x
  have hW2 : w.alloc (.cells #[.int .i64 op, .int .i64 a, .int .i64 b, .int .i64 c] 89) = W1 := hW1.symm
  show Calls _ _ #[.agg #[.int .i64 op, .int .i64 a, .int .i64 b, .int .i64 c]] w _
  generalize rightB ⟨op, a, b, c⟩ = R at *
  generalize buildL ⟨op, a, b, c⟩ = V at *
  clear HF hW1
  cases R with
  | false =>
    clear HBL HRI
    go_enter Tryd.func86, Tryd.ntmps86
    go_wp2_with (first
      | (refine wpList_load_mid rfl 89 (.tmp 1) rfl w.heap.size 0 rfl (Ix.cells ⟨op, a, b, c⟩) _ HX.out.cells Tryd.underlying89 rfl HI.out ?_)
      | (go_at_call 62; refine RT.out.mono ?_; rintro e w2 ⟨rfl, hb2⟩))
    go_ret2
    exact ⟨rfl, chain2 HB1.out hb2⟩
  | true =>
    have G := Lib.hid (fun W => conv4 op a b c (HRI.out rfl).1 (HRI.out rfl).2.1 (HRI.out rfl).2.2.1 (HRI.out rfl).2.2.2 W)
    obtain ⟨⟨o0, o1⟩, ⟨a0, a1⟩, ⟨b0, b1⟩, ⟨c0, c1⟩⟩ := HRI.out rfl
    replace o0 : 0 ≤ op := o0
    replace o1 : op < 38 := o1
    replace a0 : 0 ≤ a := a0
    replace a1 : a ≤ 255 := a1
    replace b0 : 0 ≤ b := b0
    replace b1 : b ≤ 255 := b1
    replace c0 : 0 ≤ c := c0
    replace c1 : c ≤ 255 := c1
    have hv : V = [byteOf op, byteOf a, byteOf b, byteOf c] := HBL.out
    rw [← hv] at G
    clear HBL HRI hv
    go_enter Tryd.func86, Tryd.ntmps86
    go_wp2_with (first
      | (refine wpList_load_mid rfl 89 (.tmp 1) rfl w.heap.size 0 rfl (Ix.cells ⟨op, a, b, c⟩) _ HX.out.cells Tryd.underlying89 rfl HI.out ?_)
      | (go_at_call 62; refine RT.out.mono ?_; rintro e w2 ⟨rfl, hb2⟩; have HX2 := HX.out.later hb2; obtain ⟨k0, k1, k2, k3⟩ := HX2.at; simp only at k0 k1 k2 k3; have g := G.out w2))
    go_ret2
    exact ⟨rfl, (chain2 HB1.out hb2).alloc (Nat.le_trans HB1.out.size hb2.size) _⟩

end Go.Proofs.YtmloljfnnkfkjaaDoor.In

namespace Go.Proofs.YtmloljfnnkfkjaaDoor.Lx
open Go.RowKit
set_option maxHeartbeats 400000 in
theorem letter_any (r : Int) (w : World) : Calls Tryd.prog 56 #[.int .i32 r] w fun e w' => e = .returned (.bool (rL r)) ∧ w = w' := by
  rcases (show r < 97 ∨ (97 ≤ r ∧ r ≤ 122) ∨ 122 < r by omega) with h | ⟨h, h'⟩ | h
  all_goals
    go_enter Tryd.func56, Tryd.ntmps56
    go_wp2
    go_ret
    refine ⟨?_, rfl⟩
    congr 2
    unfold rL
    simp
    omega
set_option maxHeartbeats 400000 in
theorem digit_any (r : Int) (w : World) : Calls Tryd.prog 88 #[.int .i32 r] w fun e w' => e = .returned (.bool (rD r)) ∧ w = w' := by
  rcases (show r < 48 ∨ (48 ≤ r ∧ r ≤ 57) ∨ 57 < r by omega) with h | ⟨h, h'⟩ | h
  all_goals
    go_enter Tryd.func88, Tryd.ntmps88
    go_wp2
    go_ret
    refine ⟨?_, rfl⟩
    congr 2
    unfold rD
    simp
    omega
theorem get_drop (s : ByteArray) (i j : Nat) (h : i + j < s.size) : (s.data.toList.drop i)[j]? = some (s.get! (i + j)) := by
  rw [List.getElem?_drop, List.getElem?_eq_getElem (by simpa using h)]
  congr 1
  simp [ByteArray.get!, getElem!_pos, h]
/-- A rune that is no ASCII takes bytes that are none, each. -/
theorem decode_bytes (s : ByteArray) (i : Nat) (h : i < s.size) (ha : 128 ≤ (s[i]'h).toNat) :
    1 ≤ (Utf8.decode s i).2 ∧ i + (Utf8.decode s i).2 ≤ s.size ∧ ∀ c ∈ (s.data.toList.drop i).take (Utf8.decode s i).2, 128 ≤ c.toNat := by
  have e0 : (s.get! i).toNat = (s[i]'h).toNat := by simp [ByteArray.get!, getElem!_pos, h]; rfl
  have key : ∀ k, 1 ≤ k → i + k ≤ s.size → (∀ j, j < k → 128 ≤ (s.get! (i + j)).toNat) → 1 ≤ k ∧ i + k ≤ s.size ∧ ∀ c ∈ (s.data.toList.drop i).take k, 128 ≤ c.toNat := by
    intro k h1 h2 h3
    refine ⟨h1, h2, fun c hc => ?_⟩
    obtain ⟨j, hj, rfl⟩ := List.mem_iff_getElem.1 hc
    rw [List.length_take] at hj
    have := get_drop s i j (by omega)
    rw [List.getElem_take]
    rw [List.getElem?_eq_getElem (by omega)] at this
    rw [Option.some.inj this]
    exact h3 j (by omega)
  rw [Lib.decode_at]
  unfold Lib.decodeN
  rw [e0]
  have a0 : ∀ j, j < 1 → 128 ≤ (s.get! (i + j)).toNat := fun j hj => by rw [show j = 0 by omega, Nat.add_zero, e0]; exact ha
  have a1 : (s.get! (i + 1)).toNat / 64 = 2 → ∀ j, j < 2 → 128 ≤ (s.get! (i + j)).toNat := fun q j hj => by
    rcases (show j < 1 ∨ j = 1 by omega) with hj | rfl
    · exact a0 j hj
    · omega
  have a2 : (s.get! (i + 1)).toNat / 64 = 2 → (s.get! (i + 2)).toNat / 64 = 2 → ∀ j, j < 3 → 128 ≤ (s.get! (i + j)).toNat := fun q q2 j hj => by
    rcases (show j < 2 ∨ j = 2 by omega) with hj | rfl
    · exact a1 q j hj
    · omega
  have a3 : (s.get! (i + 1)).toNat / 64 = 2 → (s.get! (i + 2)).toNat / 64 = 2 → (s.get! (i + 3)).toNat / 64 = 2 → ∀ j, j < 4 → 128 ≤ (s.get! (i + j)).toNat := fun q q2 q3 j hj => by
    rcases (show j < 3 ∨ j = 3 by omega) with hj | rfl
    · exact a2 q q2 j hj
    · omega
  repeat' split
  all_goals first
    | (exfalso; omega)
    | exact key 1 (by omega) (by omega) a0
    | exact key 2 (by omega) (by omega) (a1 (by omega))
    | exact key 3 (by omega) (by omega) (a2 (by omega) (by omega))
    | exact key 4 (by omega) (by omega) (a3 (by omega) (by omega) (by omega))
end Go.Proofs.YtmloljfnnkfkjaaDoor.Lx

namespace Go.Proofs.YtmloljfnnkfkjaaDoor.Lx
open Go.RowKit
/-- Of the bytes from a place on a rune takes so many: one, if it is ASCII; else each of these is none. -/
structure Rune (T : List UInt8) (i : Nat) (r : Int) (k : Nat) : Prop where
  lt : i < T.length
  pos : 1 ≤ k
  le : i + k ≤ T.length
  is : (∃ c, T.drop i = c :: T.drop (i + 1) ∧ r = (c.toNat : Int) ∧ r < 128 ∧ k = 1) ∨ (128 ≤ r ∧ ∀ c ∈ (T.drop i).take k, 128 ≤ c.toNat)
theorem iter_step {P : Program} {wr : World} {t : ByteArray} {i b : Nat} (hit : wr.heap[b]? = some (.stringIter t i)) (hlt : i < t.size) :
    ∃ r k w1, Rune t.data.toList i r k ∧ (∀ ty, (Instr.next (.pointer (some ⟨b, 0, none⟩)) true ty).run P wr = .ok (.tuple #[.bool true, .int .i64 i, .int .i32 r]) w1) ∧ w1.heap[b]? = some (.stringIter t (i + k)) ∧ (∀ B w, B ≤ b → Below B w wr → Below B w w1) ∧ (∀ j, j ≠ b → w1.heap[j]? = wr.heap[j]?) ∧ w1.heap.size = wr.heap.size := by
  have hl : i < t.data.toList.length := by simpa using hlt
  refine ⟨_, _, _, ?_, fun ty => Lib.run_next_any_at wr _ t i ty hit hlt, Lib.iterAt_heap wr _ t i _ hit, fun B w hB hb => Lib.below_iterAt hb hB t _, fun j hj => Lib.iterAt_other wr _ _ t _ hj, Lib.iterAt_size _ _ _ _⟩
  by_cases ha : (t[i]'hlt).toNat < 128
  · rw [decode_ascii t i hlt ha]
    refine ⟨hl, Nat.le_refl _, hl, .inl ⟨t[i], ?_, rfl, by omega, rfl⟩⟩
    rw [List.drop_eq_getElem_cons hl]
    rfl
  · have h1 := decode_high t i hlt (by omega)
    obtain ⟨h2, h3, h4⟩ := decode_bytes t i hlt (by omega)
    refine ⟨hl, h2, by simpa using h3, .inr ⟨by have := h1.1; omega, h4⟩⟩
section
variable {T : List UInt8} {i k : Nat} {r : Int}
theorem Rune.first (h : Rune T i r k) (hr : r < 128) : ∃ c, T.drop i = c :: T.drop (i + 1) ∧ r = (c.toNat : Int) ∧ k = 1 := by
  rcases h.is with ⟨c, h1, h2, h3, h4⟩ | ⟨h1, h2⟩
  · exact ⟨c, h1, h2, h4⟩
  · omega
theorem Rune.head (h : Rune T i r k) : ∃ c, T.drop i = c :: T.drop (i + 1) ∧ (r < 128 → r = (c.toNat : Int) ∧ k = 1) ∧ (128 ≤ r → 128 ≤ c.toNat) := by
  have e := List.drop_eq_getElem_cons h.lt
  rcases h.is with ⟨c, h1, h2, h3, h4⟩ | ⟨h1, h2⟩
  · exact ⟨c, h1, fun _ => ⟨h2, h4⟩, fun _ => by omega⟩
  · refine ⟨_, e, fun _ => by omega, fun _ => h2 _ ?_⟩
    obtain ⟨k', rfl⟩ : ∃ k', k = k' + 1 := ⟨k - 1, by have := h.pos; omega⟩
    rw [e, List.take_succ_cons]
    exact List.mem_cons_self
theorem spanN_yes {p : UInt8 → Bool} {q : Int → Bool} (hp : ∀ c, p c = q (c.toNat : Int)) (hq : ∀ x, 128 ≤ x → q x = false) (h : Rune T i r k) (hr : q r = true) : k = 1 ∧ spanN p (T.drop i) = spanN p (T.drop (i + 1)) + 1 := by
  have hlt : r < 128 := by
    rcases Int.lt_or_le r 128 with h' | h'
    · exact h'
    · rw [hq r h'] at hr; cases hr
  obtain ⟨c, e, hc, hk⟩ := h.first hlt
  refine ⟨hk, ?_⟩
  rw [e, spanN, if_pos (by rw [hp, ← hc]; exact hr)]
theorem spanN_no {p : UInt8 → Bool} {q : Int → Bool} (hp : ∀ c, p c = q (c.toNat : Int)) (hq : ∀ x, 128 ≤ x → q x = false) (h : Rune T i r k) (hr : q r = false) : spanN p (T.drop i) = 0 := by
  obtain ⟨c, e, h1, h2⟩ := h.head
  have : p c = false := by
    rw [hp]
    rcases Int.lt_or_le r 128 with h' | h'
    · rw [← (h1 h').1]; exact hr
    · exact hq _ (by have := h2 h'; omega)
  rw [e, spanN, if_neg (by rw [this]; exact Bool.false_ne_true)]
end
theorem iter_old (w : World) (s : ByteArray) (pos j : Nat) (h : j < w.heap.size) : (w.iter s pos).heap[j]? = w.heap[j]? := by
  show (w.heap.push _)[j]? = _
  rw [Array.getElem?_push, if_neg (by omega)]
theorem below_iter {B : Nat} {a w : World} (h : Below B a w) (hB : B ≤ w.heap.size) (s : ByteArray) (pos : Nat) : Below B a (w.iter s pos) :=
  h.trans ⟨rfl, rfl, rfl, by show _ ≤ (w.heap.push _).size; simp, fun k hk => iter_old w s pos k (by omega)⟩
/-- What stands from a place on. -/
def from' (s : ByteArray) (a : Nat) : List UInt8 := s.data.toList.drop a
theorem extract_list (s : ByteArray) (a : Nat) : (s.extract a s.size).data.toList = from' s a := by
  rw [Lib.extract_data, List.take_of_length_le (by simp)]; rfl
theorem from_length (s : ByteArray) (a : Nat) : (from' s a).length = s.size - a := by simp [from']
theorem extract_size (s : ByteArray) (a : Nat) : (s.extract a s.size).size = s.size - a := by rw [Lib.size_eq, extract_list, from_length]
theorem from_drop (s : ByteArray) (a b : Nat) : (from' s a).drop b = from' s (a + b) := by unfold from'; rw [List.drop_drop]
theorem run_from {P : Program} (s : ByteArray) (a : Nat) (h : a ≤ s.size) (t : TypeId) (ht : P.underlying t = some .string) (W : World) : (Instr.slice t (.string s) (some (.int .i64 (a : Int))) none none).run P W = .ok (.string (s.extract a s.size)) W := by
  rw [run_slice_string_from_if W t s .i64 _ ht, if_pos ⟨by omega, by omega⟩]
  rfl
theorem rW_high (x : Int) (h : 128 ≤ x) : rW x = false := by unfold rW rL rD; simp; omega
set_option maxHeartbeats 1000000 in
theorem wordEnd_any (s : ByteArray) (a : Nat) (w : World) (ha : a ≤ s.size) (hs : s.size ≤ 2 ^ 40) :
    Calls Tryd.prog 57 #[.string s, .int .i64 (a : Int)] w fun e w' => e = .returned (.int .i64 ((a + spanN isW (from' s a) : Nat) : Int)) ∧ Below w.heap.size w w' := by
  have hsl := fun W => run_from (P := Tryd.prog) s a ha 9 Tryd.underlying9 W
  have hsz := extract_size s a
  have hls := extract_list s a
  generalize s.extract a s.size = t at hsl hsz hls
  have HL := Lib.hid hls
  have hz : t.size ≤ s.size := by omega
  have HZ := Lib.hid hsz
  clear hsz hls
  go_enter Tryd.func57, Tryd.ntmps57
  go_wp2
  clear hsl
  go_loopw [5] (fun _ wr => ∃ (i : Nat), i ≤ t.size ∧ Hid (wr.heap[w.heap.size]? = some (.stringIter t i)) ∧ Hid (spanN isW t.data.toList = i + spanN isW (t.data.toList.drop i)) ∧ Hid (Below w.heap.size w wr)) (fun _ wr => t.size - wr.iterPos w.heap.size)
  case atStart => exact ⟨0, Nat.zero_le _, Lib.hid (World.iter_heap w t 0), Lib.hid (by simp), Lib.hid (below_iter (Below.refl _ _) (Nat.le_refl _) t 0)⟩
  case round =>
    obtain ⟨i, hi, hit, hsk, hbel⟩ := hrel
    by_cases hlt : i < t.size
    · obtain ⟨r, k, w1, hR, hn, hit1, hB1, -⟩ := iter_step (P := Tryd.prog) hit.out hlt
      have HB := Lib.hid (hB1 _ _ (Nat.le_refl _) hbel.out)
      have HI := Lib.hid hit1
      have HR := Lib.hid hR
      have hle : i + k ≤ t.size := by have := hR.le; simpa using this
      have hpos := hR.pos
      have HM : Hid (t.size - w1.iterPos w.heap.size < t.size - wr.iterPos w.heap.size) := Lib.hid (by rw [iterPos_of hit1, iterPos_of hit.out]; omega)
      clear hR hB1 hit1 hit hbel hpos
      have C := Lib.hid (fun W => digit_any r W)
      have CL := Lib.hid (fun W => letter_any r W)
      cases hb : rW r with
      | true =>
        have HS : Hid (k = 1 ∧ spanN isW t.data.toList = i + k + spanN isW (t.data.toList.drop (i + k))) := Lib.hid (by
          obtain ⟨rfl, h2⟩ := spanN_yes (p := isW) (fun _ => rfl) rW_high HR.out hb
          have := hsk.out
          exact ⟨rfl, by omega⟩)
        have HB2 := Lib.hid hb
        clear hsk hb
        rcases hl : rL r with _ | _
        · rcases hd : rD r with _ | _
          · have h95 : r = 95 := by have := HB2.out; unfold rW at this; rw [hl, hd] at this; simpa using this
            rw [hd] at C
            rw [hl] at CL
            clear hl hd
            subst h95
            go_wp2_with (first
          | (go_at_call 88; refine (C.out _).mono ?_; rintro e w' ⟨rfl, rfl⟩)
          | (go_at_call 56; refine (CL.out _).mono ?_; rintro e w' ⟨rfl, rfl⟩))
            go_roundw
            case rel => exact ⟨i + k, hle, HI, Lib.hid HS.out.2, HB⟩
            case measure => exact HM.out
          · rw [hd] at C
            rw [hl] at CL
            clear hl hd
            go_wp2_with (first
          | (go_at_call 88; refine (C.out _).mono ?_; rintro e w' ⟨rfl, rfl⟩)
          | (go_at_call 56; refine (CL.out _).mono ?_; rintro e w' ⟨rfl, rfl⟩))
            go_roundw
            case rel => exact ⟨i + k, hle, HI, Lib.hid HS.out.2, HB⟩
            case measure => exact HM.out
        · rw [hl] at CL
          clear hl
          go_wp2_with (first
          | (go_at_call 88; refine (C.out _).mono ?_; rintro e w' ⟨rfl, rfl⟩)
          | (go_at_call 56; refine (CL.out _).mono ?_; rintro e w' ⟨rfl, rfl⟩))
          go_roundw
          case rel => exact ⟨i + k, hle, HI, Lib.hid HS.out.2, HB⟩
          case measure => exact HM.out
      | false =>
        have HS : Hid (spanN isW t.data.toList = i) := Lib.hid (by have := spanN_no (p := isW) (fun _ => rfl) rW_high HR.out hb; have := hsk.out; omega)
        have h3 : rL r = false ∧ rD r = false ∧ r ≠ 95 := by
          unfold rW at hb
          rw [Bool.or_eq_false_iff, Bool.or_eq_false_iff] at hb
          exact ⟨hb.1.1, hb.1.2, by simpa using hb.2⟩
        obtain ⟨hl, hd, h95⟩ := h3
        rw [hd] at C
        rw [hl] at CL
        clear hsk hb hl hd
        go_wp2_with (first
          | (go_at_call 88; refine (C.out _).mono ?_; rintro e w' ⟨rfl, rfl⟩)
          | (go_at_call 56; refine (CL.out _).mono ?_; rintro e w' ⟨rfl, rfl⟩))
        go_ret
        refine ⟨?_, HB.out⟩
        rw [← HL.out, HS.out]
        simp
    · obtain rfl : i = t.size := by omega
      have hn := fun ty => Lib.run_next_end_at (P := Tryd.prog) wr w.heap.size t t.size ty hit.out (Nat.lt_irrefl _)
      have HS : Hid (spanN isW t.data.toList = t.size) := Lib.hid (by have := hsk.out; rw [List.drop_eq_nil_of_le (by simp)] at this; simpa [spanN] using this)
      clear hsk
      go_wp2
      go_ret
      refine ⟨?_, hbel.out⟩
      rw [← HL.out, HS.out, HZ.out, show a + (s.size - a) = s.size by omega]
      rfl
end Go.Proofs.YtmloljfnnkfkjaaDoor.Lx

namespace Go.Proofs.YtmloljfnnkfkjaaDoor.Lx
open Go.RowKit Dk
theorem strOf_tl (l : List UInt8) : (strOf l).toList = l := ByteArray.toList_mk l
theorem str_beq (a b : List UInt8) : ((strOf a).toList == (strOf b).toList) = decide (a = b) := by
  rw [strOf_tl, strOf_tl]
  by_cases h : a = b
  · rw [decide_eq_true h]; subst h; simp
  · rw [decide_eq_false h]; exact beq_false_of_ne h
set_option maxHeartbeats 4000000 in
theorem key_yes (l : List UInt8) (h : l ∈ keyList) (w : World) : Calls Tryd.prog 58 #[.string (strOf l)] w fun e w' => e = .returned (.bool true) ∧ w = w' := by
  have hb : ∀ m, m ∈ keyList → ((strOf l).toList == m) = decide (l = m) := fun m _ => by
    have := str_beq l m
    rwa [strOf_tl m] at this
  simp only [keyList, List.mem_cons, List.not_mem_nil, or_false, forall_eq_or_imp, forall_eq] at hb
  obtain ⟨h1, h2, h3, h4, h5, h6, h7, h8, h9, h10, h11, h12, h13, h14, h15, h16, h17, h18, h19, h20⟩ := hb
  simp only [keyList, List.mem_cons, List.not_mem_nil, or_false] at h
  generalize strOf l = s at *
  rcases h with rfl | rfl | rfl | rfl | rfl | rfl | rfl | rfl | rfl | rfl | rfl | rfl | rfl | rfl | rfl | rfl | rfl | rfl | rfl | rfl
  all_goals
    first | replace h1 := h1.trans (show decide _ = true by decide) | replace h1 := h1.trans (show decide _ = false by decide)
    first | replace h2 := h2.trans (show decide _ = true by decide) | replace h2 := h2.trans (show decide _ = false by decide)
    first | replace h3 := h3.trans (show decide _ = true by decide) | replace h3 := h3.trans (show decide _ = false by decide)
    first | replace h4 := h4.trans (show decide _ = true by decide) | replace h4 := h4.trans (show decide _ = false by decide)
    first | replace h5 := h5.trans (show decide _ = true by decide) | replace h5 := h5.trans (show decide _ = false by decide)
    first | replace h6 := h6.trans (show decide _ = true by decide) | replace h6 := h6.trans (show decide _ = false by decide)
    first | replace h7 := h7.trans (show decide _ = true by decide) | replace h7 := h7.trans (show decide _ = false by decide)
    first | replace h8 := h8.trans (show decide _ = true by decide) | replace h8 := h8.trans (show decide _ = false by decide)
    first | replace h9 := h9.trans (show decide _ = true by decide) | replace h9 := h9.trans (show decide _ = false by decide)
    first | replace h10 := h10.trans (show decide _ = true by decide) | replace h10 := h10.trans (show decide _ = false by decide)
    first | replace h11 := h11.trans (show decide _ = true by decide) | replace h11 := h11.trans (show decide _ = false by decide)
    first | replace h12 := h12.trans (show decide _ = true by decide) | replace h12 := h12.trans (show decide _ = false by decide)
    first | replace h13 := h13.trans (show decide _ = true by decide) | replace h13 := h13.trans (show decide _ = false by decide)
    first | replace h14 := h14.trans (show decide _ = true by decide) | replace h14 := h14.trans (show decide _ = false by decide)
    first | replace h15 := h15.trans (show decide _ = true by decide) | replace h15 := h15.trans (show decide _ = false by decide)
    first | replace h16 := h16.trans (show decide _ = true by decide) | replace h16 := h16.trans (show decide _ = false by decide)
    first | replace h17 := h17.trans (show decide _ = true by decide) | replace h17 := h17.trans (show decide _ = false by decide)
    first | replace h18 := h18.trans (show decide _ = true by decide) | replace h18 := h18.trans (show decide _ = false by decide)
    first | replace h19 := h19.trans (show decide _ = true by decide) | replace h19 := h19.trans (show decide _ = false by decide)
    first | replace h20 := h20.trans (show decide _ = true by decide) | replace h20 := h20.trans (show decide _ = false by decide)
    go_enter Tryd.func58, Tryd.ntmps58
    go_wp2
    go_ret
    exact ⟨rfl, rfl⟩
set_option maxHeartbeats 1000000 in
theorem key_no (l : List UInt8) (h : l ∉ keyList) (w : World) : Calls Tryd.prog 58 #[.string (strOf l)] w fun e w' => e = .returned (.bool false) ∧ w = w' := by
  have hb : ∀ m, m ∈ keyList → ((strOf l).toList == m) = false := fun m hm => by
    rw [strOf_tl]; exact beq_false_of_ne (fun e => h (e ▸ hm))
  simp only [keyList, List.mem_cons, List.not_mem_nil, or_false, forall_eq_or_imp, forall_eq] at hb
  obtain ⟨h1, h2, h3, h4, h5, h6, h7, h8, h9, h10, h11, h12, h13, h14, h15, h16, h17, h18, h19, h20⟩ := hb
  generalize strOf l = s at *
  go_enter Tryd.func58, Tryd.ntmps58
  go_wp2
  go_ret
  exact ⟨rfl, rfl⟩
theorem isKey_iff (l : List UInt8) : isKey l = true ↔ l ∈ keyList := by unfold isKey; exact List.contains_iff_mem
theorem key_any (l : List UInt8) (w : World) : Calls Tryd.prog 58 #[.string (strOf l)] w fun e w' => e = .returned (.bool (isKey l)) ∧ w = w' := by
  cases h : isKey l with
  | true => exact key_yes l ((isKey_iff l).1 h) w
  | false => exact key_no l (fun hm => by rw [(isKey_iff l).2 hm] at h; cases h) w
end Go.Proofs.YtmloljfnnkfkjaaDoor.Lx

