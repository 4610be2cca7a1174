/- What is read of a slot behind a Write of it, over states; no walk. No condition but those that each states. -/
import Derived.Test.YtkplmaaeggnbgaaDoorSlP
import Derived.Test.YtkplmaaeggnbgaaDoorDkU
namespace Go.Proofs.YtkplmaaeggnbgaaDoor.Sl
open Go.RowKit Dk

theorem bad_no {slot : Int} (h : badSlot slot = false) : slot = 0 ∨ slot = 1 := by
  have := of_decide_eq_false h
  omega

theorem each_le' {S : DS} (h : S.Ok) : each S ≤ 252 := by have := h.hi; unfold each per; omega
theorem first_le' {S : DS} (h : S.Ok) {slot : Int} (h0 : badSlot slot = false) : first S slot + each S ≤ S.L.length := by
  have := h.lo
  unfold first each per
  rcases bad_no h0 with rfl | rfl
  · simp; omega
  · simp; omega
theorem nb_le {n e : Nat} (h : n ≤ 64 * e) : nb n ≤ e := by unfold nb; omega

theorem wr_on {T : DS} (hon : T.on = true) {i : Nat} (hi : i < T.L.length) {s : Bytes} (hs : s.length = 64) : T.wr ((i : Nat) : Int) (strOf s) = ((T.write i s).1, errOf (T.write i s).2) := by
  unfold DS.wr
  rw [if_neg (by rw [hon]; decide), if_neg, Int.toNat_natCast, strOf_toList]
  rintro (h | h)
  · rcases hasB_no h with h | h <;> omega
  · exact h (by rw [strOf_size]; exact hs)

theorem wrs_next {S : DS} {b : Nat} {s : Bytes} {k : Nat} (h : (wrs S b s k).2 = 0) : wrs S b s (k + 1) = (wrs S b s k).1.wr ((b + k : Nat) : Int) (strOf (blkOf s k)) := by
  show (if _ then _ else _) = _
  rw [if_pos h]

theorem wrs_all {S : DS} (hS : S.Ok) (hon : S.on = true) {b n : Nat} (h : b + n ≤ S.L.length) (s : Bytes) : ∀ k, k ≤ n → (wrs S b s k).1.Ok ∧
    (((wrs S b s k).2 = 0 ∧ (wrs S b s k).1.on = true ∧ ∀ i, (wrs S b s k).1.read i = if b ≤ i ∧ i < b + k then blkOf s (i - b) else S.read i) ∨
     ((wrs S b s k).2 = 7 ∧ (wrs S b s k).1.on = false ∧ (wrs S b s k).1.W = []))
  | 0, _ => ⟨hS, .inl ⟨rfl, hon, fun i => by rw [if_neg (by omega)]; rfl⟩⟩
  | k + 1, hk => by
    have hl := wrs_len S b s k
    obtain ⟨h1, ⟨h2, h3, h4⟩ | ⟨h2, h3, h4⟩⟩ := wrs_all hS hon h s k (by omega)
    · rw [wrs_next h2, wr_on h3 (by omega) (blkOf_length s k)]
      refine ⟨h1.write (by omega) (blkOf_length s k), ?_⟩
      rcases write_cases (wrs S b s k).1 (b + k) (blkOf s k) with ⟨e0, e1, _, _⟩ | ⟨e0, e1, e2, _⟩
      · refine .inl ⟨by show errOf _ = 0; rw [e0]; rfl, by show DS.on _ = true; rw [e1]; exact h3, fun i => ?_⟩
        rw [write_true_read (Prod.ext rfl e0) i, h4 i]
        by_cases e : b + k = i
        · subst e; rw [if_pos rfl, if_pos (by omega)]; congr 1; omega
        · rw [if_neg e]
          by_cases e2 : b ≤ i ∧ i < b + k
          · rw [if_pos e2, if_pos (by omega)]
          · rw [if_neg e2, if_neg (by omega)]
      · exact .inr ⟨by show errOf _ = 7; rw [e0]; rfl, e1, e2⟩
    · have : wrs S b s (k + 1) = wrs S b s k := wrs_stop S b s (by rw [h2]; decide) (k + 1) (Nat.le_succ _)
      rw [this]
      exact ⟨h1, .inr ⟨h2, h3, h4⟩⟩

theorem wrs_keep {S : DS} (hS : S.Ok) (hon : S.on = true) {b n : Nat} (h : b + n ≤ S.L.length) (s : Bytes) {R : Nat → Prop} {L : List Bytes} (hR : ∀ i, b ≤ i → i < b + n → R i) (hK : Keep R L S) : ∀ k, k ≤ n → Keep R L (wrs S b s k).1
  | 0, _ => hK
  | k + 1, hk => by
    have hl := wrs_len S b s k
    obtain ⟨h1, ⟨h2, h3, h4⟩ | ⟨h2, h3, h4⟩⟩ := wrs_all hS hon h s k (by omega)
    · rw [wrs_next h2, wr_on h3 (by omega) (blkOf_length s k)]
      exact (wrs_keep hS hon h s hR hK k (by omega)).write (hR _ (by omega) (by omega)) _
    · have : wrs S b s (k + 1) = wrs S b s k := wrs_stop S b s (by rw [h2]; decide) (k + 1) (Nat.le_succ _)
      rw [this]
      exact wrs_keep hS hon h s hR hK k (by omega)

theorem wrs_none {S : DS} (hon : S.on = true) (hx : S.next = none) {b n : Nat} (h : b + n ≤ S.L.length) (s : Bytes) : ∀ k, k ≤ n → (wrs S b s k).2 = 0 ∧ (wrs S b s k).1.on = true ∧ (wrs S b s k).1.next = none ∧ (wrs S b s k).1.ops = S.ops + k
  | 0, _ => ⟨rfl, hon, hx, rfl⟩
  | k + 1, hk => by
    have hl := wrs_len S b s k
    obtain ⟨h1, h2, h3, h4⟩ := wrs_none hon hx h s k (by omega)
    rw [wrs_next h1, wr_on h2 (by omega) (blkOf_length s k), write_none h3]
    exact ⟨rfl, h2, h3, by show (wrs S b s k).1.ops + 1 = _; rw [h4]; omega⟩

theorem sync_off_none {T : DS} (hx : T.next = none) : T.sync = (T.tick.settled allM, true) := by unfold DS.sync; rw [step_none hx]; rfl

/-- A Write that is within the slot, while the power is on. -/
theorem sw_ok {S : DS} (hS : S.Ok) (hon : S.on = true) {slot : Int} (hb : badSlot slot = false) {s : ByteArray} (hf : s.size ≤ 64 * each S) :
    (DS.sw S slot s).1.Ok ∧ (DS.sw S slot s).1.L.length = S.L.length ∧
    (((DS.sw S slot s).2 = 0 ∧ (DS.sw S slot s).1.on = true ∧ (DS.sw S slot s).1.W = [] ∧ ∀ i, (DS.sw S slot s).1.read i = if first S slot ≤ i ∧ i < first S slot + nb s.size then blkOf s.data.toList (i - first S slot) else S.read i) ∨
     ((DS.sw S slot s).2 = 7 ∧ (DS.sw S slot s).1.on = false ∧ (DS.sw S slot s).1.W = [])) := by
  have hfl := first_le' hS hb
  have hn := nb_le hf
  unfold DS.sw
  rw [if_neg (by rw [hb]; decide), if_neg (by omega)]
  have hl := wrs_len S (first S slot) s.data.toList (nb s.size)
  obtain ⟨h1, ⟨h2, h3, h4⟩ | ⟨h2, h3, h4⟩⟩ := wrs_all hS hon (show first S slot + nb s.size ≤ S.L.length by omega) s.data.toList (nb s.size) (Nat.le_refl _)
  · rw [if_pos h2]
    unfold DS.sy
    rw [if_neg (by rw [h3]; decide)]
    have hsl : (wrs S (first S slot) s.data.toList (nb s.size)).1.sync.1.L.length = (wrs S (first S slot) s.data.toList (nb s.size)).1.L.length := by
      rcases sync_cases (wrs S (first S slot) s.data.toList (nb s.size)).1 with ⟨_, _, _, e⟩ | ⟨_, _, _, m, e⟩ <;> rw [e, stl_length]
    refine ⟨h1.sync, hsl.trans hl, ?_⟩
    rcases sync_cases (wrs S (first S slot) s.data.toList (nb s.size)).1 with ⟨e0, e1, e2, _⟩ | ⟨e0, e1, e2, _⟩
    · exact .inl ⟨by show errOf _ = 0; rw [e0]; rfl, e1.trans h3, e2, fun i => by rw [sync_true_read h1 (Prod.ext rfl e0) i, h4 i]⟩
    · exact .inr ⟨by show errOf _ = 7; rw [e0]; rfl, e1, e2⟩
  · rw [if_neg (by rw [h2]; decide)]
    exact ⟨h1, hl, .inr ⟨h2, h3, h4⟩⟩

theorem sw_keep {S : DS} (hS : S.Ok) (hon : S.on = true) {slot : Int} (hb : badSlot slot = false) {s : ByteArray} (hf : s.size ≤ 64 * each S) {R : Nat → Prop} {L : List Bytes} (hR : ∀ i, first S slot ≤ i → i < first S slot + each S → R i) (hK : Keep R L S) :
    Keep R L (DS.sw S slot s).1 := by
  have hfl := first_le' hS hb
  have hn := nb_le hf
  unfold DS.sw
  rw [if_neg (by rw [hb]; decide), if_neg (by omega)]
  have hk := wrs_keep hS hon (show first S slot + nb s.size ≤ S.L.length by omega) s.data.toList (R := R) (L := L) (fun i h1 h2 => hR i h1 (by omega)) hK (nb s.size) (Nat.le_refl _)
  split
  · unfold DS.sy
    split
    · exact hk
    · exact hk.sync
  · exact hk

theorem sw_none {S : DS} (hS : S.Ok) (hon : S.on = true) (hx : S.next = none) {slot : Int} (hb : badSlot slot = false) {s : ByteArray} (hf : s.size ≤ 64 * each S) :
    (DS.sw S slot s).2 = 0 ∧ (DS.sw S slot s).1.next = none ∧ (DS.sw S slot s).1.ops = S.ops + nb s.size + 1 := by
  have hfl := first_le' hS hb
  have hn := nb_le hf
  unfold DS.sw
  rw [if_neg (by rw [hb]; decide), if_neg (by omega)]
  obtain ⟨h1, h2, h3, h4⟩ := wrs_none hon hx (show first S slot + nb s.size ≤ S.L.length by omega) s.data.toList (nb s.size) (Nat.le_refl _)
  rw [if_pos h1]
  unfold DS.sy
  rw [if_neg (by rw [h2]; decide), sync_off_none h3]
  exact ⟨rfl, h3, by show (wrs S (first S slot) s.data.toList (nb s.size)).1.ops + 1 = _; rw [h4]⟩

theorem sw_few (S : DS) (slot : Int) (s : ByteArray) (hS : S.Ok) : (DS.sw S slot s).1.c ≤ S.c + 252 ∧ (DS.sw S slot s).1.ops ≤ S.ops + 253 := by
  have he := each_le' hS
  unfold DS.sw
  split
  · exact ⟨Nat.le_add_right _ _, Nat.le_add_right _ _⟩
  · split
    · exact ⟨Nat.le_add_right _ _, Nat.le_add_right _ _⟩
    · have h1 := wrs_few S (first S slot) s.data.toList (nb s.size)
      have hn : nb s.size ≤ each S := nb_le (by omega)
      have h2 := sy_few (wrs S (first S slot) s.data.toList (nb s.size)).1
      split <;> omega

theorem cat_blk {T : DS} {b : Nat} {s : Bytes} {n : Nat} (h : ∀ j, j < n → T.read (b + j) = blkOf s j) : ∀ k, k ≤ n → 64 * k ≤ s.length + 63 → cat T b k = s.take (64 * k) ++ List.replicate (64 * k - s.length) 0
  | 0, _, _ => by simp [cat]
  | k + 1, hk, hl => by
    show cat T b k ++ T.read (b + k) = _
    rw [cat_blk h k (by omega) (by omega), h k (by omega)]
    have e1 : 64 * k - s.length = 0 := by omega
    have e2 : ((s.drop (64 * k)).take 64).length = min 64 (s.length - 64 * k) := by rw [List.length_take, List.length_drop]
    have e3 : 64 - min 64 (s.length - 64 * k) = 64 * (k + 1) - s.length := by omega
    unfold blkOf
    rw [e1, List.replicate_zero, List.append_nil, ← List.append_assoc, e2, e3, Nat.mul_succ, List.take_add]

theorem cat_text {T : DS} {b : Nat} {s : Bytes} (h : ∀ j, j < nb s.length → T.read (b + j) = blkOf s j) : (cat T b (nb s.length)).take s.length = s := by
  have hn : s.length ≤ 64 * nb s.length := by unfold nb; omega
  rw [cat_blk h _ (Nat.le_refl _) (by unfold nb; omega), List.take_of_length_le hn, List.take_left']
  rfl

/-- A Read of what was written. -/
theorem sr_text {T : DS} (hon : T.on = true) {slot : Int} (hb : badSlot slot = false) {s : ByteArray} (hf : s.size ≤ 64 * each T) (h : ∀ j, j < nb s.size → T.read (first T slot + j) = blkOf s.data.toList j) : DS.sr T slot (s.size : Int) = (s, 0) := by
  have hl : s.data.toList.length = s.size := by simp
  unfold DS.sr
  rw [if_neg (by rw [hb]; decide), if_neg (by omega), if_neg (fun e => by rw [hon] at e; cases e.1), Int.toNat_natCast, ← hl, cat_text (by rw [hl]; exact h), strOf_self]

end Go.Proofs.YtkplmaaeggnbgaaDoor.Sl
