/- A store by definition: what Prepare, Commit, Drop and Open do to the state of a disk and to what the store knows; no walk. No condition but those that each states. -/
import Derived.Test.YtkplmaaeggnbgaaDoorRgCP
import Derived.Test.YtkplmaaeggnbgaaDoorSlM
namespace Go.Proofs.YtkplmaaeggnbgaaDoor.St
open Go.RowKit Dk Rg Sl

/-- A text in a slot, with its sum. -/
structure Sv where
  slot : Int
  text : ByteArray
  sum : Bytes

def Sv.cells (q : Sv) : List Value := [.int .i64 q.slot, .string q.text, .string (strOf q.sum)]
/-- Nothing is committed. -/
def Sv.no : Sv := ⟨2, ⟨#[]⟩, List.replicate 32 0⟩
def Sv.of (slot : Int) (t : ByteArray) : Sv := ⟨slot, t, sha t.data.toList⟩
def Sv.ent (q : Sv) (k : Int) : Ent := ⟨k, 0, q.slot, (q.text.size : Int), q.sum⟩
def Sv.other (q : Sv) : Int := if q.slot = 0 then 1 else 0

/-- What a store knows. -/
structure StS where
  sv : Sv
  pend : Option Sv
  odd : Bool

def StS.give (X : StS) : StS := { X with pend := none }

def prep (S : DS) (X : StS) (t : ByteArray) : DS × StS × Int :=
  if (DS.sw S X.sv.other t).2 ≠ 0 then ((DS.sw S X.sv.other t).1, X.give, (DS.sw S X.sv.other t).2) else
  if (DS.app (DS.sw S X.sv.other t).1 (X.sv.ent 1)).2.2 ≠ 0 then ((DS.app (DS.sw S X.sv.other t).1 (X.sv.ent 1)).1, X.give, (DS.app (DS.sw S X.sv.other t).1 (X.sv.ent 1)).2.2) else
  ((DS.app (DS.sw S X.sv.other t).1 (X.sv.ent 1)).1, { X with pend := some (Sv.of X.sv.other t) }, 0)

def comm (S : DS) (X : StS) : DS × StS × Int :=
  match X.pend with
  | none => (S, X, 8)
  | some r => if (DS.app S (r.ent 2)).2.2 ≠ 0 then ((DS.app S (r.ent 2)).1, X.give, (DS.app S (r.ent 2)).2.2) else ((DS.app S (r.ent 2)).1, ⟨r, none, false⟩, 0)

def drop (S : DS) (X : StS) : DS × StS × Int :=
  match X.pend with
  | none => (S, X, 8)
  | some _ => ((DS.app S (X.sv.ent 3)).1, X.give, (DS.app S (X.sv.ent 3)).2.2)

/-- The text, if there is one. -/
def Sv.view (q : Sv) : ByteArray × Bool := if q.slot = 2 then (⟨#[]⟩, false) else (q.text, true)

/-! What a disk says -/

/-- A text lies in its slot. -/
structure Lies (S : DS) (q : Sv) : Prop where
  slot : badSlot q.slot = false
  fit : q.text.size ≤ 64 * each S
  sum : q.sum = sha q.text.data.toList
  blk : ∀ j, j < nb q.text.size → S.read (first S q.slot + j) = blkOf q.text.data.toList j

def Says (S : DS) (q : Sv) : Prop :=
  (q = Sv.no ∧ (lastE S = none ∨ ∃ e, lastE S = some e ∧ e.slot = 2)) ∨
  (Lies S q ∧ ∃ e, lastE S = some e ∧ e.slot = q.slot ∧ e.size = (q.text.size : Int) ∧ e.sum = q.sum)

/-- A disk that is on, of which nothing waits; few things were done. -/
structure Fine (n m : Nat) (S : DS) : Prop where
  ok : S.Ok
  wait : S.W = []
  len : S.L.length = n
  few : S.c ≤ m ∧ S.ops ≤ m ∧ lastN S ≤ m

theorem Fine.more {n m k : Nat} {S : DS} (h : Fine n m S) (hk : m ≤ k) : Fine n k S := ⟨h.ok, h.wait, h.len, by have := h.few; omega⟩

theorem lies_slot {S : DS} {q : Sv} (h : Lies S q) : q.slot = 0 ∨ q.slot = 1 := bad_no h.slot
theorem says_slot {S : DS} {q : Sv} (h : Says S q) : q.slot = 0 ∨ q.slot = 1 ∨ q.slot = 2 := by
  rcases h with ⟨rfl, _⟩ | ⟨h, _⟩
  · exact .inr (.inr rfl)
  · rcases lies_slot h with h | h
    · exact .inl h
    · exact .inr (.inl h)

theorem says_view {S : DS} {q : Sv} (h : Says S q) : q.slot = 2 ∧ q = Sv.no ∨ q.slot ≠ 2 ∧ Lies S q := by
  rcases h with ⟨rfl, _⟩ | ⟨h, _⟩
  · exact .inl ⟨rfl, rfl⟩
  · exact .inr ⟨by rcases lies_slot h with h | h <;> omega, h⟩

theorem ent_valid {S : DS} {q : Sv} (h : q = Sv.no ∨ Lies S q) (hS : S.Ok) {k n : Int} (h1 : 1 ≤ k ∧ k ≤ 3) (h2 : 1 ≤ n ∧ n ≤ 4294967295) : ((q.ent k).num n).valid = true := by
  rcases h with rfl | h
  · exact decide_eq_true ⟨h1.1, h1.2, h2.1, h2.2, show (0 : Int) ≤ 2 by decide, show (2 : Int) ≤ 2 by decide, show (0 : Int) ≤ 0 by decide, show (0 : Int) ≤ 4294967295 by decide, by show (List.replicate 32 (0 : UInt8)).length = 32; simp⟩
  · have he := each_le' hS
    have hf := h.fit
    have hs := lies_slot h
    refine decide_eq_true ⟨h1.1, h1.2, h2.1, h2.2, show 0 ≤ q.slot by omega, show q.slot ≤ 2 by omega, show (0 : Int) ≤ (q.text.size : Int) by omega, show (q.text.size : Int) ≤ 4294967295 by omega, ?_⟩
    show q.sum.length = 32
    rw [h.sum, sha_length]

/-- The number that an entry bears does not matter. -/
theorem app_num (S : DS) (e : Ent) (n : Int) : DS.app S (e.num n) = DS.app S e := rfl

theorem app_st {n m : Nat} {S : DS} {q : Sv} {k : Int} (h : Fine n m S) (hon : S.on = true) (hq : q = Sv.no ∨ Lies S q) (hk : 1 ≤ k ∧ k ≤ 3) (hm : m ≤ 1000000) :
    Fine n (m + 2) (DS.app S (q.ent k)).1 ∧ (∀ i, 8 ≤ i → (DS.app S (q.ent k)).1.read i = S.read i) ∧
    ((DS.app S (q.ent k)).2.2 = 0 ∧ (DS.app S (q.ent k)).1.on = true ∧ lastE (DS.app S (q.ent k)).1 = some ((q.ent k).num (lastN S + 1)) ∨
     (DS.app S (q.ent k)).2.2 = 7 ∧ (DS.app S (q.ent k)).1.on = false ∧ (lastE (DS.app S (q.ent k)).1 = some ((q.ent k).num (lastN S + 1)) ∨ lastE (DS.app S (q.ent k)).1 = lastE S)) := by
  obtain ⟨b0, _⟩ := lastN_ok S
  have hf := h.few
  have hv := ent_valid hq h.ok hk (show 1 ≤ lastN S + 1 ∧ lastN S + 1 ≤ 4294967295 by omega)
  obtain ⟨j, hj⟩ : ∃ j : Nat, ((q.ent k).num (lastN S + 1)).number % 8 = (j : Int) := ⟨((q.ent k).num (lastN S + 1)).number.toNat % 8, by show (lastN S + 1) % 8 = (((lastN S + 1).toNat % 8 : Nat) : Int); omega⟩
  have hj8 : j < 8 := by omega
  have hc := app_cases h.ok hon h.wait (e := (q.ent k).num (lastN S + 1)) rfl hv hj
  rw [app_num] at hc
  obtain ⟨a1, a2, a3, a4, a5, a6⟩ := hc
  have hnew : (∀ i, (DS.app S (q.ent k)).1.read i = if j = i then ((q.ent k).num (lastN S + 1)).blk else S.read i) → lastE (DS.app S (q.ent k)).1 = some ((q.ent k).num (lastN S + 1)) := fun hr =>
    (last_new (S := S) hv hj (show lastN S < lastN S + 1 by omega) (fun i _ => hr i)).1
  have hN : ∀ (e : Option Ent), (e = some ((q.ent k).num (lastN S + 1)) ∨ e = lastE S) → (e.getD Ent.zero).number ≤ ((m + 2 : Nat) : Int) := by
    rintro e (rfl | rfl)
    · show lastN S + 1 ≤ _; omega
    · show lastN S ≤ _; omega
  have fine : (lastE (DS.app S (q.ent k)).1 = some ((q.ent k).num (lastN S + 1)) ∨ lastE (DS.app S (q.ent k)).1 = lastE S) → Fine n (m + 2) (DS.app S (q.ent k)).1 := fun hl =>
    ⟨a1, a2, a3.trans h.len, by omega, by omega, hN _ hl⟩
  have hread : (∀ i, (DS.app S (q.ent k)).1.read i = if j = i then ((q.ent k).num (lastN S + 1)).blk else S.read i) → ∀ i, 8 ≤ i → (DS.app S (q.ent k)).1.read i = S.read i := fun hr i hi => by
    rw [hr i, if_neg (by omega)]
  rcases a6 with ⟨c1, c2, c3⟩ | ⟨c1, c2, c3 | c3⟩
  · have hl := hnew c3
    exact ⟨fine (.inl hl), hread c3, .inl ⟨by rw [c1], c2, hl⟩⟩
  · have hl : lastE (DS.app S (q.ent k)).1 = lastE S := lastE_congr (fun i _ => c3 i)
    exact ⟨fine (.inr hl), fun i _ => c3 i, .inr ⟨by rw [c1], c2, .inr hl⟩⟩
  · have hl := hnew c3
    exact ⟨fine (.inl hl), hread c3, .inr ⟨by rw [c1], c2, .inl hl⟩⟩

theorem each_of {S T : DS} (h : T.L.length = S.L.length) : each T = each S := by unfold each; rw [h]
theorem first_of {S T : DS} (h : T.L.length = S.L.length) (i : Int) : first T i = first S i := by unfold first; rw [each_of h]
theorem first_ge (S : DS) (i : Int) : 8 ≤ first S i := Nat.le_add_right _ _

theorem Lies.of {S T : DS} {q : Sv} (h : Lies S q) (hL : T.L.length = S.L.length) (hr : ∀ i, first S q.slot ≤ i → i < first S q.slot + each S → T.read i = S.read i) : Lies T q := by
  refine ⟨h.slot, by rw [each_of hL]; exact h.fit, h.sum, fun j hj => ?_⟩
  have := nb_le h.fit
  rw [first_of hL, hr _ (by omega) (by omega), h.blk j hj]

theorem Says.of {S T : DS} {q : Sv} (h : Says S q) (hL : T.L.length = S.L.length) (hr : q.slot ≠ 2 → ∀ i, first S q.slot ≤ i → i < first S q.slot + each S → T.read i = S.read i) (hl : lastE T = lastE S) : Says T q := by
  rcases h with ⟨h1, h2⟩ | ⟨h1, h2⟩
  · exact .inl ⟨h1, by rw [hl]; exact h2⟩
  · exact .inr ⟨h1.of hL (hr (by rcases lies_slot h1 with h | h <;> omega)), by rw [hl]; exact h2⟩

theorem says_new {T : DS} {q : Sv} (h : q = Sv.no ∨ Lies T q) {k n : Int} (hl : lastE T = some ((q.ent k).num n)) : Says T q := by
  rcases h with rfl | h
  · exact .inl ⟨rfl, .inr ⟨_, hl, rfl⟩⟩
  · exact .inr ⟨h, _, hl, rfl, rfl, rfl⟩

/-- An entry that says what the journal says already. -/
theorem app_same {n m : Nat} {S : DS} {q : Sv} {k : Int} (h : Fine n m S) (hon : S.on = true) (hq : Says S q) (hk : 1 ≤ k ∧ k ≤ 3) (hm : m ≤ 1000000) :
    Fine n (m + 2) (DS.app S (q.ent k)).1 ∧ Says (DS.app S (q.ent k)).1 q ∧ (∀ r, Lies S r → Lies (DS.app S (q.ent k)).1 r) ∧
    ((DS.app S (q.ent k)).2.2 = 0 ∧ (DS.app S (q.ent k)).1.on = true ∨ (DS.app S (q.ent k)).2.2 = 7 ∧ (DS.app S (q.ent k)).1.on = false) := by
  have hq' : q = Sv.no ∨ Lies S q := by rcases says_view hq with ⟨_, h⟩ | ⟨_, h⟩; exact .inl h; exact .inr h
  obtain ⟨a1, a2, a3⟩ := app_st h hon hq' hk hm
  have hL : (DS.app S (q.ent k)).1.L.length = S.L.length := a1.len.trans h.len.symm
  have hlies : ∀ r, Lies S r → Lies (DS.app S (q.ent k)).1 r := fun r hr => hr.of hL (fun i hi _ => a2 i (Nat.le_trans (first_ge _ _) hi))
  have hsame : lastE (DS.app S (q.ent k)).1 = lastE S → Says (DS.app S (q.ent k)).1 q := hq.of hL (fun _ i hi _ => a2 i (Nat.le_trans (first_ge _ _) hi))
  have hnew : lastE (DS.app S (q.ent k)).1 = some ((q.ent k).num (lastN S + 1)) → Says (DS.app S (q.ent k)).1 q := says_new (hq'.elim .inl (fun h => .inr (hlies q h)))
  refine ⟨a1, ?_, hlies, ?_⟩
  · rcases a3 with ⟨_, _, h⟩ | ⟨_, _, h | h⟩
    · exact hnew h
    · exact hnew h
    · exact hsame h
  · rcases a3 with ⟨h1, h2, _⟩ | ⟨h1, h2, _⟩
    · exact .inl ⟨h1, h2⟩
    · exact .inr ⟨h1, h2⟩

/-- The entry of a text that lies in its slot. -/
theorem app_turn {n m : Nat} {S : DS} {q r : Sv} {k : Int} (h : Fine n m S) (hon : S.on = true) (hq : Says S q) (hr : Lies S r) (hk : 1 ≤ k ∧ k ≤ 3) (hm : m ≤ 1000000) :
    Fine n (m + 2) (DS.app S (r.ent k)).1 ∧
    ((DS.app S (r.ent k)).2.2 = 0 ∧ (DS.app S (r.ent k)).1.on = true ∧ Says (DS.app S (r.ent k)).1 r ∨ (DS.app S (r.ent k)).2.2 = 7 ∧ (DS.app S (r.ent k)).1.on = false ∧ (Says (DS.app S (r.ent k)).1 q ∨ Says (DS.app S (r.ent k)).1 r)) := by
  obtain ⟨a1, a2, a3⟩ := app_st h hon (.inr hr) hk hm
  have hL : (DS.app S (r.ent k)).1.L.length = S.L.length := a1.len.trans h.len.symm
  have hlr : Lies (DS.app S (r.ent k)).1 r := hr.of hL (fun i hi _ => a2 i (Nat.le_trans (first_ge _ _) hi))
  refine ⟨a1, ?_⟩
  rcases a3 with ⟨h1, h2, h3⟩ | ⟨h1, h2, h3 | h3⟩
  · exact .inl ⟨h1, h2, says_new (.inr hlr) h3⟩
  · exact .inr ⟨h1, h2, .inr (says_new (.inr hlr) h3)⟩
  · exact .inr ⟨h1, h2, .inl (hq.of hL (fun _ i hi _ => a2 i (Nat.le_trans (first_ge _ _) hi)) h3)⟩

theorem other_ok (q : Sv) : badSlot q.other = false ∧ (q.other = 0 ∨ q.other = 1) ∧ q.other ≠ q.slot := by
  unfold Sv.other
  split
  · rename_i h; exact ⟨rfl, .inr rfl, by rw [h]; decide⟩
  · rename_i h; exact ⟨rfl, .inl rfl, fun e => h e.symm⟩

theorem slots_apart {S : DS} {a b : Int} (ha : badSlot a = false) (hb : badSlot b = false) (h : a ≠ b) {i : Nat} (h1 : first S a ≤ i) (h2 : i < first S a + each S) : ¬(first S b ≤ i ∧ i < first S b + each S) := by
  unfold first at *
  rcases bad_no ha with rfl | rfl <;> rcases bad_no hb with rfl | rfl
  · exact absurd rfl h
  · simp at *; omega
  · simp at *; omega
  · exact absurd rfl h

/-- A text is written into the slot that is not the committed one's. -/
theorem sw_st {n m : Nat} {S : DS} {q : Sv} {t : ByteArray} (h : Fine n m S) (hon : S.on = true) (hq : Says S q) (hf : t.size ≤ 64 * each S) :
    Fine n (m + 253) (DS.sw S q.other t).1 ∧ Says (DS.sw S q.other t).1 q ∧
    ((DS.sw S q.other t).2 = 0 ∧ (DS.sw S q.other t).1.on = true ∧ Lies (DS.sw S q.other t).1 (Sv.of q.other t) ∨ (DS.sw S q.other t).2 = 7 ∧ (DS.sw S q.other t).1.on = false) := by
  obtain ⟨o1, o2, o3⟩ := other_ok q
  obtain ⟨a1, a2, a3⟩ := sw_ok h.ok hon o1 hf
  have hfew := sw_few S q.other t h.ok
  have hn := nb_le hf
  have hK := sw_keep h.ok hon o1 hf (R := fun i => first S q.other ≤ i ∧ i < first S q.other + each S) (L := S.L) (fun i h1 h2 => ⟨h1, h2⟩) ⟨fun _ _ => rfl, fun j hj => by rw [h.wait] at hj; exact absurd hj (Nat.not_lt_zero j)⟩
  have hrd : ∀ i, ¬(first S q.other ≤ i ∧ i < first S q.other + each S) → (DS.sw S q.other t).1.read i = S.read i := fun i hi => by rw [hK.read hi, readE h.wait]
  have hlast : lastE (DS.sw S q.other t).1 = lastE S := lastE_congr (fun i hi => hrd i (fun e => by have := first_ge S q.other; omega))
  have hw : (DS.sw S q.other t).1.W = [] := by rcases a3 with ⟨_, _, e, _⟩ | ⟨_, _, e⟩ <;> exact e
  have hf1 : Fine n (m + 253) (DS.sw S q.other t).1 := ⟨a1, hw, a2.trans h.len, by have := h.few; omega, by have := h.few; omega, by unfold lastN; rw [hlast]; have := h.few; show lastN S ≤ _; omega⟩
  refine ⟨hf1, hq.of a2 (fun h2 i hi1 hi2 => hrd i (slots_apart (by rcases says_view hq with ⟨e, _⟩ | ⟨_, e⟩; exact absurd e h2; exact e.slot) o1 (fun e => o3 e.symm) hi1 hi2)) hlast, ?_⟩
  rcases a3 with ⟨e1, e2, _, e4⟩ | ⟨e1, e2, _⟩
  · refine .inl ⟨e1, e2, o1, by rw [each_of a2]; exact hf, rfl, fun j hj => ?_⟩
    show (DS.sw S q.other t).1.read (first _ q.other + j) = _
    have hj' : j < nb t.size := hj
    rw [first_of a2, e4, if_pos ⟨Nat.le_add_right _ _, by omega⟩]
    congr 1; omega
  · exact .inr ⟨e1, e2⟩

/-- What comes of a Prepare of a text that has room. -/
theorem prep_st {n m : Nat} {S : DS} {X : StS} {t : ByteArray} (h : Fine n m S) (hon : S.on = true) (hq : Says S X.sv) (hf : t.size ≤ 64 * each S) (hm : m ≤ 900000) :
    Fine n (m + 255) (prep S X t).1 ∧ Says (prep S X t).1 X.sv ∧
    ((prep S X t).2 = ({ X with pend := some (Sv.of X.sv.other t) }, 0) ∧ (prep S X t).1.on = true ∧ Lies (prep S X t).1 (Sv.of X.sv.other t) ∨ (prep S X t).2 = (X.give, 7) ∧ (prep S X t).1.on = false) := by
  obtain ⟨a1, a2, a3⟩ := sw_st h hon hq hf
  unfold prep
  rcases a3 with ⟨e1, e2, e3⟩ | ⟨e1, e2⟩
  · rw [if_neg (by rw [e1]; decide)]
    obtain ⟨b1, b2, b3, b4⟩ := app_same (k := 1) a1 e2 a2 (by decide) (by omega)
    rcases b4 with ⟨c1, c2⟩ | ⟨c1, c2⟩
    · rw [if_neg (by rw [c1]; decide)]
      exact ⟨b1, b2, .inl ⟨rfl, c2, b3 _ e3⟩⟩
    · rw [if_pos (by rw [c1]; decide)]
      exact ⟨b1, b2, .inr ⟨by rw [c1], c2⟩⟩
  · rw [if_pos (by rw [e1]; decide)]
    exact ⟨a1.more (by omega), a2, .inr ⟨by rw [e1], e2⟩⟩

theorem comm_st {n m : Nat} {S : DS} {X : StS} {r : Sv} (h : Fine n m S) (hon : S.on = true) (hq : Says S X.sv) (hp : X.pend = some r) (hr : Lies S r) (hm : m ≤ 900000) :
    Fine n (m + 2) (comm S X).1 ∧
    ((comm S X).2 = (⟨r, none, false⟩, 0) ∧ (comm S X).1.on = true ∧ Says (comm S X).1 r ∨ (comm S X).2 = (X.give, 7) ∧ (comm S X).1.on = false ∧ (Says (comm S X).1 X.sv ∨ Says (comm S X).1 r)) := by
  obtain ⟨a1, a2⟩ := app_turn (k := 2) h hon hq hr (by decide) (by omega)
  unfold comm
  rw [hp]
  dsimp only
  rcases a2 with ⟨c1, c2, c3⟩ | ⟨c1, c2, c3⟩
  · rw [if_neg (by rw [c1]; decide)]
    exact ⟨a1, .inl ⟨rfl, c2, c3⟩⟩
  · rw [if_pos (by rw [c1]; decide)]
    exact ⟨a1, .inr ⟨by rw [c1], c2, c3⟩⟩

theorem drop_st {n m : Nat} {S : DS} {X : StS} {r : Sv} (h : Fine n m S) (hon : S.on = true) (hq : Says S X.sv) (hp : X.pend = some r) (hm : m ≤ 900000) :
    Fine n (m + 2) (drop S X).1 ∧ Says (drop S X).1 X.sv ∧ (drop S X).2.1 = X.give ∧ ((drop S X).2.2 = 0 ∧ (drop S X).1.on = true ∨ (drop S X).2.2 = 7 ∧ (drop S X).1.on = false) := by
  obtain ⟨a1, a2, _, a4⟩ := app_same (k := 3) h hon hq (by decide) (by omega)
  unfold drop
  rw [hp]
  exact ⟨a1, a2, rfl, a4⟩

/-! The power fails, and is back. -/
theorem fail_st {n m : Nat} {T : DS} (h : Fine n m T) (k : Nat) : Fine n m (T.fail k).start ∧ (T.fail k).start.on = true ∧ ∀ q, Says T q → Says (T.fail k).start q := by
  have hall : (T.fail k).L = T.L ∧ (T.fail k).W = [] ∧ (T.fail k).c = T.c ∧ (T.fail k).ops = T.ops := by
    unfold DS.fail
    split
    · refine ⟨?_, rfl, rfl, rfl⟩
      show stl k T.W T.L T.W.length = T.L
      rw [h.wait]; rfl
    · exact ⟨rfl, h.wait, rfl, rfl⟩
  have hrd : ∀ i, (T.fail k).start.read i = T.read i := fun i => by
    rw [readE (show (T.fail k).start.W = [] from hall.2.1), readE h.wait]
    show bAt (T.fail k).L i = _
    rw [hall.1]
  have hl : lastE (T.fail k).start = lastE T := lastE_congr (fun i _ => hrd i)
  have hL : (T.fail k).start.L.length = T.L.length := by show (T.fail k).L.length = _; rw [hall.1]
  refine ⟨⟨(h.ok.fail k).start, hall.2.1, hL.trans h.len, by show (T.fail k).c ≤ _; rw [hall.2.2.1]; exact h.few.1, by show (T.fail k).ops ≤ _; rw [hall.2.2.2]; exact h.few.2.1, by unfold lastN; rw [hl]; exact h.few.2.2⟩, rfl, fun q hq => hq.of hL (fun _ i _ _ => hrd i) hl⟩

theorem fine_new {n : Nat} (h1 : 16 ≤ n) (h2 : n ≤ 512) : Fine n 0 (new n) ∧ Says (new n) Sv.no := by
  refine ⟨⟨new_ok h1 h2, rfl, ?_, Nat.le_refl _, Nat.le_refl _, by rw [new_lastN n (by omega)]; exact Int.le_refl _⟩, .inl ⟨rfl, .inl (new_last n (by omega))⟩⟩
  show (List.replicate n zeroB).length = n
  simp

theorem Fine.plan {n m : Nat} {S : DS} (h : Fine n m S) {k j : Nat} (hk : k < 2 ^ 63) (hj : j < 2 ^ 64) : Fine n m (S.plan k j) := ⟨h.ok.plan hk hj, h.wait, h.len, h.few⟩

/-! Where no failure is planned, nothing fails. -/
theorem write_calm {S : DS} (hx : S.next = none) (a : Nat) (s : Bytes) : (S.write a s).2 = true ∧ (S.write a s).1.next = none := by rw [Dk.write_none hx]; exact ⟨rfl, hx⟩
theorem sync_calm {S : DS} (hx : S.next = none) : S.sync.2 = true ∧ S.sync.1.next = none := by rw [sync_off_none hx]; exact ⟨rfl, hx⟩

theorem app_calm {S : DS} {e : Ent} (hx : S.next = none) : (DS.app S e).1.next = none ∧ (DS.app S e).2.2 ≠ 7 ∨ S.on = false := by
  by_cases hon : S.on = false
  · exact .inr hon
  · refine .inl ?_
    unfold DS.app
    rw [if_neg hon]
    split
    · exact ⟨hx, show (6 : Int) ≠ 7 by decide⟩
    · split
      · exact ⟨hx, show (1 : Int) ≠ 7 by decide⟩
      · generalize ((e.num (lastN S + 1)).number % 8).toNat = a
        generalize (e.num (lastN S + 1)).blk = s
        obtain ⟨w1, w2⟩ := write_calm hx a s
        obtain ⟨s1, s2⟩ := sync_calm w2
        rw [if_neg (by rw [w1]; decide), if_neg (by rw [s1]; decide)]
        exact ⟨s2, show (0 : Int) ≠ 7 by decide⟩

theorem prep_calm {n m : Nat} {S : DS} {X : StS} {t : ByteArray} (h : Fine n m S) (hon : S.on = true) (hx : S.next = none) (hq : Says S X.sv) (hf : t.size ≤ 64 * each S) (hm : m ≤ 900000) :
    (prep S X t).2.2 = 0 ∧ (prep S X t).1.next = none := by
  obtain ⟨o1, _, _⟩ := other_ok X.sv
  obtain ⟨s1, s2, _⟩ := sw_none h.ok hon hx o1 hf
  obtain ⟨a1, a2, a3⟩ := sw_st h hon hq hf
  obtain ⟨e1, e2, _⟩ | ⟨e1, _⟩ := a3
  · obtain ⟨_, _, _, b4⟩ := app_same (k := 1) a1 e2 a2 (by decide) (by omega)
    rcases app_calm (e := X.sv.ent 1) s2 with ⟨c1, c2⟩ | c
    · unfold prep
      rw [if_neg (by rw [e1]; decide)]
      rcases b4 with ⟨d1, _⟩ | ⟨d1, _⟩
      · rw [if_neg (by rw [d1]; decide)]; exact ⟨rfl, c1⟩
      · exact absurd d1 c2
    · rw [e2] at c; cases c
  · rw [s1] at e1; cases e1

theorem comm_calm {n m : Nat} {S : DS} {X : StS} {r : Sv} (h : Fine n m S) (hon : S.on = true) (hx : S.next = none) (hq : Says S X.sv) (hp : X.pend = some r) (hr : Lies S r) (hm : m ≤ 900000) :
    (comm S X).2.2 = 0 ∧ (comm S X).1.next = none := by
  obtain ⟨_, a2⟩ := app_turn (k := 2) h hon hq hr (by decide) (by omega)
  rcases app_calm (e := r.ent 2) hx with ⟨c1, c2⟩ | c
  · unfold comm
    rw [hp]
    dsimp only
    rcases a2 with ⟨d1, _⟩ | ⟨d1, _⟩
    · rw [if_neg (by rw [d1]; decide)]; exact ⟨rfl, c1⟩
    · exact absurd d1 c2
  · rw [hon] at c; cases c

theorem drop_calm {n m : Nat} {S : DS} {X : StS} {r : Sv} (h : Fine n m S) (hon : S.on = true) (hx : S.next = none) (hq : Says S X.sv) (hp : X.pend = some r) (hm : m ≤ 900000) :
    (drop S X).2.2 = 0 ∧ (drop S X).1.next = none := by
  obtain ⟨_, _, _, a4⟩ := app_same (k := 3) h hon hq (by decide) (by omega)
  rcases app_calm (e := X.sv.ent 3) hx with ⟨c1, c2⟩ | c
  · unfold drop
    rw [hp]
    rcases a4 with ⟨d1, _⟩ | ⟨d1, _⟩
    · exact ⟨d1, c1⟩
    · exact absurd d1 c2
  · rw [hon] at c; cases c

end Go.Proofs.YtkplmaaeggnbgaaDoor.St
