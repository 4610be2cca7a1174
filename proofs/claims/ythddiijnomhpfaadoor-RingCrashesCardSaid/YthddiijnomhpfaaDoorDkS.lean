/- The state of a disk by definition, and what is done to it. No condition but those that each states. -/
import Derived.Test.YthddiijnomhpfaaDoorDkG
namespace Go.Proofs.YthddiijnomhpfaaDoor.Dk
open Go.RowKit

abbrev Bytes := List UInt8

/-- The state of a disk: the power, what lasts, what waits, how many operations there were, the planned failure (after how many more, with which mask); c: how many writes were laid down so far. -/
structure DS where
  on : Bool
  L : List Bytes
  W : List (Nat × Bytes)
  ops : Nat
  next : Option (Nat × Nat)
  c : Nat

/-- Does the mask let write j last? -/
def bit (m j : Nat) : Bool := m / 2 ^ (j % 64) % 2 == 1

def wAt (W : List (Nat × Bytes)) (j : Nat) : Nat × Bytes := W.getD j (0, [])

/-- What lasts when the first k of those that wait were settled. -/
def stl (m : Nat) (W : List (Nat × Bytes)) (L : List Bytes) : Nat → List Bytes
  | 0 => L
  | k + 1 => if bit m k then (stl m W L k).set (wAt W k).1 (wAt W k).2 else stl m W L k

/-- The last of the first k writes that is one to block i. -/
def lastUpto (W : List (Nat × Bytes)) (i : Nat) : Nat → Option Nat
  | 0 => none
  | k + 1 => if (wAt W k).1 = i then some k else lastUpto W i k

def lastIx (W : List (Nat × Bytes)) (i : Nat) : Option Nat := lastUpto W i W.length

def bAt (L : List Bytes) (i : Nat) : Bytes := L.getD i []

def DS.readUpto (S : DS) (i k : Nat) : Bytes := match lastUpto S.W i k with
  | some j => (wAt S.W j).2
  | none => bAt S.L i
def DS.read (S : DS) (i : Nat) : Bytes := S.readUpto i S.W.length

def DS.settled (S : DS) (m : Nat) : DS := { S with L := stl m S.W S.L S.W.length, W := [] }
def DS.lose (S : DS) (m : Nat) : DS := { S.settled m with on := false }
def DS.put (S : DS) (i : Nat) (s : Bytes) : DS := { S with W := S.W ++ [(i, s)], c := S.c + 1 }
def DS.tick (S : DS) : DS := { S with ops := S.ops + 1 }
def DS.plan (S : DS) (k m : Nat) : DS := { S with next := some (k, m) }
/-- An operation is counted; false: it was interrupted. -/
def DS.step (S : DS) : DS × Bool := match S.next with
  | none => (S.tick, true)
  | some (0, m) => ({ S.tick with next := none }.lose m, false)
  | some (k + 1, m) => (S.tick.plan k m, true)
def allM : Nat := 18446744073709551615
def DS.write (S : DS) (i : Nat) (s : Bytes) : DS × Bool := (S.put i s).step
def DS.sync (S : DS) : DS × Bool := if S.step.2 then (S.step.1.settled allM, true) else S.step
def DS.fail (S : DS) (m : Nat) : DS := if S.on then S.lose m else S
def DS.start (S : DS) : DS := { S with on := true }
def zeroB : Bytes := List.replicate 64 0
def new (n : Nat) : DS := { on := true, L := List.replicate n zeroB, W := [], ops := 0, next := none, c := 0 }

/-- What holds of every disk. -/
structure DS.Ok (S : DS) : Prop where
  lo : 16 ≤ S.L.length
  hi : S.L.length ≤ 512
  blk : ∀ i, i < S.L.length → (bAt S.L i).length = 64
  wat : ∀ j, j < S.W.length → (wAt S.W j).1 < S.L.length ∧ (wAt S.W j).2.length = 64
  few : S.W.length ≤ S.c
  next : ∀ k m, S.next = some (k, m) → k < 2 ^ 63 ∧ m < 2 ^ 64

theorem wAt_lt {W : List (Nat × Bytes)} {j : Nat} (h : j < W.length) : W[j]? = some (wAt W j) := by
  unfold wAt; rw [List.getD_eq_getElem?_getD, List.getElem?_eq_getElem h]; rfl
theorem bAt_lt {L : List Bytes} {j : Nat} (h : j < L.length) : L[j]? = some (bAt L j) := by
  unfold bAt; rw [List.getD_eq_getElem?_getD, List.getElem?_eq_getElem h]; rfl
theorem wAt_app_lt {W V : List (Nat × Bytes)} {j : Nat} (h : j < W.length) : wAt (W ++ V) j = wAt W j := by
  unfold wAt; rw [List.getD_eq_getElem?_getD, List.getD_eq_getElem?_getD, List.getElem?_append_left h]
theorem wAt_app_eq (W : List (Nat × Bytes)) (x : Nat × Bytes) : wAt (W ++ [x]) W.length = x := by
  unfold wAt; simp [List.getD]

theorem stl_length (m : Nat) (W : List (Nat × Bytes)) (L : List Bytes) : ∀ k, (stl m W L k).length = L.length
  | 0 => rfl
  | k + 1 => by
    unfold stl
    split
    · rw [List.length_set]; exact stl_length m W L k
    · exact stl_length m W L k

theorem bAt_set (L : List Bytes) (a i : Nat) (s : Bytes) : bAt (L.set a s) i = if i = a ∧ a < L.length then s else bAt L i := by
  unfold bAt
  rw [List.getD_eq_getElem?_getD, List.getD_eq_getElem?_getD, List.getElem?_set]
  by_cases h : a = i
  · subst h
    by_cases h2 : a < L.length
    · simp [h2]
    · simp [h2]
  · rw [if_neg h, if_neg (fun h2 => h h2.1.symm)]

theorem stl_blk {m : Nat} {W : List (Nat × Bytes)} {L : List Bytes} (hL : ∀ i, i < L.length → (bAt L i).length = 64) (hW : ∀ j, j < W.length → (wAt W j).1 < L.length ∧ (wAt W j).2.length = 64) :
    ∀ k, k ≤ W.length → ∀ i, i < L.length → (bAt (stl m W L k) i).length = 64
  | 0, _, i, hi => hL i hi
  | k + 1, hk, i, hi => by
    unfold stl
    have ih := stl_blk (m := m) hL hW k (by omega) i hi
    split
    · rw [bAt_set]
      split
      · exact (hW k (by omega)).2
      · exact ih
    · exact ih

theorem lastUpto_some {W : List (Nat × Bytes)} {i : Nat} : ∀ {k j : Nat}, lastUpto W i k = some j → j < k ∧ (wAt W j).1 = i
  | 0, _, h => by cases h
  | k + 1, j, h => by
    unfold lastUpto at h
    split at h
    · cases h; exact ⟨Nat.lt_succ_self _, by assumption⟩
    · have := lastUpto_some h; exact ⟨by omega, this.2⟩

theorem lastUpto_none {W : List (Nat × Bytes)} {i : Nat} : ∀ {k : Nat}, lastUpto W i k = none → ∀ j, j < k → (wAt W j).1 ≠ i
  | 0, _, j, hj => absurd hj (Nat.not_lt_zero j)
  | k + 1, h, j, hj => by
    unfold lastUpto at h
    split at h
    · cases h
    · rename_i hne
      by_cases e : j = k
      · subst e; exact hne
      · exact lastUpto_none h j (by omega)

theorem lastUpto_app (W V : List (Nat × Bytes)) (i : Nat) : ∀ k, k ≤ W.length → lastUpto (W ++ V) i k = lastUpto W i k
  | 0, _ => rfl
  | k + 1, hk => by
    unfold lastUpto
    rw [wAt_app_lt (by omega), lastUpto_app W V i k (by omega)]

theorem lastIx_put (W : List (Nat × Bytes)) (a i : Nat) (s : Bytes) : lastIx (W ++ [(a, s)]) i = if a = i then some W.length else lastIx W i := by
  unfold lastIx
  rw [List.length_append, List.length_singleton]
  show (if (wAt (W ++ [(a, s)]) W.length).1 = i then some W.length else lastUpto (W ++ [(a, s)]) i W.length) = _
  rw [wAt_app_eq, lastUpto_app _ _ _ _ (Nat.le_refl _)]

theorem stl_nil (m : Nat) (L : List Bytes) : stl m [] L 0 = L := rfl

theorem DS.Ok.settled {S : DS} (h : S.Ok) (m : Nat) : (S.settled m).Ok := by
  have hl : (S.settled m).L.length = S.L.length := stl_length _ _ _ _
  refine ⟨by rw [hl]; exact h.lo, by rw [hl]; exact h.hi, fun i hi => ?_, fun j hj => ?_, Nat.zero_le _, h.next⟩
  · exact stl_blk h.blk h.wat _ (Nat.le_refl _) i (by rw [hl] at hi; exact hi)
  · exact absurd hj (Nat.not_lt_zero j)
theorem DS.Ok.put {S : DS} (h : S.Ok) {i : Nat} {s : Bytes} (hi : i < S.L.length) (hs : s.length = 64) : (S.put i s).Ok := by
  refine ⟨h.lo, h.hi, h.blk, fun j hj => ?_, ?_, h.next⟩
  · have hj' : j < S.W.length + 1 := by simpa [DS.put] using hj
    by_cases e : j = S.W.length
    · subst e
      show (wAt (S.W ++ [(i, s)]) S.W.length).1 < _ ∧ (wAt (S.W ++ [(i, s)]) S.W.length).2.length = 64
      rw [wAt_app_eq]; exact ⟨hi, hs⟩
    · show (wAt (S.W ++ [(i, s)]) j).1 < _ ∧ (wAt (S.W ++ [(i, s)]) j).2.length = 64
      rw [wAt_app_lt (by omega)]; exact h.wat j (by omega)
  · have := h.few
    show (S.W ++ [(i, s)]).length ≤ S.c + 1
    rw [List.length_append, List.length_singleton]; omega
theorem DS.Ok.lose {S : DS} (h : S.Ok) (m : Nat) : (S.lose m).Ok :=
  have k := h.settled m
  ⟨k.lo, k.hi, k.blk, k.wat, k.few, k.next⟩
theorem DS.Ok.tick {S : DS} (h : S.Ok) : S.tick.Ok := ⟨h.lo, h.hi, h.blk, h.wat, h.few, h.next⟩
theorem DS.Ok.plan {S : DS} (h : S.Ok) {k m : Nat} (hk : k < 2 ^ 63) (hm : m < 2 ^ 64) : (S.plan k m).Ok := ⟨h.lo, h.hi, h.blk, h.wat, h.few, fun k' m' e => by cases e; exact ⟨hk, hm⟩⟩
theorem DS.Ok.start {S : DS} (h : S.Ok) : S.start.Ok := ⟨h.lo, h.hi, h.blk, h.wat, h.few, h.next⟩
theorem DS.Ok.clear {S : DS} (h : S.Ok) : ({ S with next := none } : DS).Ok := ⟨h.lo, h.hi, h.blk, h.wat, h.few, fun _ _ e => by cases e⟩

theorem new_ok {n : Nat} (h1 : 16 ≤ n) (h2 : n ≤ 512) : (new n).Ok := by
  have hl : (new n).L.length = n := by simp [new]
  refine ⟨by rw [hl]; exact h1, by rw [hl]; exact h2, fun i hi => ?_, fun j hj => absurd hj (Nat.not_lt_zero j), Nat.zero_le _, fun _ _ e => by cases e⟩
  rw [hl] at hi
  have : bAt (new n).L i = zeroB := by unfold bAt new; rw [List.getD_eq_getElem?_getD, List.getElem?_replicate, if_pos hi]; rfl
  rw [this]; rfl

/-! ### the cells -/
def dcells (L : List Bytes) : List Value := L.flatMap bv
def wcell (p : Nat × Bytes) : List Value := .int .i64 (p.1 : Int) :: bv p.2
def wcells (W : List (Nat × Bytes)) : List Value := W.flatMap wcell

theorem bv_length (l : Bytes) : (bv l).length = l.length := by simp [bv]

theorem dcells_length {L : List Bytes} (h : ∀ i, i < L.length → (bAt L i).length = 64) : (dcells L).length = L.length * 64 := by
  unfold dcells
  induction L with
  | nil => rfl
  | cons a L ih =>
    have h0 := h 0 (Nat.zero_lt_succ _)
    rw [List.flatMap_cons, List.length_append, ih (fun i hi => h (i + 1) (by simpa using hi)), bv_length]
    have : (bAt (a :: L) 0) = a := rfl
    rw [this] at h0
    rw [h0, List.length_cons]; omega

theorem wcells_length {W : List (Nat × Bytes)} (h : ∀ j, j < W.length → (wAt W j).2.length = 64) : (wcells W).length = W.length * 65 := by
  unfold wcells
  induction W with
  | nil => rfl
  | cons a W ih =>
    have h0 := h 0 (Nat.zero_lt_succ _)
    rw [List.flatMap_cons, List.length_append, ih (fun i hi => h (i + 1) (by simpa using hi))]
    have : (wAt (a :: W) 0) = a := rfl
    rw [this] at h0
    rw [wcell, List.length_cons, bv_length, h0, List.length_cons]; omega

/-- Block i of the cells of all blocks. -/
theorem dcells_at {L : List Bytes} (h : ∀ i, i < L.length → (bAt L i).length = 64) : ∀ {i : Nat}, i < L.length → ∃ A B, dcells L = A ++ (bv (bAt L i) ++ B) ∧ A.length = i * 64 := by
  unfold dcells
  induction L with
  | nil => intro i hi; exact absurd hi (Nat.not_lt_zero i)
  | cons a L ih =>
    intro i hi
    have h0 := h 0 (Nat.zero_lt_succ _)
    have e0 : (bAt (a :: L) 0) = a := rfl
    rw [e0] at h0
    cases i with
    | zero => exact ⟨[], L.flatMap bv, rfl, rfl⟩
    | succ i =>
      obtain ⟨A, B, e, hA⟩ := ih (fun i hi => h (i + 1) (by simpa using hi)) (i := i) (by simpa using hi)
      refine ⟨bv a ++ A, B, ?_, ?_⟩
      · rw [List.flatMap_cons, e, List.append_assoc]; rfl
      · rw [List.length_append, bv_length, h0, hA]; omega

theorem wcells_at {W : List (Nat × Bytes)} (h : ∀ j, j < W.length → (wAt W j).2.length = 64) : ∀ {i : Nat}, i < W.length → ∃ A B, wcells W = A ++ (wcell (wAt W i) ++ B) ∧ A.length = i * 65 := by
  unfold wcells
  induction W with
  | nil => intro i hi; exact absurd hi (Nat.not_lt_zero i)
  | cons a L ih =>
    intro i hi
    have h0 := h 0 (Nat.zero_lt_succ _)
    have e0 : (wAt (a :: L) 0) = a := rfl
    rw [e0] at h0
    cases i with
    | zero => exact ⟨[], L.flatMap wcell, rfl, rfl⟩
    | succ i =>
      obtain ⟨A, B, e, hA⟩ := ih (fun i hi => h (i + 1) (by simpa using hi)) (i := i) (by simpa using hi)
      refine ⟨wcell a ++ A, B, ?_, ?_⟩
      · rw [List.flatMap_cons, e, List.append_assoc]; rfl
      · rw [List.length_append, wcell, List.length_cons, bv_length, h0, hA]; omega

theorem dcells_set {L : List Bytes} (h : ∀ i, i < L.length → (bAt L i).length = 64) : ∀ {i : Nat} (s : Bytes), i < L.length → s.length = 64 → ∀ A B, dcells L = A ++ (bv (bAt L i) ++ B) → A.length = i * 64 → dcells (L.set i s) = A ++ (bv s ++ B) := by
  unfold dcells
  induction L with
  | nil => intro i s hi; exact absurd hi (Nat.not_lt_zero i)
  | cons a L ih =>
    intro i s hi hs A B e hA
    have h0 := h 0 (Nat.zero_lt_succ _)
    have e0 : (bAt (a :: L) 0) = a := rfl
    rw [e0] at h0
    cases i with
    | zero =>
      obtain rfl : A = [] := List.eq_nil_of_length_eq_zero (by omega)
      rw [List.flatMap_cons, List.nil_append, e0] at e
      have := List.append_cancel_left e
      rw [List.set_cons_zero, List.flatMap_cons, this]; rfl
    | succ i =>
      rw [List.flatMap_cons] at e
      have hb : (bv a).length = 64 := by rw [bv_length, h0]
      have hsplit : A = bv a ++ A.drop 64 := by
        have h1 : (bv a ++ L.flatMap bv).take 64 = (A ++ (bv (bAt (a :: L) (i + 1)) ++ B)).take 64 := by rw [e]
        rw [List.take_append_of_le_length (by omega), List.take_append_of_le_length (by omega), ← hb, List.take_length] at h1
        rw [h1, hb, List.take_append_drop]
      rw [hsplit, List.append_assoc] at e
      have e2 := List.append_cancel_left e
      rw [List.set_cons_succ, List.flatMap_cons, ih (fun i hi => h (i + 1) (by simpa using hi)) s (by simpa using hi) hs (A.drop 64) B e2 (by rw [List.length_drop]; omega)]
      rw [hsplit, List.append_assoc, List.drop_append_of_le_length (by omega), ← hb, List.drop_length, List.nil_append]

theorem wcells_put (W : List (Nat × Bytes)) (p : Nat × Bytes) : wcells (W ++ [p]) = wcells W ++ wcell p := by
  unfold wcells; rw [List.flatMap_append]; simp

theorem wcell_one (p : Nat × Bytes) : ∀ u ∈ wcell p, u.oneCell' = true := by
  intro u hu
  rcases List.mem_cons.1 hu with rfl | hu
  · rfl
  · exact bv_one _ u hu

theorem wcells_one (W : List (Nat × Bytes)) : ∀ u ∈ wcells W, u.oneCell' = true := by
  intro u hu
  obtain ⟨p, _, hp⟩ := List.mem_flatMap.1 hu
  exact wcell_one p u hp
theorem dcells_one (L : List Bytes) : ∀ u ∈ dcells L, u.oneCell' = true := by
  intro u hu
  obtain ⟨p, _, hp⟩ := List.mem_flatMap.1 hu
  exact bv_one p u hp

/-! ### what the map of the last writes holds -/
open Go.Maps in
abbrev key (i : Nat) : Lit := .int .i64 (i : Int)
theorem key_lit (i : Nat) : WideAt.IsKeyLit (key i) := trivial
theorem key_inj {i j : Nat} (h : key i = key j) : i = j := by simp [key] at h; omega

structure MapOk (D : DataW Unit) (W : List (Nat × Bytes)) : Prop where
  no : ∀ i, lastIx W i = none → Maps.has D (key i) = false
  yes : ∀ i j, lastIx W i = some j → Maps.has D (key i) = true ∧ ∀ z, D.atKey (key i) z = .lit (.int .i64 (j : Int))

theorem MapOk.put {D : DataW Unit} {W : List (Nat × Bytes)} (h : MapOk D W) (hm : Maps.IsMap D) (a : Nat) (s : Bytes) : MapOk (D.put (key a) (.lit (.int .i64 (W.length : Int)))) (W ++ [(a, s)]) := by
  refine ⟨fun i hi => ?_, fun i j hi => ?_⟩
  · rw [lastIx_put] at hi
    by_cases e : a = i
    · rw [if_pos e] at hi; cases hi
    · rw [if_neg e] at hi
      rw [Maps.has_put_other (fun h2 => e (key_inj h2).symm)]; exact h.no i hi
  · rw [lastIx_put] at hi
    by_cases e : a = i
    · rw [if_pos e] at hi; cases hi; subst e
      exact ⟨Maps.has_put_same hm (key_lit _) _, fun z => Maps.atKey_put_same hm (key_lit _) _ z⟩
    · rw [if_neg e] at hi
      obtain ⟨h1, h2⟩ := h.yes i j hi
      refine ⟨?_, fun z => ?_⟩
      · rw [Maps.has_put_other (fun h2 => e (key_inj h2).symm)]; exact h1
      · rw [Maps.atKey_put_other (fun h2 => e (key_inj h2).symm)]; exact h2 z

theorem mapOk_nil : MapOk (.map []) [] := ⟨fun _ _ => rfl, fun i j h => by cases h⟩

/-- Of the map the keys of the first k writes are struck, and it had no others. -/
structure DelOk (D : DataW Unit) (W : List (Nat × Bytes)) (k : Nat) : Prop where
  no : ∀ i, lastIx W i = none → Maps.has D (key i) = false
  gone : ∀ i j, j < k → (wAt W j).1 = i → Maps.has D (key i) = false

theorem MapOk.del {D : DataW Unit} {W : List (Nat × Bytes)} (h : MapOk D W) : DelOk D W 0 := ⟨h.no, fun _ j hj => absurd hj (Nat.not_lt_zero j)⟩

theorem has_del {D : DataW Unit} {a : Lit} {i : Lit} (h : Maps.has D i = false) : Maps.has (D.del a) i = false := by
  by_cases e : i = a
  · subst e; exact Maps.has_del_same
  · rw [Maps.has_del_other e]; exact h

theorem DelOk.step {D : DataW Unit} {W : List (Nat × Bytes)} {k : Nat} (h : DelOk D W k) : DelOk (D.del (key (wAt W k).1)) W (k + 1) := by
  refine ⟨fun i hi => has_del (h.no i hi), fun i j hj e => ?_⟩
  by_cases hk : j = k
  · subst hk; rw [e]; exact Maps.has_del_same
  · exact has_del (h.gone i j (by omega) e)

theorem DelOk.done {D : DataW Unit} {W : List (Nat × Bytes)} (h : DelOk D W W.length) : MapOk D [] := by
  refine ⟨fun i _ => ?_, fun i j hi => by cases hi⟩
  cases hl : lastIx W i with
  | none => exact h.no i hl
  | some j =>
    have := lastUpto_some hl
    exact h.gone i j this.1 this.2

end Go.Proofs.YthddiijnomhpfaaDoor.Dk
