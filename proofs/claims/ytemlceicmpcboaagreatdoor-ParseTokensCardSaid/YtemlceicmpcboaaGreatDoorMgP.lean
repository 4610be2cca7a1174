/- The machine's way from one place to another, step by step; what of it the tokens decide, and what lies below it. No walk, and no condition but those that each states. The document's row of tokens that are read: its block, and the walks of is, take, must and need: their contracts. The walks of the document's take, must and need: their contracts; how far a call has come. The document's join: its contract; rows of rows of nodes. The walk of the document's need: its contract. What the document's readers leave: rows of rows, how large they are. The walk of the document's args: its contract. The walk of the document's params: its contract. No condition but those that each states. -/
import Derived.Test.YtemlceicmpcboaaGreatDoorMgI
import Derived.Test.YtemlceicmpcboaaGreatDoorMgD
import Derived.Test.YtemlceicmpcboaaGreatDoorMgF
namespace Go.Proofs.YtemlceicmpcboaaGreatDoor.Pa
open Lx Tr

/-! What the machine looks at. -/
def nul : Tk := ⟨0, [], 0, 0⟩
/-- The token at a place, or none. -/
def lk (L : List Tk) (i : Nat) : Tk := (L[i]?).getD nul
/-- Tokens that are alike but for their places. -/
def Alk (t u : Tk) : Prop := t.kind = u.kind ∧ t.text = u.text ∧ t.n = u.n
theorem Alk.refl (t : Tk) : Alk t t := ⟨rfl, rfl, rfl⟩
theorem Alk.symm {t u : Tk} (h : Alk t u) : Alk u t := ⟨h.1.symm, h.2.1.symm, h.2.2.symm⟩
def sgT (t : Tk) : List UInt8 := if t.kind = 5 ∨ t.kind = 4 then t.text else []

theorem kd_lk (L : List Tk) (i : Nat) : kd L i = (lk L i).kind := by
  unfold kd lk; cases L[i]? <;> rfl
theorem sg_lk (L : List Tk) (i : Nat) : sg L i = sgT (lk L i) := by
  unfold sg lk sgT
  cases L[i]? with
  | none => rfl
  | some t => rfl
theorem tx_lk (L : List Tk) (i : Nat) : tx L i = (lk L i).text := by
  unfold tx lk; cases L[i]? <;> rfl
theorem nm_lk (L : List Tk) (i : Nat) : nm L i = (lk L i).n := by
  unfold nm lk; cases L[i]? <;> rfl
theorem kd_of {L L' : List Tk} {i i' : Nat} (h : Alk (lk L i) (lk L' i')) : kd L i = kd L' i' := by rw [kd_lk, kd_lk, h.1]
theorem sg_of {L L' : List Tk} {i i' : Nat} (h : Alk (lk L i) (lk L' i')) : sg L i = sg L' i' := by rw [sg_lk, sg_lk]; unfold sgT; rw [h.1, h.2.1]
theorem tx_of {L L' : List Tk} {i i' : Nat} (h : Alk (lk L i) (lk L' i')) : tx L i = tx L' i' := by rw [tx_lk, tx_lk, h.2.1]
theorem nm_of {L L' : List Tk} {i i' : Nat} (h : Alk (lk L i) (lk L' i')) : nm L i = nm L' i' := by rw [nm_lk, nm_lk, h.2.2]
theorem lk_end {L : List Tk} {i : Nat} (h : L.length ≤ i) : lk L i = nul := by unfold lk; rw [List.getElem?_eq_none h]; rfl
theorem kd_none {L : List Tk} {i : Nat} (h : L.length ≤ i) : kd L i = 0 := by rw [kd_lk, lk_end h]; rfl
theorem sg_none {L : List Tk} {i : Nat} (h : L.length ≤ i) : sg L i = [] := by rw [sg_lk, lk_end h]; rfl

/-- What a step yields, with the tokens that it takes. -/
def out (L : List Tk) (a : Sy) (V : List (List Nd)) (i : Nat) (B : List Sy) (V' : List (List Nd)) (u : Nat) : Prop := one L a V i = some (B, V', i + u)

/-- A step looks at one token, and takes it or not. -/
theorem one_alk {L L' : List Tk} {i i' : Nat} (h : Alk (lk L i) (lk L' i')) (a : Sy) (V : List (List Nd)) :
    (one L a V i = none ∧ one L' a V i' = none) ∨ ∃ B V' u, u ≤ 1 ∧ one L a V i = some (B, V', i + u) ∧ one L' a V i' = some (B, V', i' + u) := by
  have h1 := kd_of h
  have h2 := sg_of h
  have h3 := tx_of h
  have h4 := nm_of h
  have hz : ∀ j, j = j + 0 := fun _ => rfl
  have nee : ∀ (k : Int) (A A' : List Sy), A = A' → (need L k V i A = none ∧ need L' k V i' A' = none) ∨ ∃ B V' u, u ≤ 1 ∧ need L k V i A = some (B, V', i + u) ∧ need L' k V i' A' = some (B, V', i' + u) := by
    rintro k A _ rfl
    unfold need
    rw [h1]
    split
    · exact .inr ⟨_, _, 1, Nat.le_refl _, rfl, rfl⟩
    · exact .inl ⟨rfl, rfl⟩
  cases a with
  | mark s => simp only [one, h2]; split <;> first | exact .inl ⟨rfl, rfl⟩ | exact .inr ⟨_, _, 1, Nat.le_refl _, rfl, rfl⟩
  | e n => simp only [one, h2]; repeat' split
           all_goals first | exact .inr ⟨_, _, 1, Nat.le_refl _, rfl, rfl⟩ | exact .inr ⟨_, _, 0, Nat.zero_le _, rfl, rfl⟩
  | row n => simp only [one, h2]; split <;> first | exact .inr ⟨_, _, 1, Nat.le_refl _, rfl, rfl⟩ | exact .inr ⟨_, _, 0, Nat.zero_le _, rfl, rfl⟩
  | post => simp only [one, h2]; repeat' split
            all_goals first | exact .inr ⟨_, _, 1, Nat.le_refl _, rfl, rfl⟩ | exact .inr ⟨_, _, 0, Nat.zero_le _, rfl, rfl⟩
  | prim =>
    simp only [one, h1, h2, h3, h4]
    repeat' split
    all_goals first
      | exact .inr ⟨_, _, 1, Nat.le_refl _, rfl, rfl⟩
      | (cases primA (sg L' i') with
         | none => exact .inl ⟨rfl, rfl⟩
         | some A => exact .inr ⟨_, _, 1, Nat.le_refl _, rfl, rfl⟩)
  | lF p x m => simp only [one, h2]; split <;> first | exact .inr ⟨_, _, 1, Nat.le_refl _, rfl, rfl⟩ | exact .inr ⟨_, _, 0, Nat.zero_le _, rfl, rfl⟩
  | lN p x m => simp only [one, h2]; repeat' split
                all_goals first | exact .inl ⟨rfl, rfl⟩ | exact .inr ⟨_, _, 1, Nat.le_refl _, rfl, rfl⟩
  | lC p x m => exact .inr ⟨_, _, 0, Nat.zero_le _, rfl, rfl⟩
  | par => exact nee _ _ _ (by rw [h3])
  | outer a => simp only [one, h2]; split <;> first | exact .inr ⟨_, _, 1, Nat.le_refl _, rfl, rfl⟩ | exact .inr ⟨_, _, 0, Nat.zero_le _, rfl, rfl⟩
  | outN a => exact nee _ _ _ (by rw [h3])
  | fn x => exact .inr ⟨_, _, 0, Nat.zero_le _, rfl, rfl⟩
  | blk => exact .inr ⟨_, _, 0, Nat.zero_le _, rfl, rfl⟩
  | sts m => simp only [one, h2]; split <;> first | exact .inr ⟨_, _, 1, Nat.le_refl _, rfl, rfl⟩ | exact .inr ⟨_, _, 0, Nat.zero_le _, rfl, rfl⟩
  | stmt =>
    simp only [one, h2]
    cases stmtA (sg L' i') with
    | none => exact .inr ⟨_, _, 0, Nat.zero_le _, rfl, rfl⟩
    | some A => exact .inr ⟨_, _, 1, Nat.le_refl _, rfl, rfl⟩
  | letN => exact nee _ _ _ (by rw [h3])
  | els => simp only [one, h2]; split <;> first | exact .inr ⟨_, _, 1, Nat.le_refl _, rfl, rfl⟩ | exact .inr ⟨_, _, 0, Nat.zero_le _, rfl, rfl⟩
  | asg =>
    simp only [one, h2]
    split
    · match V with
      | [] => exact .inl ⟨rfl, rfl⟩
      | [] :: V' => exact .inl ⟨rfl, rfl⟩
      | (x :: b) :: V' =>
        simp only
        repeat' split
        all_goals first | exact .inl ⟨rfl, rfl⟩ | exact .inr ⟨_, _, 1, Nat.le_refl _, rfl, rfl⟩
    · exact .inr ⟨_, _, 0, Nat.zero_le _, rfl, rfl⟩
  | mk x m => simp only [one]; split <;> first | exact .inl ⟨rfl, rfl⟩ | exact .inr ⟨_, _, 0, Nat.zero_le _, rfl, rfl⟩
  | mod => exact .inr ⟨_, _, 0, Nat.zero_le _, rfl, rfl⟩
  | modN => exact nee _ _ _ (by rw [h3])
  | modI a => exact nee _ _ _ (by rw [h4])
  | uses x m => simp only [one, h2]; split <;> first | exact .inr ⟨_, _, 1, Nat.le_refl _, rfl, rfl⟩ | exact .inr ⟨_, _, 0, Nat.zero_le _, rfl, rfl⟩
  | useN => exact nee _ _ _ (by rw [h3])
  | useM a => exact nee _ _ _ (by rw [h3])
  | useI a b => exact nee _ _ _ (by rw [h4])
  | funs x m => simp only [one, h2]; split <;> first | exact .inr ⟨_, _, 1, Nat.le_refl _, rfl, rfl⟩ | exact .inr ⟨_, _, 0, Nat.zero_le _, rfl, rfl⟩
  | funN => exact nee _ _ _ (by rw [h3])

theorem one_adv {L : List Tk} {a : Sy} {V V' : List (List Nd)} {B : List Sy} {i j : Nat} (h : one L a V i = some (B, V', j)) : i ≤ j ∧ j ≤ i + 1 := by
  rcases one_alk (Alk.refl (lk L i)) a V with ⟨h1, -⟩ | ⟨B1, V1, u, hu, h1, -⟩
  · rw [h] at h1; cases h1
  · rw [h] at h1; cases h1; omega
/-- The same token elsewhere: the same step. -/
theorem one_move {L L' : List Tk} {a : Sy} {V V' : List (List Nd)} {B : List Sy} {i j d : Nat} (h : one L a V i = some (B, V', j)) (hk : Alk (lk L i) (lk L' (i + d))) : one L' a V (i + d) = some (B, V', j + d) := by
  rcases one_alk hk a V with ⟨h1, -⟩ | ⟨B1, V1, u, hu, h1, h2⟩
  · rw [h] at h1; cases h1
  · rw [h] at h1; cases h1
    rw [h2, show i + d + u = i + u + d by omega]
theorem one_move_none {L L' : List Tk} {a : Sy} {V : List (List Nd)} {i d : Nat} (h : one L a V i = none) (hk : Alk (lk L i) (lk L' (i + d))) : one L' a V (i + d) = none := by
  rcases one_alk hk a V with ⟨-, h2⟩ | ⟨B1, V1, u, hu, h1, h2⟩
  · exact h2
  · rw [h] at h1; cases h1

/-- Steps from a front to another one, at places below q. -/
inductive Seg (L : List Tk) (q : Nat) : List Sy → List (List Nd) → Nat → List Sy → List (List Nd) → Nat → Prop where
  | here (A V i) : Seg L q A V i A V i
  | more {a A V i B V' j A2 V2 k} : i < q → one L a V i = some (B, V', j) → Seg L q (B ++ A) V' j A2 V2 k → Seg L q (a :: A) V i A2 V2 k

variable {L L' : List Tk} {q q' : Nat} {A A' A1 A2 : List Sy} {V V' V1 V2 : List (List Nd)} {i j k : Nat}

theorem Seg.one {a : Sy} {B : List Sy} (hq : i < q) (h : one L a V i = some (B, V', j)) : Seg L q (a :: A) V i (B ++ A) V' j := .more hq h (.here _ _ _)
theorem Seg.trans (h : Seg L q A V i A1 V1 j) (h2 : Seg L q A1 V1 j A2 V2 k) : Seg L q A V i A2 V2 k := by
  induction h with
  | here => exact h2
  | more hq ho _ ih => exact .more hq ho (ih h2)
theorem Seg.wide (h : Seg L q A V i A1 V1 j) (hq : q ≤ q') : Seg L q' A V i A1 V1 j := by
  induction h with
  | here => exact .here _ _ _
  | more h1 ho _ ih => exact .more (by omega) ho ih
theorem Seg.le (h : Seg L q A V i A1 V1 j) : i ≤ j := by
  induction h with
  | here => exact Nat.le_refl _
  | more h1 ho _ ih => have := one_adv ho; omega
/-- Only places up to the last one are looked at. -/
theorem Seg.narrow (h : Seg L q A V i A1 V1 j) : Seg L (j + 1) A V i A1 V1 j := by
  induction h with
  | here => exact .here _ _ _
  | more h1 ho h2 ih => have := one_adv ho; have := h2.le; exact .more (by omega) ho ih
theorem Seg.over (h : Seg L q A V i A1 V1 j) (K : List Sy) : Seg L q (A ++ K) V i (A1 ++ K) V1 j := by
  induction h with
  | here => exact .here _ _ _
  | more h1 ho h2 ih => exact .more h1 ho (by rw [List.append_assoc] at ih; exact ih)
theorem Seg.to (h : Seg L q A V i A1 V1 j) : To L (.run A V i) (.run A1 V1 j) := by
  induction h with
  | here => exact To.refl _
  | more h1 ho h2 ih => exact (to_some ho).trans ih
/-- Alike tokens elsewhere. -/
theorem Seg.move {d : Nat} (h : Seg L q A V i A1 V1 j) (hk : ∀ m, i ≤ m → m < q → m ≤ j → Alk (lk L m) (lk L' (m + d))) : Seg L' (q + d) A V (i + d) A1 V1 (j + d) := by
  induction h with
  | here => exact .here _ _ _
  | more h1 ho h2 ih =>
    have := one_adv ho
    have := h2.le
    exact .more (by omega) (one_move ho (hk _ (Nat.le_refl _) h1 (by omega))) (ih (fun m h1 h2 h3 => hk m (by omega) h2 h3))

/-- To the end. -/
theorem seg_of_fin : ∀ (n : Nat) {A : List Sy} {V W : List (List Nd)} {i : Nat}, iter L n (.run A V i) = .fin W → Seg L (L.length + 1) A V i [] W L.length
  | 0, A, V, W, i, h => by cases h
  | n + 1, [], V, W, i, h => by
    by_cases hi : i = L.length
    · have h' : iter L n (if i = L.length then .fin V else .bad i) = .fin W := h
      rw [if_pos hi, iter_stop rfl] at h'
      cases h'
      rw [hi]; exact .here _ _ _
    · have h' : iter L n (if i = L.length then .fin V else .bad i) = .fin W := h
      rw [if_neg hi, iter_stop rfl] at h'
      cases h'
  | n + 1, a :: A, V, W, i, h => by
    have h' : iter L n (match Pa.one L a V i with | some (B, V', j) => .run (B ++ A) V' j | none => .bad i) = .fin W := h
    cases ho : Pa.one L a V i with
    | none => rw [ho] at h'; simp only at h'; rw [iter_stop rfl] at h'; cases h'
    | some x =>
      obtain ⟨B, V', j⟩ := x
      rw [ho] at h'
      have ih := seg_of_fin n h'
      have := one_adv ho
      have := ih.le
      exact .more (by omega) ho ih
theorem To.seg {W : List (List Nd)} (h : To L (.run A V i) (.fin W)) : Seg L (L.length + 1) A V i [] W L.length := by
  obtain ⟨n, h⟩ := h
  exact seg_of_fin n h
theorem Seg.fin {W : List (List Nd)} (h : Seg L q A V i [] W L.length) : To L (.run A V i) (.fin W) := h.to.trans (To.head ⟨0, by show Pa.step L _ = _; show (if L.length = L.length then Cfg.fin W else _) = _; rw [if_pos rfl]⟩)

/-- What is read first, and then the rest. -/
theorem Seg.part {W : List (List Nd)} : ∀ {A K : List Sy}, Seg L q (A ++ K) V i [] W k → ∃ V1 j, Seg L q A V i [] V1 j ∧ Seg L q K V1 j [] W k := by
  intro A K h
  generalize hX : A ++ K = X at h
  generalize hY : ([] : List Sy) = Y at h
  induction h generalizing A K with
  | here A0 V0 i0 =>
    subst hY
    obtain ⟨rfl, rfl⟩ := List.append_eq_nil_iff.1 hX
    exact ⟨_, _, .here _ _ _, .here _ _ _⟩
  | @more a A0 V0 i0 B V' j A2 V2 k h1 ho h2 ih =>
    match A with
    | [] => rw [List.nil_append] at hX; subst hX; subst hY; exact ⟨_, _, .here _ _ _, .more h1 ho h2⟩
    | b :: A =>
      rw [List.cons_append] at hX
      cases hX
      obtain ⟨V1, j1, h3, h4⟩ := ih (A := B ++ A) (K := K) (by rw [List.append_assoc]) hY
      exact ⟨V1, j1, .more h1 ho h3, h4⟩

/-- Where it first comes to a place. -/
theorem Seg.cut {p : Nat} (h : Seg L q A V i A2 V2 k) (h1 : i ≤ p) (h2 : p ≤ k) : ∃ A1 V1, Seg L p A V i A1 V1 p ∧ Seg L q A1 V1 p A2 V2 k := by
  induction h with
  | here A V i => have : i = p := by omega
                  subst this; exact ⟨_, _, .here _ _ _, .here _ _ _⟩
  | @more a A V i B V' j A2 V2 k hq ho hs ih =>
    by_cases hp : i = p
    · subst hp; exact ⟨_, _, .here _ _ _, .more hq ho hs⟩
    · have := one_adv ho
      obtain ⟨A1, V1, h3, h4⟩ := ih (by omega) h2
      exact ⟨A1, V1, .more (by omega) ho h3, h4⟩
/-- One way alone. -/
theorem Seg.same (h : Seg L q A V i [] V1 j) (h2 : Seg L q' A V i [] V2 k) : V1 = V2 ∧ j = k := by
  generalize hY : ([] : List Sy) = Y at h
  induction h with
  | here => subst hY; cases h2; exact ⟨rfl, rfl⟩
  | more hq ho _ ih =>
    cases h2 with
    | more hq2 ho2 hs2 =>
      rw [ho] at ho2; cases ho2
      exact ih hs2 hY

/-! How many tokens at least. -/
def mt : Sy → Nat
  | .row _ => 0
  | .post => 0
  | .lC p _ _ => if p then 1 else 0
  | .outer _ => 0
  | .els => 0
  | .mk _ _ => 0
  | .uses _ _ => 0
  | .funs _ _ => 0
  | _ => 1
def mtS : List Sy → Nat
  | [] => 0
  | a :: A => mt a + mtS A
theorem mtS_app (A B : List Sy) : mtS (A ++ B) = mtS A + mtS B := by
  induction A with
  | nil => simp [mtS]
  | cons a A ih => rw [List.cons_append, mtS, mtS, ih]; omega

theorem one_mt {a : Sy} {B : List Sy} (h : one L a V i = some (B, V', j)) : i + mt a ≤ j + mtS B := by
  have hadv := one_adv h
  by_cases hj : j = i + 1
  · have : mt a ≤ 1 := by
      cases a <;> simp [mt]
      split <;> decide
    omega
  have hj' : j = i := by omega
  subst hj'
  clear hadv hj
  have n1 : ∀ (x : Nat), ¬ x + 1 = x := fun x => by omega
  have nee : ∀ (k : Int) (A : List Sy), need L k V j A = some (B, V', j) → False := by
    intro k A h
    have := (need_some h).2.2
    omega
  cases a with
  | mark s => simp only [one] at h; split at h <;> simp at h
  | e n =>
    simp only [one] at h
    repeat' split at h
    all_goals (simp at h; try (obtain ⟨rfl, -⟩ := h; simp [mt, mtS]))
  | row n => simp [mt]
  | post => simp [mt]
  | prim =>
    simp only [one] at h
    repeat' split at h
    all_goals first
      | (simp at h; done)
      | (cases hp : primA (sg L j) with
         | none => rw [hp] at h; cases h
         | some A => rw [hp] at h; simp at h)
  | lF p x m =>
    simp only [one] at h
    split at h
    · simp at h
    · simp at h; obtain ⟨rfl, -⟩ := h; cases p <;> simp [mt, mtS]
  | lN p x m =>
    simp only [one] at h
    repeat' split at h
    all_goals simp at h
  | lC p x m =>
    simp only [one] at h
    cases p
    · simp [mt]
    · simp at h; obtain ⟨rfl, -⟩ := h; simp [mt, mtS]
  | par => exact (nee _ _ h).elim
  | outer a => simp [mt]
  | outN a => exact (nee _ _ h).elim
  | fn x => simp [one] at h; obtain ⟨rfl, -⟩ := h; simp [mt, mtS]
  | blk => simp [one] at h; obtain ⟨rfl, -⟩ := h; simp [mt, mtS]
  | sts m =>
    simp only [one] at h
    split at h
    · simp at h
    · simp at h; obtain ⟨rfl, -⟩ := h; simp [mt, mtS]
  | stmt =>
    simp only [one] at h
    split at h
    · simp at h
    · simp at h; obtain ⟨rfl, -⟩ := h; simp [mt, mtS]
  | letN => exact (nee _ _ h).elim
  | els => simp [mt]
  | asg =>
    simp only [one] at h
    split at h
    · match V, h with
      | [], h => cases h
      | [] :: V', h => cases h
      | (x :: b) :: V', h =>
        simp only at h
        repeat' split at h
        all_goals simp at h
    · simp at h; obtain ⟨rfl, -⟩ := h; simp [mt, mtS]
  | mk x m => simp [mt]
  | mod => simp [one] at h; obtain ⟨rfl, -⟩ := h; simp [mt, mtS]
  | modN => exact (nee _ _ h).elim
  | modI a => exact (nee _ _ h).elim
  | uses x m => simp [mt]
  | useN => exact (nee _ _ h).elim
  | useM a => exact (nee _ _ h).elim
  | useI a b => exact (nee _ _ h).elim
  | funs x m => simp [mt]
  | funN => exact (nee _ _ h).elim

theorem Seg.min (h : Seg L q A V i A1 V1 j) : i + mtS A ≤ j + mtS A1 := by
  induction h with
  | here => exact Nat.le_refl _
  | more h1 ho _ ih =>
    have := one_mt ho
    rw [mtS_app] at ih
    rw [mtS]
    omega

/-- Within a function or an expression. -/
def inner : Sy → Bool
  | .uses _ _ => false
  | .funs _ _ => false
  | .mod => false
  | .modN => false
  | .modI _ => false
  | _ => true
/-- A token with which nothing goes on that could end. -/
structure Stops (L : List Tk) (i : Nat) : Prop where
  row : ∀ n, sg L i ∉ level n
  par : sg L i ≠ [40]
  sq : sg L i ≠ [91]
  dot : sg L i ≠ [46]
  els : sg L i ≠ [101, 108, 115, 101]

theorem need_inner {k : Int} {A B : List Sy} (h : need L k V i A = some (B, V', j)) (hA : ∀ a ∈ A, inner a = true) : ∀ b ∈ B, inner b = true := by
  obtain ⟨rfl, -, -⟩ := need_some h
  exact hA
theorem stmtA_inner {s : List UInt8} (h : stmtA s = some A) : ∀ b ∈ A, inner b = true := by
  unfold stmtA at h
  repeat' split at h
  all_goals (cases h; try decide)
theorem primA_inner {s : List UInt8} (h : primA s = some A) : ∀ b ∈ A, inner b = true := by
  unfold primA at h
  repeat' split at h
  all_goals (cases h; try decide)
theorem one_inner {a : Sy} {B : List Sy} (h : one L a V i = some (B, V', j)) (ha : inner a = true) : ∀ b ∈ B, inner b = true := by
  cases a with
  | mark s => simp only [one] at h; split at h <;> cases h; simp
  | e n => simp only [one] at h; repeat' split at h
           all_goals (cases h; simp [inner])
  | row n =>
    simp only [one] at h
    split at h
    · cases h; intro b hb; simp only [List.mem_cons] at hb
      rcases hb with rfl | rfl | hb
      · rfl
      · rfl
      · split at hb
        · cases hb
        · rw [List.mem_singleton.1 hb]; rfl
    · cases h; simp
  | post => simp only [one] at h; repeat' split at h
            all_goals (cases h; simp [inner])
  | prim =>
    simp only [one] at h
    repeat' split at h
    all_goals first
      | (cases h; simp [inner]; done)
      | (cases hp : primA (sg L i) with
         | none => rw [hp] at h; cases h
         | some A => rw [hp] at h; cases h; exact primA_inner hp)
  | lF p x m => simp only [one] at h; split at h <;> cases h <;> cases p <;> simp [inner]
  | lN p x m => simp only [one] at h; repeat' split at h
                all_goals (cases h; try (cases p <;> simp [inner]))
  | lC p x m => simp only [one] at h; cases h; cases p <;> simp [inner]
  | par => exact need_inner h (by simp [inner])
  | outer a => simp only [one] at h; split at h <;> cases h <;> simp [inner]
  | outN a => exact need_inner h (by simp [inner])
  | fn x => cases h; simp [inner]
  | blk => cases h; simp [inner]
  | sts m => simp only [one] at h; split at h <;> cases h <;> simp [inner]
  | stmt =>
    simp only [one] at h
    split at h
    · rename_i hs; cases h; exact stmtA_inner hs
    · cases h; simp [inner]
  | letN => exact need_inner h (by simp [inner])
  | els => simp only [one] at h; split at h <;> cases h <;> simp [inner]
  | asg =>
    simp only [one] at h
    split at h
    · match V, h with
      | [], h => cases h
      | [] :: V', h => cases h
      | (x :: b) :: V', h =>
        simp only at h
        repeat' split at h
        all_goals (cases h; try simp [inner])
    · cases h; simp [inner]
  | mk x m => simp only [one] at h; split at h <;> cases h; simp
  | mod => cases ha
  | modN => cases ha
  | modI a => cases ha
  | uses x m => cases ha
  | useN => exact need_inner h (by simp [inner])
  | useM a => exact need_inner h (by simp [inner])
  | useI a b => exact need_inner h (by simp [inner])
  | funs x m => cases ha
  | funN => exact need_inner h (by simp [inner])

theorem one_stop {a : Sy} {B : List Sy} {i' : Nat} (h : one L a V i = some (B, V', i)) (ha : inner a = true) (hm : mt a = 0) (hs : Stops L' i') : one L' a V i' = some (B, V', i') := by
  cases a with
  | row n =>
    simp only [one] at h ⊢
    rw [if_neg (hs.row n)]
    split at h
    · simp at h
    · simp at h; obtain ⟨rfl, rfl⟩ := h; rfl
  | post =>
    simp only [one] at h ⊢
    rw [if_neg hs.par, if_neg hs.sq]
    repeat' split at h
    all_goals (simp at h; try (obtain ⟨rfl, rfl⟩ := h; rfl))
  | lC p x m =>
    simp only [one] at h ⊢
    cases p
    · simp at h ⊢; exact h
    · simp [mt] at hm
  | outer a =>
    simp only [one] at h ⊢
    rw [if_neg hs.dot]
    split at h
    · simp at h
    · simp at h; obtain ⟨rfl, rfl⟩ := h; rfl
  | els =>
    simp only [one] at h ⊢
    rw [if_neg hs.els]
    split at h
    · simp at h
    · simp at h; obtain ⟨rfl, rfl⟩ := h; rfl
  | mk x m =>
    simp only [one] at h ⊢
    split at h
    · rename_i hm
      rw [if_pos hm]
      simp at h; obtain ⟨rfl, rfl⟩ := h; rfl
    · cases h
  | uses x m => cases ha
  | funs x m => cases ha
  | _ => simp [mt] at hm

theorem Seg.stop_aux {i' : Nat} (h : Seg L q A V i A2 V1 k) : A2 = [] → k = i → (∀ a ∈ A, inner a = true) → Stops L' i' → Seg L' (i' + 1) A V i' [] V1 i' := by
  induction h with
  | here A V i => rintro rfl - - -; exact .here _ _ _
  | @more a A V i B V' j A2 V2 k hq ho hs ih =>
    rintro rfl rfl hin hst
    have h1 := one_adv ho
    have h2 := hs.le
    obtain rfl : j = k := by omega
    have h3 := (Seg.more hq ho hs).min
    have h4 : mtS (a :: A) = mt a + mtS A := rfl
    rw [show mtS [] = 0 from rfl, h4] at h3
    have hia := hin a (List.mem_cons_self ..)
    exact .more (by omega) (one_stop ho hia (by omega) hst) (ih rfl rfl (fun b hb => (List.mem_append.1 hb).elim (one_inner ho hia b) (fun hb => hin b (List.mem_cons_of_mem _ hb))) hst)
/-- What ends ahead of a token ends so ahead of any other one with which nothing goes on. -/
theorem Seg.stop {i' : Nat} (h : Seg L q A V i [] V1 i) (hi : ∀ a ∈ A, inner a = true) (hs : Stops L' i') : Seg L' (i' + 1) A V i' [] V1 i' := h.stop_aux rfl rfl hi hs
theorem stops_of {s : List UInt8} (h : sg L i = s) (hs : s = [] ∨ s = [41] ∨ s = [59] ∨ s = [102, 110]) : Stops L i := by
  subst h
  refine ⟨fun n hn => ?_, ?_, ?_, ?_, ?_⟩
  · rcases hs with h | h | h | h <;> rw [h] at hn <;> (unfold level at hn; split at hn <;> simp at hn)
  all_goals (rcases hs with h | h | h | h <;> rw [h] <;> decide)

end Go.Proofs.YtemlceicmpcboaaGreatDoor.Pa
namespace Go.Proofs.YtemlceicmpcboaaGreatDoor.Pa
open Go.RowKit Dk Lx Tr

/-- Where a reader stands, or where it could not go on. -/
def atS : St → Nat
  | .ok i => i
  | .bad k => k
/-- The block of the document's reader. -/
structure RS (L : List Tk) (g : Nat) (vt : Value) (W : World) (s : St) : Prop where
  cells : W.rangeAt g 0 [vt, .int .i64 (atS s : Int), .bool (isBad s)]
  room : W.there g 0 3
  lt : g < W.heap.size
  toks : ToksX W g vt L
  le : atS s ≤ L.length
  few : L.length ≤ 1000000

theorem RS.below {L : List Tk} {g : Nat} {vt : Value} {W W' : World} {s : St} (h : RS L g vt W s) (hb : Below W.heap.size W W') : RS L g vt W' s :=
  ⟨rangeAt_block h.cells (hb.block g h.lt), there_block h.room (hb.block g h.lt), Nat.lt_of_lt_of_le h.lt hb.size, h.toks.only (Only.of_below (F := fun _ => False) hb) (fun _ _ h => h.elim), h.le, h.few⟩
theorem RS.only {L : List Tk} {g : Nat} {vt : Value} {W W' : World} {s : St} {F : Nat → Prop} (h : RS L g vt W s) (ho : Only F W W') (hF : ∀ i, i < W.heap.size → ¬F i) : RS L g vt W' s :=
  ⟨rangeAt_block h.cells (ho.block g h.lt (hF g h.lt)), there_block h.room (ho.block g h.lt (hF g h.lt)), Nat.lt_of_lt_of_le h.lt ho.size, h.toks.only ho (fun i hi hf => absurd hf (hF i hi)), h.le, h.few⟩
theorem RS.at {L : List Tk} {g : Nat} {vt : Value} {W : World} {s : St} (h : RS L g vt W s) : W.cell? ⟨g, 0, none⟩ = some vt ∧ W.cell? ⟨g, 1, none⟩ = some (.int .i64 (atS s : Int)) ∧ W.cell? ⟨g, 2, none⟩ = some (.bool (isBad s)) :=
  ⟨h.cells 0 _ rfl, h.cells 1 _ rfl, h.cells 2 _ rfl⟩
theorem RS.form {L : List Tk} {g : Nat} {vt : Value} {W : World} {s : St} (h : RS L g vt W s) : ∃ p c, vt = .slice p L.length c ∧ L.length ≤ c := by
  obtain ⟨p, c, hv, hc, -⟩ := h.toks
  exact ⟨p, c, hv, hc⟩
/-- The next place is put. -/
theorem RS.next {L : List Tk} {g i : Nat} {vt : Value} {W : World} (h : RS L g vt W (.ok i)) (hi : i < L.length) : RS L g vt (W.setCell ⟨g, 1, none⟩ (.int .i64 ((i : Int) + 1))) (.ok (i + 1)) := by
  refine ⟨?_, there_setCell h.room _ _, by simpa using h.lt, h.toks.only (Only.of_setCell (g := g) (j := 1) _) (fun _ _ h => h), hi, h.few⟩
  obtain ⟨h0, h1, h2⟩ := h.at
  intro j u hj
  rcases (show j = 0 ∨ j = 1 ∨ j = 2 by have := (List.getElem?_eq_some_iff.1 hj).1; simp at this; omega) with rfl | rfl | rfl
  · rw [World.cell?_setCell_other _ _ _ _ (by simp)]; simp at hj; subst hj; exact h0
  · rw [show (0 + 1) = 1 from rfl, World.cell?_setCell_same _ _ _ h1]; simp at hj; subst hj; rfl
  · rw [World.cell?_setCell_other _ _ _ _ (by simp)]; simp at hj; subst hj; exact h2
/-- It could not go on. -/
theorem RS.failed {L : List Tk} {g : Nat} {vt : Value} {W : World} {s : St} (h : RS L g vt W s) : RS L g vt (W.setCell ⟨g, 2, none⟩ (.bool true)) (.bad (atS s)) := by
  refine ⟨?_, there_setCell h.room _ _, by simpa using h.lt, h.toks.only (Only.of_setCell (g := g) (j := 2) _) (fun _ _ h => h), h.le, h.few⟩
  obtain ⟨h0, h1, h2⟩ := h.at
  intro j u hj
  rcases (show j = 0 ∨ j = 1 ∨ j = 2 by have := (List.getElem?_eq_some_iff.1 hj).1; simp at this; omega) with rfl | rfl | rfl
  · rw [World.cell?_setCell_other _ _ _ _ (by simp)]; simp at hj; subst hj; exact h0
  · rw [World.cell?_setCell_other _ _ _ _ (by simp)]; simp at hj; subst hj; exact h1
  · rw [show (0 + 2) = 2 from rfl, World.cell?_setCell_same _ _ _ h2]; simp at hj; subst hj; rfl

/-- Whether a key or a mark stands there. -/
def isS (L : List Tk) (q : List UInt8) : St → Bool
  | .ok i => sg L i == q
  | .bad _ => false
theorem isS_ok {L : List Tk} {q : List UInt8} {i : Nat} : isS L q (.ok i) = true ↔ sg L i = q := by show (sg L i == q) = true ↔ _; rw [beq_iff_eq]
theorem isS_bad (L : List Tk) (q : List UInt8) (k : Nat) : isS L q (.bad k) = false := rfl

set_option maxHeartbeats 1000000 in
set_option maxRecDepth 100000 in
theorem is_any {L : List Tk} {g : Nat} {vt : Value} {w : World} {s : St} (h : RS L g vt w s) (q : List UInt8) (hq : q ≠ []) :
    Calls Tryz.prog 134 #[ptr g, .string (strOf q)] w fun e w' => e = .returned (.bool (isS L q s)) ∧ Below w.heap.size w w' := by
  obtain ⟨c0, c1, c2⟩ := h.at
  obtain ⟨p, c, rfl, hc⟩ := h.form
  have hle := h.le
  have hfew := h.few
  cases s with
  | bad k =>
    change w.cell? ⟨g, 2, none⟩ = some (.bool true) at c2
    clear h hle hc hq
    show Calls _ _ _ _ fun e w' => e = .returned (.bool false) ∧ _
    go_enter Tryz.func134, Tryz.ntmps134
    go_wp2_with fail
    go_quiet (fail)
    go_wp2
    go_ret
    exact ⟨rfl, bdN (Below.refl _ _) _⟩
  | ok i =>
    change w.cell? ⟨g, 1, none⟩ = some (.int .i64 (i : Int)) at c1
    change w.cell? ⟨g, 2, none⟩ = some (.bool false) at c2
    change i ≤ L.length at hle
    obtain ⟨n, hn⟩ : ∃ n, n = L.length := ⟨_, rfl⟩
    show Calls _ _ _ _ fun e w' => e = .returned (.bool (sg L i == q)) ∧ _
    by_cases hlt : i < L.length
    · obtain ⟨r, o, hp, t0, t1, -⟩ := h.toks.tok i hlt
      subst hp
      have hsg := sg_at hlt
      obtain ⟨k, hk⟩ : ∃ k, k = L[i].kind := ⟨_, rfl⟩
      obtain ⟨x, hx⟩ : ∃ x, x = L[i].text := ⟨_, rfl⟩
      rw [← hk] at t0 hsg
      rw [← hx] at t1 hsg
      have z0 : (0 : Int) ≤ (i : Int) := by omega
      have z1 : (i : Int) < (n : Int) := by omega
      rw [← hn] at c0
      have hst : ((strOf x).toList == (strOf q).toList) = (x == q) := by rw [strOf_tl, strOf_tl]
      by_cases h5 : k = 5
      · have HS : Hid (sg L i = x) := Lib.hid (by rw [hsg, if_pos (.inl h5)])
        rw [HS.out]
        have e1 : (k == 5) = true := by simpa using h5
        clear hsg h5 h hle hc hfew hn hlt hk hx hq HS
        generalize (x == q) = bb at *
        go_enter Tryz.func134, Tryz.ntmps134
        go_wp2_with fail
        go_quiet (fail)
        go_wp2
        go_ret
        exact ⟨rfl, bdN (Below.refl _ _) _⟩
      · have e1 : (k == 5) = false := by simpa using h5
        by_cases h4 : k = 4
        · have HS : Hid (sg L i = x) := Lib.hid (by rw [hsg, if_pos (.inr h4)])
          rw [HS.out]
          have e2 : (k == 4) = true := by simpa using h4
          clear hsg h5 h4 h hle hc hfew hn hlt hk hx hq HS
          generalize (x == q) = bb at *
          go_enter Tryz.func134, Tryz.ntmps134
          go_wp2_with fail
          go_quiet (fail)
          go_wp2
          go_ret
          exact ⟨rfl, bdN (Below.refl _ _) _⟩
        · have HS : Hid ((sg L i == q) = false) := Lib.hid (by rw [hsg, if_neg (by omega), beq_eq_false_iff_ne]; exact fun h => hq h.symm)
          rw [HS.out]
          have e2 : (k == 4) = false := by simpa using h4
          clear hsg h5 h4 h hle hc hfew hn hlt hk hx hq HS hst t1
          go_enter Tryz.func134, Tryz.ntmps134
          go_wp2_with fail
          go_quiet (fail)
          go_wp2
          go_ret
          exact ⟨rfl, bdN (Below.refl _ _) _⟩
    · have HS : Hid ((sg L i == q) = false) := Lib.hid (by rw [sg_end (by omega), beq_eq_false_iff_ne]; exact fun h => hq h.symm)
      rw [HS.out]
      obtain rfl : i = n := by omega
      rw [← hn] at c0
      clear h hle hc hfew hn hlt hq HS
      go_enter Tryz.func134, Tryz.ntmps134
      go_wp2_with fail
      go_quiet (fail)
      go_wp2
      go_ret
      exact ⟨rfl, bdN (Below.refl _ _) _⟩

end Go.Proofs.YtemlceicmpcboaaGreatDoor.Pa
namespace Go.Proofs.YtemlceicmpcboaaGreatDoor.Pa
open Go.RowKit Dk Lx Tr

/-- How far a call of a reader has come, that began in w: the block of the document's reader tells s, and all else that lay there is as it was. -/
structure OnR (L : List Tk) (g : Nat) (vt : Value) (w W : World) (s : St) : Prop where
  toks : ToksX w g vt L
  lt : g < w.heap.size
  ps : RS L g vt W s
  only : Only (fun k => k = g) w W
set_option maxRecDepth 100000 in
theorem OnR.start {L : List Tk} {g : Nat} {vt : Value} {w : World} {s : St} (h : RS L g vt w s) : OnR L g vt w w s := ⟨h.toks, h.lt, h, Only.refl _ _⟩
set_option maxRecDepth 100000 in
theorem OnR.below {L : List Tk} {g : Nat} {vt : Value} {w W W' : World} {s : St} (h : OnR L g vt w W s) (hb : Below W.heap.size W W') : OnR L g vt w W' s :=
  ⟨h.toks, h.lt, h.ps.below hb, h.only.trans (Only.of_below (F := fun k => k = g) hb) (fun _ _ h => h)⟩
set_option maxRecDepth 100000 in
theorem OnR.alloc {L : List Tk} {g : Nat} {vt : Value} {w W : World} {s : St} (h : OnR L g vt w W s) (o : Obj) : OnR L g vt w (W.alloc o) s := h.below ((Below.refl _ _).alloc (Nat.le_refl _) o)
set_option maxRecDepth 100000 in
theorem OnR.call {L : List Tk} {g : Nat} {vt : Value} {w W W' : World} {s s' : St} (h : OnR L g vt w W s) (hp : RS L g vt W' s') (ho : Only (fun k => k = g) W W') : OnR L g vt w W' s' :=
  ⟨h.toks, h.lt, hp, h.only.trans ho (fun _ _ h => h)⟩
set_option maxRecDepth 100000 in
/-- A block of the call's own is written. -/
theorem OnR.own {L : List Tk} {g : Nat} {vt : Value} {w W W' : World} {s : St} {F : Nat → Prop} (h : OnR L g vt w W s) (ho : Only F W W') (hF : ∀ i, F i → w.heap.size ≤ i) : OnR L g vt w W' s := by
  have hg : ¬F g := fun hf => by have := hF g hf; have := h.lt; omega
  refine ⟨h.toks, h.lt, ⟨rangeAt_block h.ps.cells (ho.block g h.ps.lt hg), there_block h.ps.room (ho.block g h.ps.lt hg), Nat.lt_of_lt_of_le h.ps.lt ho.size, ?_, h.ps.le, h.ps.few⟩, h.only.trans ho (fun i hi hf => absurd (hF i hf) (by omega))⟩
  obtain ⟨p, c, hv, hc, hq | ⟨r, o, hp, hr, hx, hq⟩⟩ := h.toks
  · exact ⟨p, c, hv, hc, .inl hq⟩
  · have hrW : r < W.heap.size := Nat.lt_of_lt_of_le hr h.only.size
    refine ⟨p, c, hv, hc, .inr ⟨r, o, hp, Nat.lt_of_lt_of_le hrW ho.size, hx, rangeAt_block (rangeAt_block hq (h.only.block r hr hx)) (ho.block r hrW (fun hf => by have := hF r hf; omega))⟩⟩
set_option maxRecDepth 100000 in
theorem OnR.setCells {L : List Tk} {g : Nat} {vt : Value} {w W : World} {s : St} (h : OnR L g vt w W s) (B : Nat) (hB : w.heap.size ≤ B) (o : Nat) (vs : List Value) : OnR L g vt w (W.setCells B o vs) s :=
  h.own (F := fun k => k = B) (Only.setCells (F := fun k => k = B) B rfl vs o W (Only.refl _ _)) (fun i hi => by omega)
set_option maxRecDepth 100000 in
theorem OnR.setCell {L : List Tk} {g : Nat} {vt : Value} {w W : World} {s : St} (h : OnR L g vt w W s) (B : Nat) (hB : w.heap.size ≤ B) (o : Nat) (v : Value) : OnR L g vt w (W.setCell ⟨B, o, none⟩ v) s :=
  h.own (F := fun k => k = B) (Only.of_setCell v) (fun i hi => by omega)

/-- Where it stands behind a key or a mark that may be there. -/
def takeS (L : List Tk) (q : List UInt8) : St → St
  | .ok i => if sg L i = q then .ok (i + 1) else .ok i
  | .bad k => .bad k
theorem takeS_yes {L : List Tk} {q : List UInt8} {s : St} (h : isS L q s = true) : ∃ i, s = .ok i ∧ sg L i = q ∧ takeS L q s = .ok (i + 1) := by
  cases s with
  | bad k => cases h
  | ok i => exact ⟨i, rfl, isS_ok.1 h, if_pos (isS_ok.1 h)⟩
theorem takeS_no {L : List Tk} {q : List UInt8} {s : St} (h : isS L q s = false) : takeS L q s = s := by
  cases s with
  | bad k => rfl
  | ok i => exact if_neg (fun e => by rw [isS_ok.2 e] at h; cases h)
theorem markS_yes {L : List Tk} {q : List UInt8} {s : St} (h : isS L q s = true) : markS L q s = takeS L q s := by
  obtain ⟨i, rfl, h1, h2⟩ := takeS_yes h
  rw [h2]; exact if_pos h1
theorem markS_no {L : List Tk} {q : List UInt8} {s : St} (h : isS L q s = false) : markS L q s = .bad (atS s) := by
  cases s with
  | bad k => rfl
  | ok i => exact if_neg (fun e => by rw [isS_ok.2 e] at h; cases h)

set_option maxHeartbeats 1000000 in
set_option maxRecDepth 100000 in
theorem take_any {L : List Tk} {g : Nat} {vt : Value} {w : World} {s : St} (h : RS L g vt w s) (q : List UInt8) (hq : q ≠ []) :
    Calls Tryz.prog 77 #[ptr g, .string (strOf q)] w fun e w' => e = .returned (.bool (isS L q s)) ∧ RS L g vt w' (takeS L q s) ∧ Only (fun k => k = g) w w' := by
  have S := Lib.hid (is_any h q hq)
  have HH := Lib.hid h
  cases hs : isS L q s with
  | false =>
    rw [hs] at S
    have HT := Lib.hid (takeS_no hs)
    rw [HT.out]
    clear h hs hq
    go_enter Tryz.func77, Tryz.ntmps77
    go_wp2_with fail
    refine S.out.mono ?_
    rintro e w1 ⟨rfl, hb1⟩
    have HB1 := Lib.hid hb1
    clear hb1
    go_wp2
    go_ret
    exact ⟨rfl, HH.out.below HB1.out, Only.of_below HB1.out⟩
  | true =>
    rw [hs] at S
    obtain ⟨i, rfl, h1, h2⟩ := takeS_yes hs
    rw [h2]
    have hlt : i < L.length := sg_lt (by rw [h1]; exact hq)
    have hfew := h.few
    have z2 : (i : Int) ≤ 1000000 := by omega
    have HN : Hid (∀ W, RS L g vt W (.ok i) → RS L g vt (W.setCell ⟨g, 1, none⟩ (.int .i64 ((i : Int) + 1))) (.ok (i + 1))) := Lib.hid (fun W hW => hW.next hlt)
    clear h hs hq h1 h2 hlt hfew
    go_enter Tryz.func77, Tryz.ntmps77
    go_wp2_with fail
    refine S.out.mono ?_
    rintro e w1 ⟨rfl, hb1⟩
    have HP1 := Lib.hid (HH.out.below hb1)
    have HB1 := Lib.hid hb1
    obtain ⟨-, c1, -⟩ := HP1.out.at
    have f1 : w1.frozen? ⟨g, 1, none⟩ = false := (HP1.out.room 1 (by decide)).2
    rw [show atS (.ok i) = i from rfl] at c1
    clear hb1
    go_wp2
    go_ret
    exact ⟨rfl, HN.out _ HP1.out, (Only.of_below HB1.out).trans (Only.of_setCell _) (fun _ _ h => h)⟩

set_option maxHeartbeats 1000000 in
set_option maxRecDepth 100000 in
theorem must_any {L : List Tk} {g : Nat} {vt : Value} {w : World} {s : St} (h : RS L g vt w s) (q : List UInt8) (hq : q ≠ []) :
    Calls Tryz.prog 75 #[ptr g, .string (strOf q)] w fun e w' => e = .returned (.tuple #[]) ∧ RS L g vt w' (markS L q s) ∧ Only (fun k => k = g) w w' := by
  have T := Lib.hid (take_any h q hq)
  cases hs : isS L q s with
  | true =>
    rw [hs] at T
    have HM := Lib.hid (markS_yes hs)
    rw [HM.out]
    clear h hs hq
    go_enter Tryz.func75, Tryz.ntmps75
    go_wp2_with fail
    refine T.out.mono ?_
    rintro e w1 ⟨rfl, hp, ho⟩
    have HP := Lib.hid hp
    have HO := Lib.hid ho
    clear hp ho
    go_wp2
    refine bodyPost_end (results_none rfl _ _ _) rfl ?_
    exact ⟨rfl, HP.out, HO.out⟩
  | false =>
    rw [hs] at T
    have HM := Lib.hid (markS_no hs)
    have HT := Lib.hid (takeS_no hs)
    rw [HM.out]
    rw [HT.out] at T
    clear h hs hq
    go_enter Tryz.func75, Tryz.ntmps75
    go_wp2_with fail
    refine T.out.mono ?_
    rintro e w1 ⟨rfl, hp, ho⟩
    have HP := Lib.hid hp
    have HO := Lib.hid ho
    obtain ⟨-, -, c2⟩ := HP.out.at
    have f2 : w1.frozen? ⟨g, 2, none⟩ = false := (HP.out.room 2 (by decide)).2
    clear hp ho
    go_wp2
    refine bodyPost_end (results_none rfl _ _ _) rfl ?_
    exact ⟨rfl, HP.out.failed, HO.out.trans (Only.of_setCell _) (fun _ _ h => h)⟩

/-- What must be of a kind. -/
theorem needS_at {L : List Tk} {k : Int} {s : St} : needS L k s = .bad (atS s) ∨ ∃ i, s = .ok i ∧ kd L i = k ∧ needS L k s = .ok (i + 1) := by
  cases s with
  | bad j => exact .inl rfl
  | ok i =>
    by_cases h : kd L i = k
    · exact .inr ⟨i, rfl, h, if_pos h⟩
    · exact .inl (if_neg h)

end Go.Proofs.YtemlceicmpcboaaGreatDoor.Pa
namespace Go.Proofs.YtemlceicmpcboaaGreatDoor.Pa
open Go.RowKit Dk Lx Tr

theorem append_nilN {P : Program} {w : World} (base : Nat) (t ty e : TypeId) (i : TypeInfo) (size : Nat) (ht : P.underlying t = some (.slice e)) (hi : P.info? e = some i)
    (v : Value) (n : Nat) (xs : List Value) (hown : w.ownsRow base e size v n xs) :
    (Builtin.append_ #[t, t] ty #[v, .slice none 0 0]).run P w = .ok v w := by
  rcases hown.2 with ⟨rfl, rfl⟩ | ⟨g, cap, cur, rfl, _, _, hnc, _⟩
  · simp [Builtin.append_, run_underlying ht, sizeOf, typeInfo, hi, Builtin.lenOf, Builtin.firstCells]
  · simp [Builtin.append_, run_underlying ht, sizeOf, typeInfo, hi, Builtin.lenOf, Builtin.firstCells, hnc, storeCells, loadCells]
theorem wpList_append_nilN {P : Program} {w : World} {ops : Array Oper} {rest : List Oper} {o : Oper} {a : Act} {Q : Exit → Act → World → Prop} (hgd : o.guard = none) (s x : Operand) (t : TypeId)
    (ho : o.op = .call { callee := .builtin .append, args := #[s, x], argTypes := #[t, t] })
    (base : Nat) (e : TypeId) (i : TypeInfo) (size : Nat) (ht : P.underlying t = some (.slice e)) (hi : P.info? e = some i)
    (v : Value) (n : Nat) (xs : List Value) (hs : a.eval s = v) (hown : w.ownsRow base e size v n xs) (hx : a.eval x = .slice none 0 0)
    (h : wpList P ops Q rest (a.put o.dst v) w) : wpList P ops Q (o :: rest) a w := by
  refine wpList_plain hgd fun K hK => ?_
  have hrun := append_nilN (P := P) (w := w) base t o.type e i size ht hi v n xs hown
  unfold Oper.wp
  simp [execOp, ho, resolve, invoke, builtin, hs, hx, hrun, Result.andThen]
  exact hK _ _ h

/-- A slice of nodes, in no block of X; one of none is nil. -/
def NdX (W : World) (X : Nat → Prop) (v : Value) (t : List Nd) : Prop := (t = [] ∧ v = .slice none 0 0) ∨ (t ≠ [] ∧ ∃ b o c, v = .slice (some ⟨b, o, none⟩) t.length c ∧ t.length ≤ c ∧ b < W.heap.size ∧ ¬X b ∧ W.rangeAt b o (ncells t))
theorem NdX.only {F X : Nat → Prop} {W W' : World} {v : Value} {t : List Nd} (h : NdX W X v t) (ho : Only F W W') (hF : ∀ i, i < W.heap.size → F i → X i) : NdX W' X v t := by
  rcases h with h | ⟨h0, b, o, c, hv, hc, hb, hx, hr⟩
  · exact .inl h
  · exact .inr ⟨h0, b, o, c, hv, hc, Nat.lt_of_lt_of_le hb ho.size, hx, rangeAt_block hr (ho.block b hb (fun hf => hx (hF b hb hf)))⟩
theorem NdX.weaken {X Y : Nat → Prop} {W : World} {v : Value} {t : List Nd} (h : NdX W X v t) (hXY : ∀ i, i < W.heap.size → Y i → X i) : NdX W Y v t := by
  rcases h with h | ⟨h0, b, o, c, hv, hc, hb, hx, hr⟩
  · exact .inl h
  · exact .inr ⟨h0, b, o, c, hv, hc, hb, fun hy => hx (hXY b hb hy), hr⟩
theorem NdX.one {W : World} {X : Nat → Prop} {v : Value} {t : List Nd} (h : NdX W X v t) : v.oneCell' = true := by
  rcases h with ⟨-, rfl⟩ | ⟨-, b, o, c, rfl, -⟩ <;> rfl
theorem NdX.form {W : World} {X : Nat → Prop} {v : Value} {t : List Nd} (h : NdX W X v t) : ∃ p n c, v = .slice p n c := by
  rcases h with ⟨-, rfl⟩ | ⟨-, b, o, c, rfl, -⟩
  · exact ⟨_, _, _, rfl⟩
  · exact ⟨_, _, _, rfl⟩
theorem NdX.nil (W : World) (X : Nat → Prop) : NdX W X (.slice none 0 0) [] := .inl ⟨rfl, rfl⟩
theorem NdX.of_own {_w W : World} {X : Nat → Prop} {base : Nat} {v : Value} {t : List Nd} (h : W.ownsRow base 29 5 v t.length (ncells t)) (h0 : t ≠ []) (hX : ∀ b, base ≤ b → ¬X b) : NdX W X v t := by
  rcases h.2 with ⟨hv, hl⟩ | ⟨g, cap, cur, hv, hbg, hg, h3, h4, h5, h6⟩
  · exact absurd (List.eq_nil_of_length_eq_zero hl) h0
  · have hrow := h
    rw [hv] at hrow
    exact .inr ⟨h0, g, 0, cap, hv, h3, (Array.getElem?_eq_some_iff.1 hg).1, hX g hbg, ownsRow_range hrow⟩
theorem NdX.nds {W : World} {X : Nat → Prop} {v : Value} {t : List Nd} (h : NdX W X v t) (hf : Fit t) : Nds W v t := by
  rcases h with ⟨rfl, rfl⟩ | ⟨h0, b, o, c, rfl, hc, hb, -, hr⟩
  · exact ⟨none, 0, rfl, Nat.le_refl _, hf, .inl rfl⟩
  · exact ⟨_, c, rfl, hc, hf, .inr ⟨b, o, rfl, hb, hr⟩⟩

/-- A slice of slices of nodes, each in no block of X. -/
structure KsW (W : World) (X : Nat → Prop) (v : Value) (cs : List (Value × List Nd)) : Prop where
  row : ∃ p c, v = .slice p cs.length c ∧ cs.length ≤ c ∧ (cs = [] ∨ ∃ b o, p = some ⟨b, o, none⟩ ∧ b < W.heap.size ∧ W.rangeAt b o (cs.map (·.1)))
  kids : ∀ c ∈ cs, NdX W X c.1 c.2

theorem flat_take {cs : List (Value × List Nd)} {i : Nat} (h : i < cs.length) : ((cs.take (i + 1)).map (·.2)).flatten = ((cs.take i).map (·.2)).flatten ++ cs[i].2 := by
  rw [List.take_add_one, List.getElem?_eq_getElem h, List.map_append, List.flatten_append]
  simp
theorem flat_le {cs : List (Value × List Nd)} (i : Nat) : ((cs.take i).map (·.2)).flatten.length ≤ (cs.map (·.2)).flatten.length := by
  have h : cs.map (·.2) = (cs.take i).map (·.2) ++ (cs.drop i).map (·.2) := by rw [← List.map_append, List.take_append_drop]
  rw [h, List.flatten_append, List.length_append]
  omega

set_option maxHeartbeats 2000000 in
set_option maxRecDepth 100000 in
theorem join_any (x : Nd) (v : Value) (cs : List (Value × List Nd)) (w : World) (hK : KsW w (fun _ => False) v cs) (hl : cs.length ≤ 10000000) (hf : (cs.map (·.2)).flatten.length ≤ 10000000) :
    Calls Tryz.prog 78 #[.agg x.cells.toArray, v] w fun e w' => ∃ u, e = .returned u ∧ NR w w' u (join x (cs.map (·.2))) := by
  obtain ⟨p, c, rfl, hc, hrow⟩ := hK.row
  have HKd := Lib.hid hK.kids
  obtain ⟨n, hn⟩ : ∃ n, n = cs.length := ⟨_, rfl⟩
  have HN := Lib.hid hn
  have HR := Lib.hid hrow
  have HF := Lib.hid hf
  obtain ⟨x0, hx0⟩ : ∃ y : Nd, y = { x with kids := (cs.length : Int) } := ⟨_, rfl⟩
  have HJ : Hid (join x (cs.map (·.2)) = x0 :: (cs.map (·.2)).flatten) := Lib.hid (by rw [hx0]; show _ :: _ = _; rw [List.length_map])
  rw [HJ.out, ← hn]
  have hn2 : n ≤ 10000000 := by omega
  obtain ⟨i0, hi0, hy0, hy1, hy2⟩ := info_parts n_info3
  have HX0 : Hid (x0 = { x with kids := (n : Int) }) := Lib.hid (by rw [hx0, hn])
  clear hK hrow hn hl hf hx0 hc
  obtain ⟨xk, xd, xq, xz, xs⟩ := x
  simp only [Nd.cells] at *
  go_enter Tryz.func78, Tryz.ntmps78
  go_wp2_with fail
  have hx0c : x0.cells = [.int .i64 xk, .int .i64 (n : Int), .string (strOf xq), .int .i64 xz, .string (strOf xs)] := by rw [HX0.out]; rfl
  have hrow0 := World.ownsRow_lit (base := w.heap.size) (size := 5) (e := 29) (w.alloc (Obj.cells #[.int .i64 xk, .int .i64 (n : Int), .string (strOf xq), .int .i64 xz, .string (strOf xs)] 29)) #[.int .i64 xk, .int .i64 (n : Int), .string (strOf xq), .int .i64 xz, .string (strOf xs)] 1 (by simp) (by unfold maxLen; omega) rfl
  have hs1 : (w.alloc (Obj.cells #[.int .i64 xk, .int .i64 (n : Int), .string (strOf xq), .int .i64 xz, .string (strOf xs)] 29)).heap.size = w.heap.size + 1 := by simp
  rw [hs1] at hrow0
  have hnc : ncells [x0] = [.int .i64 xk, .int .i64 (n : Int), .string (strOf xq), .int .i64 xz, .string (strOf xs)] := by rw [ncells_cons, hx0c]; rfl
  have HR0 : Hid (NR w ((w.alloc (Obj.cells #[.int .i64 xk, .int .i64 (n : Int), .string (strOf xq), .int .i64 xz, .string (strOf xs)] 29)).alloc (Obj.cells #[.int .i64 xk, .int .i64 (n : Int), .string (strOf xq), .int .i64 xz, .string (strOf xs)] 29)) (.slice (some ⟨w.heap.size + 1, 0, none⟩) 1 1) [x0]) := Lib.hid (⟨by rw [hnc]; exact hrow0, ((Below.refl _ _).alloc (Nat.le_refl _) _).alloc (by simp) _⟩)
  clear hx0c hrow0 hs1 hnc HX0 HJ
  generalize ((w.alloc (Obj.cells #[.int .i64 xk, .int .i64 (n : Int), .string (strOf xq), .int .i64 xz, .string (strOf xs)] 29)).alloc (Obj.cells #[.int .i64 xk, .int .i64 (n : Int), .string (strOf xq), .int .i64 xz, .string (strOf xs)] 29)) = w2 at *
  go_loopw [5, 6] (fun vo vi wr => ∃ i m : Nat, ∃ q c, i ≤ n ∧ vi = .int .i64 (i : Int) ∧ vo = .slice q m c ∧ Hid (m = ((cs.take i).map (·.2)).flatten.length + 1) ∧ Hid (NR w wr (.slice q m c) (x0 :: ((cs.take i).map (·.2)).flatten))) (fun _ vi _ => n - (intOf vi).toNat)
  case atStart => exact ⟨0, 1, _, _, Nat.zero_le _, rfl, rfl, Lib.hid rfl, HR0⟩
  case round =>
    clear HR0
    obtain ⟨i, m, q, c2, hi, rfl, rfl, hM, hR⟩ := hrel
    by_cases hlt : i < n
    · have hil : i < cs.length := by rw [← HN.out]; exact hlt
      obtain ⟨b, o, hpp, hb, hr⟩ : ∃ b o, p = some ⟨b, o, none⟩ ∧ b < w.heap.size ∧ w.rangeAt b o (cs.map (·.1)) := by
        rcases HR.out with h | h
        · exfalso; subst h; simp at hil
        · exact h
      subst hpp
      have hc1 : wr.cell? ⟨b, o + i, none⟩ = some cs[i].1 := rangeAt_block hr (hR.out.below.block b hb) i _ (by rw [List.getElem?_map, List.getElem?_eq_getElem hil]; rfl)
      have hkd := (HKd.out cs[i] (List.getElem_mem hil)).only (Only.of_below (F := fun _ => False) hR.out.below) (fun _ _ h => h.elim)
      have HFT := Lib.hid (flat_take hil)
      have hfl := flat_le (cs := cs) (i + 1)
      rw [HFT.out, List.length_append] at hfl
      have hfl2 := HF.out
      have z0 : (0 : Int) ≤ (i : Int) := by omega
      have z1 : (i : Int) < (n : Int) := by omega
      generalize hci : cs[i] = ci at *
      obtain ⟨vk, tk⟩ := ci
      simp only at *
      rcases hkd with ⟨rfl, rfl⟩ | ⟨h0, b2, o2, c3, rfl, hc3, hb2, -, hr2⟩
      · rw [List.append_nil] at HFT
        clear hfl hfl2 hr hil hci
        go_wp2_with (refine wpList_append_nilN rfl (.tmp 18) (.tmp 22) 23 rfl w.heap.size 29 i0 5 Tryz.underlying23 hi0 _ m (ncells (x0 :: ((cs.take i).map (·.2)).flatten)) rfl (by have := hR.out.row; rw [List.length_cons, ← hM.out] at this; exact this) rfl ?_)
        go_roundw
        case rel => exact ⟨i + 1, m, _, _, by omega, by go_num, rfl, Lib.hid (by rw [HFT.out]; exact hM.out), Lib.hid (by rw [HFT.out]; exact hR.out)⟩
        case measure => simp [intOf]; omega
      · have HRG : Hid (NR w wr (.slice q m c2) (x0 :: ((cs.take i).map (·.2)).flatten)) := hR
        have hpos : 0 < tk.length := List.length_pos_iff.2 h0
        have HNEW : Hid (∀ j u, (ncells tk)[j]? = some u → wr.cell? ((⟨b2, o2, none⟩ : Addr).add j) = some u) := Lib.hid (fun j u hj => by
          have := hr2 j u hj
          rw [WideShapes.add_plain]
          exact this)
        have hm1 : m + tk.length ≤ 20000001 := by have := hM.out; omega
        have HSZ := Lib.hid hR.out.below.size
        clear hfl hfl2 hr hil hci hr2
        go_wp2_with (refine wpList_append_lies _ rfl (.tmp 18) (.tmp 22) 23 rfl w.heap.size 29 i0 (.agg Nd.zero.cells.toArray) 5 56 Tryz.underlying23 hi0 hy0 hy1 hy2 rfl (by decide) _ m (ncells (x0 :: ((cs.take i).map (·.2)).flatten)) rfl (by have := hR.out.row; rw [List.length_cons, ← hM.out] at this; exact this) ⟨b2, o2, none⟩ tk.length c3 (ncells tk) rfl (ncells_length tk) HNEW.out (ncells_ones tk) hpos (by unfold maxLen; omega) (by omega) HSZ.out wr.heap.size rfl ?_; intro g' cap v7 hrow hgr hgl hlt7; have HP := Lib.hid (show v7.ownsRow w.heap.size 29 5 (.slice (some ⟨g', 0, none⟩) (m + tk.length) cap) (m + tk.length) (ncells (x0 :: ((cs.take i).map (·.2)).flatten) ++ ncells tk) from hrow); have HG := Lib.hid hgr; clear hrow hgr hgl hlt7)
        go_roundw
        case rel =>
          refine ⟨i + 1, m + tk.length, _, _, by omega, by go_num, rfl, Lib.hid (by rw [HFT.out, List.length_append]; have := hM.out; omega), Lib.hid ⟨?_, ?_⟩⟩
          · have h := HP.out
            rw [← ncells_app] at h
            rw [HFT.out, List.length_cons, List.length_append, show ((cs.take i).map (·.2)).flatten.length + tk.length + 1 = m + tk.length by have := hM.out; omega]
            exact h
          · exact Lx.below_grown HG.out hR.out.below (fun k hk => (Tr.own_lo hR.out.row k hk).1) HSZ.out (Nat.le_refl _)
        case measure => simp [intOf]; omega
    · obtain rfl : n = i := by omega
      have HT : Hid (((cs.take n).map (·.2)).flatten = (cs.map (·.2)).flatten) := Lib.hid (by rw [HN.out, List.take_length])
      clear hlt hi
      go_wp2
      go_ret
      exact ⟨_, rfl, by rw [← HT.out]; exact hR.out⟩

end Go.Proofs.YtemlceicmpcboaaGreatDoor.Pa
namespace Go.Proofs.YtemlceicmpcboaaGreatDoor.Pa
open Go.RowKit Dk Lx Tr

theorem OnR.free {L : List Tk} {g : Nat} {vt : Value} {w W : World} {s : St} (h : OnR L g vt w W s) : W.frozen? ⟨g, 1, none⟩ = false ∧ W.frozen? ⟨g, 2, none⟩ = false := ⟨(h.ps.room 1 (by decide)).2, (h.ps.room 2 (by decide)).2⟩

set_option maxHeartbeats 2000000 in
set_option maxRecDepth 100000 in
theorem need_no {L : List Tk} {g : Nat} {vt : Value} {w : World} {s : St} (k : Int) (h : RS L g vt w s) (hs : ∀ i, s = .ok i → kd L i ≠ k) (_hk0 : k ≠ 0) :
    Calls Tryz.prog 76 #[ptr g, .int .i64 k] w fun e w' => e = .returned (.agg Tk.zero.cells.toArray) ∧ RS L g vt w' (.bad (atS s)) ∧ Only (fun k => k = g) w w' := by
  have HLT := Lib.hid h.lt
  have H0 := Lib.hid ((OnR.start h).alloc (.cells #[.int .i64 0, .string ⟨#[]⟩, .int .i64 0, .int .i64 0] 72))
  have HZ := Lib.hid (tb_zero w)
  have HA := Lib.hid (t_infoA Tk.zero)
  have HL := Lib.hid (t_all Tk.zero)
  obtain ⟨p, c, rfl, hc⟩ := h.form
  have hle := h.le
  have hfew := h.few
  have fin : ∀ (W : World), Hid (OnR L g (.slice p L.length c) w W s) → Hid (TB W w.heap.size Tk.zero) → Hid (OnR L g (.slice p L.length c) w (W.setCell ⟨g, 2, none⟩ (.bool true)) (.bad (atS s))) ∧ Hid (TB (W.setCell ⟨g, 2, none⟩ (.bool true)) w.heap.size Tk.zero) := fun W h1 h2 =>
    ⟨Lib.hid (h1.out.call h1.out.ps.failed (Only.of_setCell _)), Lib.hid (tb_only h2.out (Only.of_setCell (g := g) (j := 2) (.bool true)) (by have := HLT.out; omega))⟩
  have HFin := Lib.hid fin
  generalize hW1 : w.alloc (.cells #[.int .i64 0, .string ⟨#[]⟩, .int .i64 0, .int .i64 0] 72) = w1 at H0 HZ
  have c0 := H0.out.ps.at.1
  have c1 := H0.out.ps.at.2.1
  have c2 := H0.out.ps.at.2.2
  cases s with
  | bad j =>
    change w1.cell? ⟨g, 2, none⟩ = some (.bool true) at c2
    clear h hs hc hle hfew fin c0 c1
    go_enter Tryz.func76, Tryz.ntmps76
    go_wp2_with fail
    go_quiet (fail)
    generalize hw2 : w1.drewN _ = w2
    have hb : Below w1.heap.size w1 w2 := hw2 ▸ bdN (Below.refl _ _) _
    clear hw2
    have H1 := Lib.hid (H0.out.below hb)
    have HZ1 := Lib.hid (HZ.out.later hb)
    have d2 := H1.out.ps.at.2.2
    have f2 := H1.out.free.2
    obtain ⟨H2, HZ2⟩ := HFin.out w2 H1 HZ1
    clear hb
    go_upto_region 3 with fail
    clear d2 f2
    generalize World.setCell _ _ _ = w3 at H2 HZ2 ⊢
    have H3 := Lib.hid (H2.out.setCells w.heap.size (Nat.le_refl _) 0 Tk.zero.cells.toArray.toList)
    have HZ3 := Lib.hid (HZ2.out.set Tk.zero)
    go_wp2_with (first
      | (refine wpList_store_mid rfl 72 (.tmp 4) (.tmp 39) rfl w.heap.size 0 Tk.zero.cells.toArray rfl rfl HZ2.out.room HA.out HL.out ?_; generalize World.setCells _ _ _ _ = w4 at H3 HZ3 ⊢))
    refine bodyPost_ret (results_cell1 rfl _ _ rfl HZ3.out.cells Tryz.underlying72 rfl (t_info _)) rfl ?_
    exact ⟨rfl, H3.out.ps, H3.out.only⟩
  | ok i =>
    change w1.cell? ⟨g, 1, none⟩ = some (.int .i64 (i : Int)) at c1
    change w1.cell? ⟨g, 2, none⟩ = some (.bool false) at c2
    change i ≤ L.length at hle
    obtain ⟨n, hn⟩ : ∃ n, n = L.length := ⟨_, rfl⟩
    by_cases hlt : i < L.length
    · obtain ⟨r, o, hp, t0, -⟩ := H0.out.ps.toks.tok i hlt
      subst hp
      have hkk := hs i rfl
      rw [kd_at hlt] at hkk
      have z0 : (0 : Int) ≤ (i : Int) := by omega
      have z1 : (i : Int) < (n : Int) := by omega
      have z2 : ¬n ≤ i := by omega
      rw [← hn] at c0
      generalize L[i].kind = kk at *
      have e1 : (kk != k) = true := by simpa using hkk
      clear h hs hc hle hfew fin hkk hlt hn
      go_enter Tryz.func76, Tryz.ntmps76
      go_wp2_with fail
      go_quiet (fail)
      generalize hw2 : w1.drewN _ = w2
      have hb : Below w1.heap.size w1 w2 := hw2 ▸ bdN (Below.refl _ _) _
      clear hw2
      have H1 := Lib.hid (H0.out.below hb)
      have HZ1 := Lib.hid (HZ.out.later hb)
      have d2 := H1.out.ps.at.2.2
      have f2 := H1.out.free.2
      obtain ⟨H2, HZ2⟩ := HFin.out w2 H1 HZ1
      clear hb
      go_upto_region 3 with fail
      clear d2 f2
      generalize World.setCell _ _ _ = w3 at H2 HZ2 ⊢
      have H3 := Lib.hid (H2.out.setCells w.heap.size (Nat.le_refl _) 0 Tk.zero.cells.toArray.toList)
      have HZ3 := Lib.hid (HZ2.out.set Tk.zero)
      go_wp2_with (first
        | (refine wpList_store_mid rfl 72 (.tmp 4) (.tmp 39) rfl w.heap.size 0 Tk.zero.cells.toArray rfl rfl HZ2.out.room HA.out HL.out ?_; generalize World.setCells _ _ _ _ = w4 at H3 HZ3 ⊢))
      refine bodyPost_ret (results_cell1 rfl _ _ rfl HZ3.out.cells Tryz.underlying72 rfl (t_info _)) rfl ?_
      exact ⟨rfl, H3.out.ps, H3.out.only⟩
    · obtain rfl : i = n := by omega
      rw [← hn] at c0
      have z2 : (i : Int) ≥ (i : Int) := Int.le_refl _
      clear h hs hc hle hfew fin hlt hn
      go_enter Tryz.func76, Tryz.ntmps76
      go_wp2_with fail
      go_quiet (fail)
      generalize hw2 : w1.drewN _ = w2
      have hb : Below w1.heap.size w1 w2 := hw2 ▸ bdN (Below.refl _ _) _
      clear hw2
      have H1 := Lib.hid (H0.out.below hb)
      have HZ1 := Lib.hid (HZ.out.later hb)
      have d2 := H1.out.ps.at.2.2
      have f2 := H1.out.free.2
      obtain ⟨H2, HZ2⟩ := HFin.out w2 H1 HZ1
      clear hb
      go_upto_region 3 with fail
      clear d2 f2
      generalize World.setCell _ _ _ = w3 at H2 HZ2 ⊢
      have H3 := Lib.hid (H2.out.setCells w.heap.size (Nat.le_refl _) 0 Tk.zero.cells.toArray.toList)
      have HZ3 := Lib.hid (HZ2.out.set Tk.zero)
      go_wp2_with (first
        | (refine wpList_store_mid rfl 72 (.tmp 4) (.tmp 39) rfl w.heap.size 0 Tk.zero.cells.toArray rfl rfl HZ2.out.room HA.out HL.out ?_; generalize World.setCells _ _ _ _ = w4 at H3 HZ3 ⊢))
      refine bodyPost_ret (results_cell1 rfl _ _ rfl HZ3.out.cells Tryz.underlying72 rfl (t_info _)) rfl ?_
      exact ⟨rfl, H3.out.ps, H3.out.only⟩

set_option maxHeartbeats 4000000 in
set_option maxRecDepth 100000 in
theorem need_yes {L : List Tk} {g i : Nat} {vt : Value} {w : World} (k : Int) (h : RS L g vt w (.ok i)) (hs : kd L i = k) (hi : i < L.length) :
    Calls Tryz.prog 76 #[ptr g, .int .i64 k] w fun e w' => e = .returned (.agg (L[i]).cells.toArray) ∧ RS L g vt w' (.ok (i + 1)) ∧ Only (fun k => k = g) w w' := by
  have HLT := Lib.hid h.lt
  have H0 := Lib.hid ((OnR.start h).alloc (.cells #[.int .i64 0, .string ⟨#[]⟩, .int .i64 0, .int .i64 0] 72))
  have HZ := Lib.hid (tb_zero w)
  generalize hE : L[i] = E
  have HA := Lib.hid (t_infoA E)
  have HI := Lib.hid (t_info E)
  have HL := Lib.hid (t_all E)
  obtain ⟨p, c, rfl, hc⟩ := h.form
  have hfew := h.few
  obtain ⟨n, hn⟩ : ∃ n, n = L.length := ⟨_, rfl⟩
  obtain ⟨r, o, hp, -⟩ := h.toks.tok i hi
  subst hp
  have HT : Hid (∀ (W : World) s, OnR L g (.slice (some ⟨r, o, none⟩) L.length c) w W s → W.cell? ⟨g, 0, none⟩ = some (.slice (some ⟨r, o, none⟩) n c) ∧ W.cell? ⟨g, 1, none⟩ = some (.int .i64 (atS s : Int)) ∧ W.cell? ⟨g, 2, none⟩ = some (.bool (isBad s)) ∧ W.cell? ⟨r, o + i * 4, none⟩ = some (.int .i64 k) ∧ W.frozen? ⟨g, 1, none⟩ = false ∧ W.rangeAt r (o + i * 4) E.cells) := Lib.hid (fun W s hW => by
    obtain ⟨r', o', hp, q1, q2, q3, q4, q5⟩ := hW.ps.toks.tok i hi
    cases hp
    rw [hE] at q5
    rw [← kd_at hi, hs] at q1
    rw [hn]
    exact ⟨hW.ps.at.1, hW.ps.at.2.1, hW.ps.at.2.2, q1, hW.free.1, q5⟩)
  have HN2 : Hid (∀ W, OnR L g (.slice (some ⟨r, o, none⟩) L.length c) w W (.ok i) → OnR L g (.slice (some ⟨r, o, none⟩) L.length c) w (W.setCell ⟨g, 1, none⟩ (.int .i64 ((i : Int) + 1))) (.ok (i + 1))) := Lib.hid (fun W hW => hW.call (hW.ps.next hi) (Only.of_setCell _))
  have z0 : (0 : Int) ≤ (i : Int) := by omega
  have z1 : (i : Int) < (n : Int) := by omega
  have z2 : ¬n ≤ i := by omega
  have z3 : (i : Int) ≤ 1000000 := by omega
  have z4 : (k != k) = false := by simp
  have z5 : IntKind.i64.wrap (i : Int) = (i : Int) := IntWalk.i64_in _ (by omega)
  generalize hW1 : w.alloc (.cells #[.int .i64 0, .string ⟨#[]⟩, .int .i64 0, .int .i64 0] 72) = w1 at H0 HZ
  obtain ⟨c0, c1, c2, c3, -, -⟩ := HT.out w1 _ H0.out
  rw [show atS (.ok i) = i from rfl] at c1
  rw [show isBad (.ok i) = false from rfl] at c2
  clear h hs hn hE hi hc hfew
  go_enter Tryz.func76, Tryz.ntmps76
  go_wp2_with fail
  go_quiet (fail)
  generalize hw2 : w1.drewN _ = w2
  have hb : Below w1.heap.size w1 w2 := hw2 ▸ bdN (Below.refl _ _) _
  clear hw2
  have H1 := Lib.hid (H0.out.below hb)
  have HZ1 := Lib.hid (HZ.out.later hb)
  obtain ⟨-, d1, -, -, f1, -⟩ := HT.out w2 _ H1.out
  rw [show atS (.ok i) = i from rfl] at d1
  have H2 := Lib.hid (HN2.out _ H1.out)
  have HZ2 := Lib.hid (tb_only HZ1.out (Only.of_setCell (g := g) (j := 1) (.int .i64 ((i : Int) + 1))) (by have := HLT.out; omega))
  clear hb c0 c1 c2 c3
  go_upto_region 5 with fail
  clear d1 f1
  generalize World.setCell _ _ _ = w3 at H2 HZ2 ⊢
  obtain ⟨w5, hw5, -, -, -, hbel5⟩ := drawn_world w3
  have H5 := Lib.hid (H2.out.below hbel5.out)
  have HZ5 := Lib.hid (HZ2.out.later hbel5.out)
  obtain ⟨g0, g1, -, -, -, gr⟩ := HT.out w5 _ H5.out
  rw [show ((atS (.ok (i + 1)) : Nat) : Int) = (i : Int) + 1 by show ((i + 1 : Nat) : Int) = _; omega] at g1
  have HGR := Lib.hid gr
  clear gr hbel5 H2 HZ2
  have H3 := Lib.hid (H5.out.setCells w.heap.size (Nat.le_refl _) 0 E.cells.toArray.toList)
  have HZ3 := Lib.hid (HZ5.out.set E)
  refine region_still_tail 11 (by kernel_rfl) (by kernel_rfl) w5 hw5.out ?_
  simp only [List.take_succ_cons, List.take_zero, List.drop_succ_cons, List.drop_zero]
  iterate 10 still_step
  refine still_run (by rfl) (exec_load_mid 72 (.tmp 57) rfl r (o + i * 4) rfl E.cells _ HGR.out Tryz.underlying72 rfl HI.out) ?_
  refine wpStill_nil ?_
  clear g0 g1
  go_wp2_with (refine wpList_store_mid rfl 72 (.tmp 4) (.tmp 58) rfl w.heap.size 0 E.cells.toArray rfl rfl HZ5.out.room HA.out HL.out ?_; generalize World.setCells _ _ _ _ = w4 at H3 HZ3 ⊢)
  refine bodyPost_ret (results_cell1 rfl _ _ rfl HZ3.out.cells Tryz.underlying72 rfl (t_info _)) rfl ?_
  exact ⟨rfl, H3.out.ps, H3.out.only⟩

theorem need_any {L : List Tk} {g : Nat} {vt : Value} {w : World} {s : St} (k : Int) (h : RS L g vt w s) (hk : k ≠ 0) :
    Calls Tryz.prog 76 #[ptr g, .int .i64 k] w fun e w' => e = .returned (.agg (nameV L k s).cells.toArray) ∧ RS L g vt w' (needS L k s) ∧ Only (fun k => k = g) w w' := by
  cases s with
  | bad j => exact need_no k h (fun i hi => by cases hi) hk
  | ok i =>
    by_cases hs : kd L i = k
    · have hi : i < L.length := kd_lt (by rw [hs]; exact hk)
      have := need_yes k h hs hi
      rw [show nameV L k (.ok i) = L[i] from (if_pos hs).trans (by simp [List.getD, List.getElem?_eq_getElem hi]), show needS L k (.ok i) = .ok (i + 1) from if_pos hs]
      exact this
    · have := need_no k h (fun j hj => by cases hj; exact hs) hk
      rw [show nameV L k (.ok i) = Tk.zero from if_neg hs, show needS L k (.ok i) = .bad i from if_neg hs]
      exact this

end Go.Proofs.YtemlceicmpcboaaGreatDoor.Pa
namespace Go.Proofs.YtemlceicmpcboaaGreatDoor.Pa
open Go.RowKit Dk Lx Tr

theorem Leads.count {L : List Tk} {A B : List Sy} {us ts : List (List Nd)} {i j : Nat} (h : Leads L A us (.ok i) B ts (.ok j)) : cnt ts + phS B - (j : Int) ≤ cnt us + phS A - (i : Int) := by
  have := to_count (k := cnt us + phS A - (i : Int)) (h [] []) (by show cnt (us.reverse ++ []) + phS (A ++ []) - (i : Int) ≤ _; rw [List.append_nil, List.append_nil, cnt_rev]; omega)
  have h2 : cnt (ts.reverse ++ []) + phS (B ++ []) - (j : Int) ≤ cnt us + phS A - (i : Int) := this
  rw [List.append_nil, List.append_nil, cnt_rev] at h2
  exact h2
/-- Read well: no more nodes than tokens. -/
theorem Leads.few {L : List Tk} {a : Sy} {t : List Nd} {i j : Nat} (h : Leads L [a] [] (.ok i) [] [t] (.ok j)) (hp : phi a ≤ 0) : t.length + i ≤ j := by
  have := h.count
  simp only [cnt, phS] at this
  omega

/-- How large a tree is that was not read well. -/
def Sz (K : Nat) (s s' : St) (n : Nat) : Prop := (∀ k, s = .bad k → n ≤ 1) ∧ (∀ i k, s = .ok i → s' = .bad k → n ≤ 4 * (k - i) + K)
theorem Sz.up {K K' : Nat} {s s' : St} {n : Nat} (h : Sz K s s' n) (hk : K ≤ K') : Sz K' s s' n := ⟨h.1, fun i k h1 h2 => by have := h.2 i k h1 h2; omega⟩

/-- What a reader's call leaves. -/
structure RfOk (L : List Tk) (g : Nat) (vt : Value) (a : Sy) (K : Nat) (s : St) (w w' : World) (v : Value) (t : List Nd) (s' : St) : Prop where
  leads : Leads L [a] [] s [] [t] s'
  rs : RS L g vt w' s'
  only : Only (fun k => k = g) w w'
  row : NdX w' (fun k => k < w.heap.size) v t
  le : atS s ≤ atS s'
  size : Sz K s s' t.length
def Rf (L : List Tk) (f : FuncId) (a : Sy) (K : Nat) (s : St) : Prop := ∀ (g : Nat) (vt : Value) (w : World), RS L g vt w s →
  Calls Tryz.prog f #[ptr g] w fun e w' => ∃ v t s', e = .returned v ∧ RfOk L g vt a K s w w' v t s'

/-- All in all no more than so many. -/
theorem RfOk.len {L : List Tk} {g : Nat} {vt : Value} {a : Sy} {K : Nat} {s : St} {w w' : World} {v : Value} {t : List Nd} {s' : St} (h : RfOk L g vt a K s w w' v t s') (hp : phi a ≤ 0) : t.length ≤ 4 * (atS s' - atS s) + K + 1 := by
  cases s with
  | bad k => have := h.size.1 k rfl; omega
  | ok i =>
    cases s' with
    | bad k => have := h.size.2 i k rfl rfl; show t.length ≤ 4 * (k - i) + K + 1; omega
    | ok j => have := Leads.few h.leads hp; show t.length ≤ 4 * (j - i) + K + 1; omega

/-- A row of the call's own, of the rows that it has read. -/
structure KR (w W : World) (v : Value) (cs : List (Value × List Nd)) : Prop where
  row : W.ownsRow w.heap.size 23 1 v cs.length (cs.map (·.1))
  kids : ∀ c ∈ cs, NdX W (fun k => k < w.heap.size ∨ v.ownBlock = some k) c.1 c.2
theorem KR.nil (w W : World) : KR w W (.slice none 0 0) [] := ⟨World.ownsRow_nil _ _ _ _, fun c hc => by cases hc⟩
theorem KR.only {w W W' : World} {v : Value} {cs : List (Value × List Nd)} {g : Nat} (h : KR w W v cs) (ho : Only (fun k => k = g) W W') (hg : g < w.heap.size) : KR w W' v cs :=
  ⟨ownsRow_block h.row (fun b hb => ho.block b (Tr.own_lo h.row b hb).2 (by have := (Tr.own_lo h.row b hb).1; omega)), fun c hc => (h.kids c hc).only ho (fun i _ hi => .inl (by omega))⟩
theorem KR.below {w W W' : World} {v : Value} {cs : List (Value × List Nd)} (h : KR w W v cs) (hb : Below W.heap.size W W') : KR w W' v cs :=
  ⟨ownsRow_block h.row (fun b hb' => hb.block b (Tr.own_lo h.row b hb').2), fun c hc => (h.kids c hc).only (Only.of_below (F := fun _ => False) hb) (fun _ _ h => h.elim)⟩
theorem map_ones {cs : List (Value × List Nd)} {W : World} {X : Nat → Prop} (h : ∀ c ∈ cs, NdX W X c.1 c.2) : ∀ u ∈ cs.map (·.1), u.oneCell' = true := by
  intro u hu
  obtain ⟨c, hc, rfl⟩ := List.mem_map.1 hu
  exact (h c hc).one
theorem KR.ks {w W : World} {v : Value} {cs : List (Value × List Nd)} (h : KR w W v cs) : KsW W (fun _ => False) v cs := by
  refine ⟨?_, fun c hc => (h.kids c hc).weaken (fun _ _ h => h.elim)⟩
  rcases h.row.2 with ⟨hv, h0⟩ | ⟨g, cap, cur, hv, hbg, hg, h3, h4, h5, h6⟩
  · exact ⟨none, 0, by rw [hv, h0], by omega, .inl (List.eq_nil_of_length_eq_zero h0)⟩
  · have hrow := h.row
    rw [hv] at hrow
    exact ⟨_, cap, hv, h3, .inr ⟨g, 0, rfl, (Tr.own_lo h.row g (by rw [hv]; rfl)).2, ownsRow_range hrow⟩⟩
/-- One more is put behind the others. -/
theorem KR.push {w W W7 : World} {v : Value} {cs : List (Value × List Nd)} {u : Value} {n : Nat} {t : List Nd} {g' cap : Nat} {o : Obj} (h : KR w W v cs) (hn : n = cs.length) (hb : NdX W (fun k => k < w.heap.size ∨ v.ownBlock = some k) u t)
    (hrow : W7.ownsRow w.heap.size 23 1 (.slice (some ⟨g', 0, none⟩) (n + 1) cap) (n + 1) (cs.map (·.1) ++ [u])) (hgr : (W.alloc o).grownBy W7 v.ownBlock)
    (hg : v.ownBlock = some g' ∨ g' = W.heap.size + 1) : KR w W7 (.slice (some ⟨g', 0, none⟩) (n + 1) cap) (cs ++ [(u, t)]) ∧ Only (fun k => v.ownBlock = some k) W W7 := by
  subst hn
  have ho : Only (fun k => v.ownBlock = some k) W W7 := ((Only.refl (fun k => v.ownBlock = some k) W).alloc o).trans (Only.of_grown (F := fun k => v.ownBlock = some k) hgr (fun _ h => h)) (fun _ _ h => h)
  refine ⟨⟨?_, ?_⟩, ho⟩
  · rw [List.length_append, List.map_append]
    exact hrow
  · intro c hc
    have h1 : NdX W (fun k => k < w.heap.size ∨ v.ownBlock = some k) c.1 c.2 := by
      rcases List.mem_append.1 hc with h1 | h1
      · exact h.kids c h1
      · rw [List.mem_singleton.1 h1]; exact hb
    have h2 : NdX W (fun k => (k < w.heap.size ∨ v.ownBlock = some k) ∨ W.heap.size ≤ k) c.1 c.2 := h1.weaken (fun i hi hx => hx.elim id (fun h => absurd h (by omega)))
    refine (h2.only ho (fun i _ hi => .inl (.inr hi))).weaken (fun i _ hi => ?_)
    rcases hi with hi | hi
    · exact .inl (.inl hi)
    · have e : g' = i := by simpa [Value.ownBlock] using hi
      subst e
      rcases hg with h | h
      · exact .inl (.inr h)
      · exact .inr (by omega)
/-- A literal of rows. -/
theorem ks_lit {W : World} {cs : List (Value × List Nd)} (h : ∀ c ∈ cs, NdX W (fun _ => False) c.1 c.2) (_h0 : cs ≠ []) (ty : TypeId) (n : Nat) (hn : n = cs.length) : KsW (W.alloc (.cells (cs.map (·.1)).toArray ty)) (fun _ => False) (.slice (some ⟨W.heap.size, 0, none⟩) n n) cs := by
  subst hn
  refine ⟨⟨_, _, rfl, Nat.le_refl _, .inr ⟨W.heap.size, 0, rfl, by simp, range_new W (cs.map (·.1)) ty⟩⟩, fun c hc => (h c hc).only (Only.of_below (F := fun _ => False) ((Below.refl _ _).alloc (Nat.le_refl _) _)) (fun _ _ h => h.elim)⟩

/-! the machine and the document's lists -/
theorem atS_mark (L : List Tk) (q : List UInt8) (s : St) : atS s ≤ atS (markS L q s) ∧ atS (markS L q s) ≤ atS s + 1 := by
  cases s with
  | bad k => exact ⟨Nat.le_refl _, Nat.le_succ _⟩
  | ok i =>
    show i ≤ atS (if sg L i = q then St.ok (i + 1) else .bad i) ∧ atS (if sg L i = q then St.ok (i + 1) else .bad i) ≤ i + 1
    split
    · exact ⟨Nat.le_succ _, Nat.le_refl _⟩
    · exact ⟨Nat.le_refl _, Nat.le_succ _⟩
theorem atS_need (L : List Tk) (k : Int) (s : St) : atS s ≤ atS (needS L k s) ∧ atS (needS L k s) ≤ atS s + 1 := by
  cases s with
  | bad j => exact ⟨Nat.le_refl _, Nat.le_succ _⟩
  | ok i =>
    show i ≤ atS (if kd L i = k then St.ok (i + 1) else .bad i) ∧ atS (if kd L i = k then St.ok (i + 1) else .bad i) ≤ i + 1
    split
    · exact ⟨Nat.le_succ _, Nat.le_refl _⟩
    · exact ⟨Nat.le_refl _, Nat.le_succ _⟩
theorem isS_iff {L : List Tk} {q : List UInt8} {s : St} (h : isS L q s = true) : ∃ i, s = .ok i ∧ sg L i = q := by
  obtain ⟨i, h1, h2, -⟩ := takeS_yes h
  exact ⟨i, h1, h2⟩

end Go.Proofs.YtemlceicmpcboaaGreatDoor.Pa
namespace Go.Proofs.YtemlceicmpcboaaGreatDoor.Pa
open Go.RowKit Dk Lx Tr

theorem mu_leR {L : List Tk} {s s' : St} (ha : Aft s s') (h : atS s ≤ atS s') : mu L s' ≤ mu L s := by
  cases s' with
  | bad k => exact Nat.zero_le _
  | ok j =>
    obtain ⟨i, rfl⟩ := ha j rfl
    show L.length - j + 1 ≤ L.length - i + 1
    have : i ≤ j := h
    omega
def RfN (L : List Tk) (f : FuncId) (a : Sy) (K n : Nat) : Prop := ∀ s, mu L s < n → Rf L f a K s

/-- So many tokens at least. -/
def MtC (k : Nat) : Cfg → Prop
  | .run A _ i => k ≤ i + mtS A
  | _ => True
theorem step_mt {L : List Tk} {k : Nat} {c : Cfg} (h : MtC k c) : MtC k (step L c) := by
  match c, h with
  | .bad i, h => trivial
  | .fin V, h => trivial
  | .run [] V i, h =>
    show MtC k (if i = L.length then .fin V else .bad i)
    split <;> trivial
  | .run (a :: A) V i, h =>
    show MtC k (match one L a V i with | some (B, V', j) => .run (B ++ A) V' j | none => .bad i)
    cases ho : one L a V i with
    | none => trivial
    | some x =>
      obtain ⟨B, V', j⟩ := x
      have h1 := one_mt ho
      have h2 : k ≤ i + (mt a + mtS A) := h
      show k ≤ j + mtS (B ++ A)
      rw [mtS_app]
      omega
theorem to_mt {L : List Tk} {k : Nat} {c d : Cfg} (h : To L c d) (hc : MtC k c) : MtC k d := by
  obtain ⟨n, rfl⟩ := h
  induction n generalizing c with
  | zero => exact hc
  | succ n ih => exact ih (step_mt hc)
theorem Leads.least {L : List Tk} {a : Sy} {t : List Nd} {i j : Nat} (h : Leads L [a] [] (.ok i) [] [t] (.ok j)) : i + mt a ≤ j := by
  have := to_mt (k := i + mt a) (h [] []) (show i + mt a ≤ i + mtS ([a] ++ []) by simp [mtS])
  have h2 : i + mt a ≤ j + mtS ([] ++ []) := this
  simpa [mtS] using h2

/-- Between two of a list a comma, or it fails. -/
theorem lN_comma {L : List Tk} {p : Bool} {x : Nd} {m j : Nat} (us : List (List Nd)) (h : sg L j ≠ [41]) : Leads L [.lN p x m] us (.ok j) [elS p, .lN p x (m + 1)] us (markS L [44] (.ok j)) := by
  show Leads L [.lN p x m] us (.ok j) [elS p, .lN p x (m + 1)] us (if sg L j = [44] then .ok (j + 1) else .bad j)
  by_cases h4 : sg L j = [44]
  · rw [if_pos h4]; exact lN_more us h4
  · rw [if_neg h4]
    exact .no (fun V => by
      show (if sg L j = [44] then _ else if sg L j = [41] then _ else none) = none
      rw [if_neg h4, if_neg h])
theorem lN_shutM {L : List Tk} {p : Bool} {x : Nd} {m : Nat} (us : List (List Nd)) {s : St} (h : isBad s = true ∨ isS L [41] s = true) : Leads L [.lN p x m] us s [.lC p x m] us (markS L [41] s) := by
  cases s with
  | bad k => exact rfl
  | ok j =>
    rcases h with h | h
    · cases h
    · have hs := isS_ok.1 h
      refine lN_shut us ?_
      show sg L j ≠ [44]
      rw [hs]; decide
theorem lF_shutM {L : List Tk} {p : Bool} {x : Nd} {m : Nat} (us : List (List Nd)) {s : St} (h : isBad s = true ∨ isS L [41] s = true) : Leads L [.lF p x m] us s [.lC p x m] us (markS L [41] s) := by
  cases s with
  | bad k => exact rfl
  | ok j =>
    rcases h with h | h
    · cases h
    · have hs := isS_ok.1 h
      rw [show markS L [41] (.ok j) = .ok (j + 1) from if_pos hs]
      exact lF_shut us hs

/-- How large kids are that were read in a row. -/
structure Lz (K : Nat) (s s' : St) (cs : List (Value × List Nd)) : Prop where
  few : cs.length ≤ atS s' - atS s + 1
  okc : isBad s' = false → cs.length ≤ atS s' - atS s ∧ (cs.map (·.2)).flatten.length ≤ atS s' - atS s
  size : (cs.map (·.2)).flatten.length ≤ 4 * (atS s' - atS s) + K
theorem flat_snoc (cs : List (Value × List Nd)) (u : Value) (t : List Nd) : (((cs ++ [(u, t)]).map (·.2)).flatten).length = ((cs.map (·.2)).flatten).length + t.length := by simp
/-- One more kid. -/
theorem Lz.add {L : List Tk} {g : Nat} {vt : Value} {K : Nat} {s s3 s4 s5 : St} {cs : List (Value × List Nd)} {w w' : World} {u : Value} {t : List Nd} {a : Sy} (h : Lz (K + 1) s s3 cs) (h3 : isBad s3 = false) (h34 : atS s3 ≤ atS s4) (hs : atS s ≤ atS s3) (hr : RfOk L g vt a K s4 w w' u t s5) (hp : phi a ≤ 0) (hm : mt a = 1) :
    Lz (K + 1) s s5 (cs ++ [(u, t)]) := by
  have hle := hr.le
  obtain ⟨a1, a2⟩ := h.okc h3
  have key : t.length ≤ 4 * (atS s5 - atS s4) + K + 1 := hr.len hp
  cases s5 with
  | ok j =>
    have hs4 : ∃ i, s4 = .ok i := hr.leads.aft j rfl
    obtain ⟨i, rfl⟩ := hs4
    have b1 := Leads.few hr.leads hp
    have b2 := Leads.least hr.leads
    have e1 : atS (.ok j) = j := rfl
    have e2 : atS (.ok i) = i := rfl
    refine ⟨?_, fun _ => ⟨?_, ?_⟩, ?_⟩
    · rw [List.length_append, List.length_singleton]; omega
    · rw [List.length_append, List.length_singleton]; omega
    · rw [flat_snoc]; omega
    · rw [flat_snoc]; omega
  | bad k =>
    have e1 : atS (.bad k) = k := rfl
    refine ⟨?_, (fun h => by cases h), ?_⟩
    · rw [List.length_append, List.length_singleton]; omega
    · rw [flat_snoc]
      omega
theorem Lz.nil (K : Nat) (s : St) : Lz K s s [] := ⟨Nat.zero_le _, fun _ => ⟨Nat.zero_le _, Nat.zero_le _⟩, Nat.zero_le _⟩

/-- What args' call leaves. -/
structure ArOk (L : List Tk) (g : Nat) (vt : Value) (p : Bool) (K : Nat) (s : St) (w w' : World) (v : Value) (cs : List (Value × List Nd)) (s' : St) : Prop where
  leads : ∀ x m, Leads L [.mark [40], .lF p x m] [] s [.lC p x (m + cs.length)] (cs.map (·.2)) s'
  on : OnR L g vt w w' s'
  kr : KR w w' v cs
  le : atS s ≤ atS s'
  few : cs.length ≤ atS s' - atS s + 1
  size : (cs.map (·.2)).flatten.length ≤ 4 * (atS s' - atS s) + K
  none : ∀ k, s = .bad k → cs = []
theorem nds_info3 : (Tryz.prog.info? 23).map (fun i => (i.zero, i.size, i.bytes)) = some (some (.slice none 0 0), 1, 24) := by kernel_rfl

set_option maxHeartbeats 4000000 in
set_option maxRecDepth 100000 in
theorem args_any (L : List Tk) (n : Nat) (hE : RfN L 205 (.e 0) 2 n) (s : St) (hs : mu L (markS L [40] s) < n) (g : Nat) (vt : Value) (w : World) (h : RS L g vt w s) :
    Calls Tryz.prog 261 #[ptr g] w fun e w' => ∃ v cs s', e = .returned v ∧ ArOk L g vt false 3 s w w' v cs s' := by
  have HE := Lib.hid hE
  have X1 := Lib.hid (must_any h [40] (by decide))
  have HA1 := Lib.hid (atS_mark L [40] s)
  have HS0 : Hid (∀ k, s = .bad k → markS L [40] s = .bad k) := Lib.hid (fun k hk => by subst hk; rfl)
  have HMK : Hid (∀ x m, Leads L [.mark [40], .lF false x m] [] s [.lF false x m] [] (markS L [40] s)) := Lib.hid (fun x m => by
    have := (Leads.mark (L := L) [40] s).over [.lF false x m] []
    exact this)
  generalize hs1 : markS L [40] s = s1 at *
  have H0 := Lib.hid (OnR.start h)
  have HLT := Lib.hid h.lt
  have HFEW := Lib.hid h.few
  have HMU := Lib.hid hs
  obtain ⟨i0, hi0, hy0, hy1, hy2⟩ := info_parts nds_info3
  clear h hE hs1 hs
  go_enter Tryz.func261, Tryz.ntmps261
  go_wp2_with fail
  refine X1.out.mono ?_
  rintro e w1 ⟨rfl, hp, ho⟩
  have H1 := Lib.hid (H0.out.call hp ho)
  clear hp ho X1
  go_wp2
  go_loopg [3, 4] (mu L s1) (fun k vo vi wr => ∃ (cs : List (Value × List Nd)) (s3 : St) (q : Option Addr) (m c : Nat), vi = .int .i64 (m : Int) ∧ vo = .slice q m c ∧ Hid (m = cs.length) ∧ Hid (KR w wr (.slice q m c) cs) ∧ Hid (OnR L g vt w wr s3) ∧
    Hid (∀ x m', Leads L [.lF false x m'] [] s1 [if cs = [] then .lF false x m' else .lN false x (m' + cs.length)] (cs.map (·.2)) s3) ∧ Hid (atS s1 ≤ atS s3) ∧ Hid (mu L s3 < n) ∧ Hid (Lz 3 s1 s3 cs) ∧ Hid (k = mu L s3) ∧ Hid (∀ k, s1 = .bad k → cs = []))
  case atStart => exact ⟨[], s1, _, 0, _, rfl, rfl, Lib.hid rfl, Lib.hid (KR.nil _ _), H1, Lib.hid (fun x m => Leads.refl _ _ _), Lib.hid (Nat.le_refl _), HMU, Lib.hid (Lz.nil _ _), Lib.hid rfl, Lib.hid (fun _ _ => rfl)⟩
  case round =>
    obtain ⟨cs, s3, q, m, c, rfl, rfl, HM, HR, HO, HL, HLE, HMU3, HZ, HK, HNO⟩ := hrel
    have c2 := HO.out.ps.at.2.2
    cases hb : isBad s3 with
    | true =>
      rw [hb] at c2
      have HEND : Hid (isBad s3 = true ∨ isS L [41] s3 = true) := Lib.hid (.inl hb)
      have O2 := HO
      have R2 := HR
      clear hb
      have HLS : Hid (∀ x m', Leads L [.lF false x m'] [] s1 [.lC false x (m' + cs.length)] (cs.map (·.2)) (markS L [41] s3)) := Lib.hid (fun x m' => (HL.out x m').trans (by
        by_cases hc : cs = []
        · subst hc; exact lF_shutM [] HEND.out
        · rw [if_neg hc]; exact lN_shutM _ HEND.out))
      have X2 := Lib.hid (fun W (hp : RS L g vt W s3) => must_any hp [41] (by decide))
      have HA2 := Lib.hid (atS_mark L [41] s3)
      generalize markS L [41] s3 = s5 at *
      go_wp2_with fail
      refine (X2.out _ O2.out.ps).mono ?_
      rintro e v3 ⟨rfl, hp, ho⟩
      have O3 := Lib.hid (O2.out.call hp ho)
      have R3 := Lib.hid (R2.out.only ho HLT.out)
      clear hp ho
      go_wp2
      go_ret
      refine ⟨_, cs, s5, rfl, ⟨fun x m' => (HMK.out x m').trans (HLS.out x m'), O3.out, R3.out, ?_, ?_, ?_, fun k hk => HNO.out k (HS0.out k hk)⟩⟩
      · have := HA1.out.1; have := HLE.out; have := HA2.out.1; omega
      · have := HA1.out.1; have := HLE.out; have := HA2.out.1; have := HZ.out.few; omega
      · have := HA1.out.1; have := HLE.out; have := HA2.out.1; have := HZ.out.size; omega
    | false =>
      rw [hb] at c2
      have HB3 := Lib.hid hb
      have HJ : Hid (s3 = .ok (atS s3)) := Lib.hid (by cases s3 with | ok j => rfl | bad k => cases hb)
      have HI := Lib.hid (is_any HO.out.ps [41] (by decide))
      cases hq : isS L [41] s3 with
      | true =>
        rw [hq] at HI
        have HEND : Hid (isBad s3 = true ∨ isS L [41] s3 = true) := Lib.hid (.inr hq)
        clear hb hq
        go_wp2_with fail
        refine HI.out.mono ?_
        rintro e v2 ⟨rfl, hb2⟩
        have O2 := Lib.hid (HO.out.below hb2)
        have R2 := Lib.hid (HR.out.below hb2)
        clear hb2 HI
        have HLS : Hid (∀ x m', Leads L [.lF false x m'] [] s1 [.lC false x (m' + cs.length)] (cs.map (·.2)) (markS L [41] s3)) := Lib.hid (fun x m' => (HL.out x m').trans (by
          by_cases hc : cs = []
          · subst hc; exact lF_shutM [] HEND.out
          · rw [if_neg hc]; exact lN_shutM _ HEND.out))
        have X2 := Lib.hid (fun W (hp : RS L g vt W s3) => must_any hp [41] (by decide))
        have HA2 := Lib.hid (atS_mark L [41] s3)
        generalize markS L [41] s3 = s5 at *
        go_wp2_with fail
        refine (X2.out _ O2.out.ps).mono ?_
        rintro e v3 ⟨rfl, hp, ho⟩
        have O3 := Lib.hid (O2.out.call hp ho)
        have R3 := Lib.hid (R2.out.only ho HLT.out)
        clear hp ho
        go_wp2
        go_ret
        refine ⟨_, cs, s5, rfl, ⟨fun x m' => (HMK.out x m').trans (HLS.out x m'), O3.out, R3.out, ?_, ?_, ?_, fun k hk => HNO.out k (HS0.out k hk)⟩⟩
        · have := HA1.out.1; have := HLE.out; have := HA2.out.1; omega
        · have := HA1.out.1; have := HLE.out; have := HA2.out.1; have := HZ.out.few; omega
        · have := HA1.out.1; have := HLE.out; have := HA2.out.1; have := HZ.out.size; omega
      | false =>
        rw [hq] at HI
        have HQ : Hid (sg L (atS s3) ≠ [41]) := Lib.hid (fun e => by
          have h1 := HJ.out
          have h2 : isS L [41] (.ok (atS s3)) = true := isS_ok.2 e
          rw [← h1, hq] at h2; cases h2)
        clear hb hq
        by_cases hc : cs = []
        · have z0 : ¬(m : Int) > 0 := by have := HM.out; subst hc; simp at this; omega
          obtain ⟨s4, hs4⟩ : ∃ s4, s4 = s3 := ⟨_, rfl⟩
          have H34 : Hid (atS s3 ≤ atS s4) := Lib.hid (by rw [hs4]; exact Nat.le_refl _)
          have HAF : Hid (Aft s3 s4) := Lib.hid (by rw [hs4]; exact Aft.refl _)
          have HL2 : Hid (∀ x m', Leads L [.lF false x m'] [] s1 [.e 0, .lN false x (m' + cs.length + 1)] (cs.map (·.2)) s4) := Lib.hid (fun x m' => by
            have h1 := HL.out x m'
            rw [if_pos hc] at h1
            refine h1.trans ?_
            rw [hs4]
            have h2 := lF_more (L := L) (p := false) (x := x) (m := m') (cs.map (·.2)) (s := .ok (atS s3)) HQ.out
            rw [← HJ.out] at h2
            rw [hc] at h2 ⊢
            exact h2)
          have E2 := Lib.hid (HE.out s4 (by rw [hs4]; exact HMU3.out))
          have HS4 := Lib.hid hs4
          clear hc hs4
          go_wp2_with fail
          refine HI.out.mono ?_
          rintro e v2 ⟨rfl, hb2⟩
          have O2 : Hid (OnR L g vt w v2 s4) := Lib.hid (by rw [HS4.out]; exact HO.out.below hb2)
          have R2 := Lib.hid (HR.out.below hb2)
          clear hb2 HI
          have R2m := Lib.hid R2.out
          go_wp2_with fail
          refine (E2.out g vt _ O2.out.ps).mono ?_
          rintro e v3 ⟨u, t, s5, rfl, hk⟩
          obtain ⟨up, un, uc, rfl⟩ := hk.row.form
          have O3 := Lib.hid (O2.out.call hk.rs hk.only)
          have R3 := Lib.hid (R2.out.only hk.only HLT.out)
          have HL4 : Hid (∀ x m', Leads L [.lF false x m'] [] s1 [if cs ++ [(Value.slice up un uc, t)] = [] then .lF false x m' else .lN false x (m' + (cs ++ [(Value.slice up un uc, t)]).length)] ((cs ++ [(Value.slice up un uc, t)]).map (·.2)) s5) := Lib.hid (fun x m' => by
            rw [if_neg (by simp)]
            refine (HL2.out x m').trans ?_
            have := hk.leads.over [.lN false x (m' + cs.length + 1)] (cs.map (·.2))
            rw [List.append_nil] at this
            rw [List.length_append, List.map_append, ← Nat.add_assoc]
            exact this)
          have HZ4 := Lib.hid (HZ.out.add (L := L) (w := v2) (w' := v3) (u := Value.slice up un uc) (t := t) (s4 := s4) (s5 := s5) (K := 2) HB3.out H34.out HLE.out hk (by decide) rfl)
          have HLE5 := Lib.hid (Nat.le_trans HLE.out (Nat.le_trans H34.out hk.le))
          have HMU5 : Hid (mu L s5 < n ∧ mu L s5 < mu L s3) := Lib.hid (by
            have h4 : mu L s4 ≤ mu L s3 := mu_leR HAF.out H34.out
            have h5 : mu L s5 < mu L s3 := by
              cases hs5 : s5 with
              | bad k => have := HJ.out; rw [this]; exact Nat.succ_pos _
              | ok j5 =>
                rw [hs5] at hk
                obtain ⟨i4, hi4⟩ := hk.leads.aft j5 rfl
                rw [hi4] at hk h4
                have h6 := Leads.least hk.leads
                have h7 : mt (.e 0) = 1 := rfl
                have h8 : i4 ≤ j5 := by omega
                have h9 : j5 ≤ L.length := hk.rs.le
                show L.length - j5 + 1 < mu L s3
                have : mu L (.ok i4) = L.length - i4 + 1 := rfl
                omega
            exact ⟨Nat.lt_trans h5 HMU3.out, h5⟩)
          have HNX : Hid (NdX v3 (fun k => k < w.heap.size ∨ (Value.slice q m c).ownBlock = some k) (Value.slice up un uc) t) := Lib.hid (hk.row.weaken (fun i _ hi => by
            rcases hi with hi | hi
            · have := O2.out.only.size; omega
            · exact (Tr.own_lo R2.out.row i hi).2))
          have N1 := Lib.hid (news_at v3 #[Value.slice up un uc] 23)
          have HU1 := Lib.hid hk.row.one
          have hm1 : m ≤ 1000001 := by have := HM.out; have := HZ.out.few; have := HO.out.ps.le; have := HFEW.out; omega
          have HSZ := Lib.hid O3.out.only.size
          have HNO4 : Hid (∀ k, s1 = .bad k → cs ++ [(Value.slice up un uc, t)] = []) := Lib.hid (fun k hk1 => by
            obtain ⟨i1, hi1⟩ := (HL.out (nd 0) 0).aft _ HJ.out
            rw [hk1] at hi1; cases hi1)
          clear hk HL2 E2 R2 R2m O2
          go_wp2_with (refine wpList_append_lies _ rfl (.tmp 23) (.tmp 26) 124 rfl w.heap.size 23 i0 (.slice none 0 0) 1 24 Tryz.underlying124 hi0 hy0 hy1 hy2 rfl (by decide) _ m (cs.map (·.1)) rfl (by have := R3.out.row.alloc (.cells #[Value.slice up un uc] 23); rw [← HM.out] at this; exact this) ⟨v3.heap.size, 0, none⟩ 1 1 [Value.slice up un uc] rfl rfl N1.out (by intro x hx; rw [List.mem_singleton.1 hx]; exact HU1.out) (by decide) (by unfold maxLen; omega) (by omega) (by have := HSZ.out; simp; omega) (v3.heap.size + 1) (by simp) ?_; intro g' cap v7 hrow hgr hgl hlt7; have HP := Lib.hid (R3.out.push HM.out HNX.out hrow hgr hgl); have HOW := Lib.hid (Tr.own_lo R3.out.row); clear hrow hgr hgl hlt7)
          have O7 := Lib.hid (O3.out.own HP.out.2 (fun i hi => (HOW.out i hi).1))
          go_roundg (mu L s5)
          case rel => exact ⟨_, s5, _, _, _, by go_num, rfl, Lib.hid (by rw [List.length_append, ← HM.out]; rfl), Lib.hid HP.out.1, O7, HL4, HLE5, Lib.hid HMU5.out.1, HZ4, Lib.hid rfl, HNO4⟩
          case measure => have := HK.out; have := HMU5.out.2; omega
        · have z0 : (m : Int) > 0 := by have := HM.out; have := List.length_pos_iff.2 hc; omega
          have X3 := Lib.hid (fun W (hp : RS L g vt W s3) => must_any hp [44] (by decide))
          have HL2 : Hid (∀ x m', Leads L [.lF false x m'] [] s1 [.e 0, .lN false x (m' + cs.length + 1)] (cs.map (·.2)) (markS L [44] s3)) := Lib.hid (fun x m' => by
            have h1 := HL.out x m'
            rw [if_neg hc] at h1
            refine h1.trans ?_
            have h2 := lN_comma (L := L) (p := false) (x := x) (m := m' + cs.length) (cs.map (·.2)) HQ.out
            rw [← HJ.out] at h2
            exact h2)
          have H34 := Lib.hid (atS_mark L [44] s3).1
          have HAF : Hid (Aft s3 (markS L [44] s3)) := Lib.hid (Leads.mark (L := L) [44] s3).aft
          generalize markS L [44] s3 = s4 at *
          have E2 := Lib.hid (HE.out s4 (Nat.lt_of_le_of_lt (mu_leR HAF.out H34.out) HMU3.out))
          clear hc
          go_wp2_with fail
          refine HI.out.mono ?_
          rintro e v1 ⟨rfl, hb2⟩
          have O1 := Lib.hid (HO.out.below hb2)
          have R1 := Lib.hid (HR.out.below hb2)
          clear hb2 HI
          go_wp2_with fail
          refine (X3.out _ O1.out.ps).mono ?_
          rintro e v2 ⟨rfl, hp, ho⟩
          have O2 := Lib.hid (O1.out.call hp ho)
          have R2 := Lib.hid (R1.out.only ho HLT.out)
          clear hp ho X3 O1 R1
          have R2m := Lib.hid R2.out
          go_wp2_with fail
          refine (E2.out g vt _ O2.out.ps).mono ?_
          rintro e v3 ⟨u, t, s5, rfl, hk⟩
          obtain ⟨up, un, uc, rfl⟩ := hk.row.form
          have O3 := Lib.hid (O2.out.call hk.rs hk.only)
          have R3 := Lib.hid (R2.out.only hk.only HLT.out)
          have HL4 : Hid (∀ x m', Leads L [.lF false x m'] [] s1 [if cs ++ [(Value.slice up un uc, t)] = [] then .lF false x m' else .lN false x (m' + (cs ++ [(Value.slice up un uc, t)]).length)] ((cs ++ [(Value.slice up un uc, t)]).map (·.2)) s5) := Lib.hid (fun x m' => by
            rw [if_neg (by simp)]
            refine (HL2.out x m').trans ?_
            have := hk.leads.over [.lN false x (m' + cs.length + 1)] (cs.map (·.2))
            rw [List.append_nil] at this
            rw [List.length_append, List.map_append, ← Nat.add_assoc]
            exact this)
          have HZ4 := Lib.hid (HZ.out.add (L := L) (w := v2) (w' := v3) (u := Value.slice up un uc) (t := t) (s4 := s4) (s5 := s5) (K := 2) HB3.out H34.out HLE.out hk (by decide) rfl)
          have HLE5 := Lib.hid (Nat.le_trans HLE.out (Nat.le_trans H34.out hk.le))
          have HMU5 : Hid (mu L s5 < n ∧ mu L s5 < mu L s3) := Lib.hid (by
            have h4 : mu L s4 ≤ mu L s3 := mu_leR HAF.out H34.out
            have h5 : mu L s5 < mu L s3 := by
              cases hs5 : s5 with
              | bad k => have := HJ.out; rw [this]; exact Nat.succ_pos _
              | ok j5 =>
                rw [hs5] at hk
                obtain ⟨i4, hi4⟩ := hk.leads.aft j5 rfl
                rw [hi4] at hk h4
                have h6 := Leads.least hk.leads
                have h7 : mt (.e 0) = 1 := rfl
                have h8 : i4 ≤ j5 := by omega
                have h9 : j5 ≤ L.length := hk.rs.le
                show L.length - j5 + 1 < mu L s3
                have : mu L (.ok i4) = L.length - i4 + 1 := rfl
                omega
            exact ⟨Nat.lt_trans h5 HMU3.out, h5⟩)
          have HNX : Hid (NdX v3 (fun k => k < w.heap.size ∨ (Value.slice q m c).ownBlock = some k) (Value.slice up un uc) t) := Lib.hid (hk.row.weaken (fun i _ hi => by
            rcases hi with hi | hi
            · have := O2.out.only.size; omega
            · exact (Tr.own_lo R2.out.row i hi).2))
          have N1 := Lib.hid (news_at v3 #[Value.slice up un uc] 23)
          have HU1 := Lib.hid hk.row.one
          have hm1 : m ≤ 1000001 := by have := HM.out; have := HZ.out.few; have := HO.out.ps.le; have := HFEW.out; omega
          have HSZ := Lib.hid O3.out.only.size
          have HNO4 : Hid (∀ k, s1 = .bad k → cs ++ [(Value.slice up un uc, t)] = []) := Lib.hid (fun k hk1 => by
            obtain ⟨i1, hi1⟩ := (HL.out (nd 0) 0).aft _ HJ.out
            rw [hk1] at hi1; cases hi1)
          clear hk HL2 E2 R2 R2m O2
          go_wp2_with (refine wpList_append_lies _ rfl (.tmp 23) (.tmp 26) 124 rfl w.heap.size 23 i0 (.slice none 0 0) 1 24 Tryz.underlying124 hi0 hy0 hy1 hy2 rfl (by decide) _ m (cs.map (·.1)) rfl (by have := R3.out.row.alloc (.cells #[Value.slice up un uc] 23); rw [← HM.out] at this; exact this) ⟨v3.heap.size, 0, none⟩ 1 1 [Value.slice up un uc] rfl rfl N1.out (by intro x hx; rw [List.mem_singleton.1 hx]; exact HU1.out) (by decide) (by unfold maxLen; omega) (by omega) (by have := HSZ.out; simp; omega) (v3.heap.size + 1) (by simp) ?_; intro g' cap v7 hrow hgr hgl hlt7; have HP := Lib.hid (R3.out.push HM.out HNX.out hrow hgr hgl); have HOW := Lib.hid (Tr.own_lo R3.out.row); clear hrow hgr hgl hlt7)
          have O7 := Lib.hid (O3.out.own HP.out.2 (fun i hi => (HOW.out i hi).1))
          go_roundg (mu L s5)
          case rel => exact ⟨_, s5, _, _, _, by go_num, rfl, Lib.hid (by rw [List.length_append, ← HM.out]; rfl), Lib.hid HP.out.1, O7, HL4, HLE5, Lib.hid HMU5.out.1, HZ4, Lib.hid rfl, HNO4⟩
          case measure => have := HK.out; have := HMU5.out.2; omega

end Go.Proofs.YtemlceicmpcboaaGreatDoor.Pa
namespace Go.Proofs.YtemlceicmpcboaaGreatDoor.Pa
open Go.RowKit Dk Lx Tr

/-- A parameter. -/
def parN (q : List UInt8) : Nd := { nd 4 with name := q }
theorem par_lead {L : List Tk} (us : List (List Nd)) (s : St) : Leads L [.par] us s [] (us ++ [[parN (nameV L 1 s).text]]) (needS L 1 s) := by
  have h1 := need_lead (L := L) .par 1 [] s (fun t => [.mk { nd 4 with name := t.text } 0]) (fun V i => by rw [← tx_getD]; rfl)
  have h2 := Leads.mk (L := L) { nd 4 with name := (nameV L 1 s).text } [] 0 rfl (needS L 1 s)
  have h3 := (h1.trans h2).over [] us
  rw [List.append_nil, List.append_nil, List.append_nil] at h3
  exact h3
/-- One more parameter. -/
theorem Lz.add1 {K : Nat} {s s3 s4 s5 : St} {cs : List (Value × List Nd)} {u : Value} {x : Nd} (h : Lz (K + 1) s s3 cs) (h3 : isBad s3 = false) (h34 : atS s3 ≤ atS s4) (hs : atS s ≤ atS s3) (h45 : atS s4 ≤ atS s5) (hok : isBad s5 = false → atS s4 + 1 ≤ atS s5) :
    Lz (K + 1) s s5 (cs ++ [(u, [x])]) := by
  obtain ⟨a1, a2⟩ := h.okc h3
  refine ⟨?_, fun hb => ⟨?_, ?_⟩, ?_⟩
  · rw [List.length_append, List.length_singleton]; omega
  · have := hok hb; rw [List.length_append, List.length_singleton]; omega
  · have := hok hb; rw [flat_snoc, List.length_singleton]; omega
  · rw [flat_snoc, List.length_singleton]; omega
theorem need_okS {L : List Tk} {k : Int} {s : St} (h : isBad (needS L k s) = false) : atS s + 1 ≤ atS (needS L k s) := by
  rcases needS_at (L := L) (k := k) (s := s) with e | ⟨i, rfl, -, e⟩
  · rw [e] at h; cases h
  · rw [e]; exact Nat.le_refl _
theorem need_aft' {L : List Tk} (k : Int) (s : St) : Aft s (needS L k s) := by
  cases s with
  | ok i => exact fun _ _ => ⟨i, rfl⟩
  | bad j => exact fun i hi => by cases hi
/-- A node in a row of its own. -/
theorem one_node {W : World} {X : Nat → Prop} (x : Nd) (ty : TypeId) (hX : ¬X W.heap.size) : NdX (W.alloc (.cells x.cells.toArray ty)) X (.slice (some ⟨W.heap.size, 0, none⟩) 1 1) [x] := by
  refine .inr ⟨by simp, W.heap.size, 0, 1, rfl, Nat.le_refl _, by simp, hX, ?_⟩
  rw [show ncells [x] = x.cells by simp [ncells]]
  exact range_new W x.cells ty

set_option maxHeartbeats 4000000 in
set_option maxRecDepth 100000 in
theorem params_any (L : List Tk) (s : St) (g : Nat) (vt : Value) (w : World) (h : RS L g vt w s) :
    Calls Tryz.prog 135 #[ptr g] w fun e w' => ∃ v cs s', e = .returned v ∧ ArOk L g vt true 3 s w w' v cs s' := by
  have X1 := Lib.hid (must_any h [40] (by decide))
  have HA1 := Lib.hid (atS_mark L [40] s)
  have HS0 : Hid (∀ k, s = .bad k → markS L [40] s = .bad k) := Lib.hid (fun k hk => by subst hk; rfl)
  have HMK : Hid (∀ x m, Leads L [.mark [40], .lF true x m] [] s [.lF true x m] [] (markS L [40] s)) := Lib.hid (fun x m => by
    have := (Leads.mark (L := L) [40] s).over [.lF true x m] []
    exact this)
  generalize hs1 : markS L [40] s = s1 at *
  have H0 := Lib.hid (OnR.start h)
  have HLT := Lib.hid h.lt
  have HFEW := Lib.hid h.few
  obtain ⟨i0, hi0, hy0, hy1, hy2⟩ := info_parts nds_info3
  clear h hs1
  go_enter Tryz.func135, Tryz.ntmps135
  go_wp2_with fail
  refine X1.out.mono ?_
  rintro e w1 ⟨rfl, hp, ho⟩
  have H1 := Lib.hid (H0.out.call hp ho)
  clear hp ho X1
  go_wp2
  go_loopg [3, 4] (mu L s1) (fun k vo vi wr => ∃ (cs : List (Value × List Nd)) (s3 : St) (q : Option Addr) (m c : Nat), vi = .int .i64 (m : Int) ∧ vo = .slice q m c ∧ Hid (m = cs.length) ∧ Hid (KR w wr (.slice q m c) cs) ∧ Hid (OnR L g vt w wr s3) ∧
    Hid (∀ x m', Leads L [.lF true x m'] [] s1 [if cs = [] then .lF true x m' else .lN true x (m' + cs.length)] (cs.map (·.2)) s3) ∧ Hid (atS s1 ≤ atS s3) ∧ Hid (Lz 3 s1 s3 cs) ∧ Hid (k = mu L s3) ∧ Hid (∀ k, s1 = .bad k → cs = []))
  case atStart => exact ⟨[], s1, _, 0, _, rfl, rfl, Lib.hid rfl, Lib.hid (KR.nil _ _), H1, Lib.hid (fun x m => Leads.refl _ _ _), Lib.hid (Nat.le_refl _), Lib.hid (Lz.nil _ _), Lib.hid rfl, Lib.hid (fun _ _ => rfl)⟩
  case round =>
    obtain ⟨cs, s3, q, m, c, rfl, rfl, HM, HR, HO, HL, HLE, HZ, HK, HNO⟩ := hrel
    have c2 := HO.out.ps.at.2.2
    cases hb : isBad s3 with
    | true =>
      rw [hb] at c2
      have HEND : Hid (isBad s3 = true ∨ isS L [41] s3 = true) := Lib.hid (.inl hb)
      have O2 := HO
      have R2 := HR
      clear hb
      have HLS : Hid (∀ x m', Leads L [.lF true x m'] [] s1 [.lC true x (m' + cs.length)] (cs.map (·.2)) (markS L [41] s3)) := Lib.hid (fun x m' => (HL.out x m').trans (by
        by_cases hc : cs = []
        · subst hc; exact lF_shutM [] HEND.out
        · rw [if_neg hc]; exact lN_shutM _ HEND.out))
      have X2 := Lib.hid (fun W (hp : RS L g vt W s3) => must_any hp [41] (by decide))
      have HA2 := Lib.hid (atS_mark L [41] s3)
      generalize markS L [41] s3 = s5 at *
      go_wp2_with fail
      refine (X2.out _ O2.out.ps).mono ?_
      rintro e v3 ⟨rfl, hp, ho⟩
      have O3 := Lib.hid (O2.out.call hp ho)
      have R3 := Lib.hid (R2.out.only ho HLT.out)
      clear hp ho
      go_wp2
      go_ret
      refine ⟨_, cs, s5, rfl, ⟨fun x m' => (HMK.out x m').trans (HLS.out x m'), O3.out, R3.out, ?_, ?_, ?_, fun k hk => HNO.out k (HS0.out k hk)⟩⟩
      · have := HA1.out.1; have := HLE.out; have := HA2.out.1; omega
      · have := HA1.out.1; have := HLE.out; have := HA2.out.1; have := HZ.out.few; omega
      · have := HA1.out.1; have := HLE.out; have := HA2.out.1; have := HZ.out.size; omega
    | false =>
      rw [hb] at c2
      have HB3 := Lib.hid hb
      have HJ : Hid (s3 = .ok (atS s3)) := Lib.hid (by cases s3 with | ok j => rfl | bad k => cases hb)
      have HI := Lib.hid (is_any HO.out.ps [41] (by decide))
      cases hq : isS L [41] s3 with
      | true =>
        rw [hq] at HI
        have HEND : Hid (isBad s3 = true ∨ isS L [41] s3 = true) := Lib.hid (.inr hq)
        clear hb hq
        go_wp2_with fail
        refine HI.out.mono ?_
        rintro e v2 ⟨rfl, hb2⟩
        have O2 := Lib.hid (HO.out.below hb2)
        have R2 := Lib.hid (HR.out.below hb2)
        clear hb2 HI
        have HLS : Hid (∀ x m', Leads L [.lF true x m'] [] s1 [.lC true x (m' + cs.length)] (cs.map (·.2)) (markS L [41] s3)) := Lib.hid (fun x m' => (HL.out x m').trans (by
          by_cases hc : cs = []
          · subst hc; exact lF_shutM [] HEND.out
          · rw [if_neg hc]; exact lN_shutM _ HEND.out))
        have X2 := Lib.hid (fun W (hp : RS L g vt W s3) => must_any hp [41] (by decide))
        have HA2 := Lib.hid (atS_mark L [41] s3)
        generalize markS L [41] s3 = s5 at *
        go_wp2_with fail
        refine (X2.out _ O2.out.ps).mono ?_
        rintro e v3 ⟨rfl, hp, ho⟩
        have O3 := Lib.hid (O2.out.call hp ho)
        have R3 := Lib.hid (R2.out.only ho HLT.out)
        clear hp ho
        go_wp2
        go_ret
        refine ⟨_, cs, s5, rfl, ⟨fun x m' => (HMK.out x m').trans (HLS.out x m'), O3.out, R3.out, ?_, ?_, ?_, fun k hk => HNO.out k (HS0.out k hk)⟩⟩
        · have := HA1.out.1; have := HLE.out; have := HA2.out.1; omega
        · have := HA1.out.1; have := HLE.out; have := HA2.out.1; have := HZ.out.few; omega
        · have := HA1.out.1; have := HLE.out; have := HA2.out.1; have := HZ.out.size; omega
      | false =>
        rw [hq] at HI
        have HQ : Hid (sg L (atS s3) ≠ [41]) := Lib.hid (fun e => by
          have h1 := HJ.out
          have h2 : isS L [41] (.ok (atS s3)) = true := isS_ok.2 e
          rw [← h1, hq] at h2; cases h2)
        clear hb hq
        by_cases hc : cs = []
        · have z0 : ¬(m : Int) > 0 := by have := HM.out; subst hc; simp at this; omega
          obtain ⟨s4, hs4⟩ : ∃ s4, s4 = s3 := ⟨_, rfl⟩
          have H34 : Hid (atS s3 ≤ atS s4) := Lib.hid (by rw [hs4]; exact Nat.le_refl _)
          have HAF : Hid (Aft s3 s4) := Lib.hid (by rw [hs4]; exact Aft.refl _)
          have HL2 : Hid (∀ x m', Leads L [.lF true x m'] [] s1 [.par, .lN true x (m' + cs.length + 1)] (cs.map (·.2)) s4) := Lib.hid (fun x m' => by
            have h1 := HL.out x m'
            rw [if_pos hc] at h1
            refine h1.trans ?_
            rw [hs4]
            have h2 := lF_more (L := L) (p := true) (x := x) (m := m') (cs.map (·.2)) (s := .ok (atS s3)) HQ.out
            rw [← HJ.out] at h2
            rw [hc] at h2 ⊢
            exact h2)
          have HS4 := Lib.hid hs4
          clear hc hs4
          go_wp2_with fail
          refine HI.out.mono ?_
          rintro e v2 ⟨rfl, hb2⟩
          have O2 : Hid (OnR L g vt w v2 s4) := Lib.hid (by rw [HS4.out]; exact HO.out.below hb2)
          have R2 := Lib.hid (HR.out.below hb2)
          clear hb2 HI
          have X4 := Lib.hid (fun W (hp : RS L g vt W s4) => need_any (1 : Int) hp (by decide))
          have HA4 := Lib.hid (atS_need L 1 s4)
          have HOK4 : Hid (isBad (needS L 1 s4) = false → atS s4 + 1 ≤ atS (needS L 1 s4)) := Lib.hid need_okS
          have HAF4 := Lib.hid (need_aft' (L := L) 1 s4)
          have HL3 : Hid (∀ x m', Leads L [.lF true x m'] [] s1 [.lN true x (m' + cs.length + 1)] (cs.map (·.2) ++ [[parN (nameV L 1 s4).text]]) (needS L 1 s4)) := Lib.hid (fun x m' => (HL2.out x m').trans (by
            have := (par_lead (L := L) [] s4).over [.lN true x (m' + cs.length + 1)] (cs.map (·.2))
            rw [List.append_nil, List.nil_append] at this
            exact this))
          generalize needS L 1 s4 = s5 at *
          generalize nameV L 1 s4 = E at *
          obtain ⟨ek, et, en, ep⟩ := E
          have hfd : ∀ W : World, (Instr.field 72 (.agg #[.int .i64 ek, .string (strOf et), .int .i64 en, .int .i64 ep]) 1).run Tryz.prog W = .ok (.string (strOf et)) W := fun _ => by kernel_rfl
          go_wp2_with fail
          refine (X4.out _ O2.out.ps).mono ?_
          rintro e v3 ⟨rfl, hp, ho⟩
          have O3 := Lib.hid (O2.out.call hp ho)
          have R3 := Lib.hid (R2.out.only ho HLT.out)
          clear hp ho X4
          simp only [Tk.cells]
          have HPN : Hid ((parN et).cells = [.int .i64 4, .int .i64 0, .string (strOf et), .int .i64 0, .string ⟨#[]⟩]) := Lib.hid rfl
          obtain ⟨v4, hv4⟩ : ∃ v4, v4 = v3.alloc (.cells #[.int .i64 4, .int .i64 0, .string (strOf et), .int .i64 0, .string ⟨#[]⟩] 29) := ⟨_, rfl⟩
          have O4 : Hid (OnR L g vt w v4 s5) := Lib.hid (by rw [hv4]; exact O3.out.alloc _)
          have R4 : Hid (KR w v4 (.slice q m c) cs) := Lib.hid (by rw [hv4]; exact R3.out.below ((Below.refl _ _).alloc (Nat.le_refl _) _))
          have HNX : Hid (NdX v4 (fun k => k < w.heap.size ∨ (Value.slice q m c).ownBlock = some k) (.slice (some ⟨v3.heap.size, 0, none⟩) 1 1) [parN et]) := Lib.hid (by
            have := one_node (W := v3) (X := fun k => k < w.heap.size ∨ (Value.slice q m c).ownBlock = some k) (parN et) 29 (fun hi => by
              rcases hi with hi | hi
              · have := O3.out.only.size; omega
              · have := (Tr.own_lo R3.out.row _ hi).2; omega)
            rw [HPN.out] at this
            rw [hv4]; exact this)
          have HL4 : Hid (∀ x m', Leads L [.lF true x m'] [] s1 [if cs ++ [((Value.slice (some ⟨v3.heap.size, 0, none⟩) 1 1), [parN et])] = [] then .lF true x m' else .lN true x (m' + (cs ++ [((Value.slice (some ⟨v3.heap.size, 0, none⟩) 1 1), [parN et])]).length)] ((cs ++ [((Value.slice (some ⟨v3.heap.size, 0, none⟩) 1 1), [parN et])]).map (·.2)) s5) := Lib.hid (fun x m' => by
            rw [if_neg (by simp), List.length_append, List.map_append, ← Nat.add_assoc]
            exact HL3.out x m')
          have HZ4 := Lib.hid (HZ.out.add1 (s4 := s4) (s5 := s5) (K := 2) (u := Value.slice (some ⟨v3.heap.size, 0, none⟩) 1 1) (x := parN et) HB3.out H34.out HLE.out HA4.out.1 HOK4.out)
          have HLE5 := Lib.hid (Nat.le_trans HLE.out (Nat.le_trans H34.out HA4.out.1))
          have HMU5 : Hid (mu L s5 < mu L s3) := Lib.hid (by
            have h4 : mu L s4 ≤ mu L s3 := mu_leR HAF.out H34.out
            cases hs5 : s5 with
            | bad k => have := HJ.out; rw [this]; exact Nat.succ_pos _
            | ok j5 =>
              obtain ⟨i4, hi4⟩ := HAF4.out j5 hs5
              have h6 := HOK4.out (by rw [hs5]; rfl)
              rw [hi4] at h4 h6
              rw [hs5] at h6
              have h9 := O3.out.ps.le
              rw [hs5] at h9
              have h6' : i4 + 1 ≤ j5 := h6
              have h9' : j5 ≤ L.length := h9
              show L.length - j5 + 1 < mu L s3
              have : mu L (.ok i4) = L.length - i4 + 1 := rfl
              omega)
          have HSV : Hid (v4.heap.size = v3.heap.size + 1) := Lib.hid (by rw [hv4]; simp)
          have n1 := news_at v4 #[Value.slice (some ⟨v3.heap.size, 0, none⟩) 1 1] 23
          rw [HSV.out] at n1
          have N1 := Lib.hid n1
          clear n1
          have hm1 : m ≤ 1000001 := by have := HM.out; have := HZ.out.few; have := HO.out.ps.le; have := HFEW.out; omega
          have HSZ := Lib.hid O4.out.only.size
          have HNO4 : Hid (∀ k, s1 = .bad k → cs ++ [((Value.slice (some ⟨v3.heap.size, 0, none⟩) 1 1), [parN et])] = []) := Lib.hid (fun k hk1 => by
            obtain ⟨i1, hi1⟩ := (HL.out (nd 0) 0).aft _ HJ.out
            rw [hk1] at hi1; cases hi1)
          clear HL2 HL3 R2 O2 HPN
          go_wp2_with (first
            | (rw [← hv4]; refine wpList_append_lies _ rfl (.tmp 23) (.tmp 29) 124 rfl w.heap.size 23 i0 (.slice none 0 0) 1 24 Tryz.underlying124 hi0 hy0 hy1 hy2 rfl (by decide) _ m (cs.map (·.1)) rfl (by have := R4.out.row.alloc (.cells #[Value.slice (some ⟨v3.heap.size, 0, none⟩) 1 1] 23); rw [← HM.out] at this; exact this) ⟨v3.heap.size + 1, 0, none⟩ 1 1 [Value.slice (some ⟨v3.heap.size, 0, none⟩) 1 1] rfl rfl N1.out (by intro x hx; rw [List.mem_singleton.1 hx]; rfl) (by decide) (by unfold maxLen; omega) (by omega) (by have := HSZ.out; simp; omega) (v3.heap.size + 2) (by have := HSV.out; simp; omega) ?_; intro g' cap v7 hrow hgr hgl hlt7; have HP := Lib.hid (R4.out.push HM.out HNX.out hrow hgr (hgl.imp id (fun h => by have := HSV.out; omega))); have HOW := Lib.hid (Tr.own_lo R4.out.row); clear hrow hgr hgl hlt7))
          have O7 := Lib.hid (O4.out.own HP.out.2 (fun i hi => (HOW.out i hi).1))
          go_roundg (mu L s5)
          case rel => exact ⟨_, s5, _, _, _, by go_num, rfl, Lib.hid (by rw [List.length_append, ← HM.out]; rfl), Lib.hid HP.out.1, O7, HL4, HLE5, HZ4, Lib.hid rfl, HNO4⟩
          case measure => have := HK.out; have := HMU5.out; omega
        · have z0 : (m : Int) > 0 := by have := HM.out; have := List.length_pos_iff.2 hc; omega
          have X3 := Lib.hid (fun W (hp : RS L g vt W s3) => must_any hp [44] (by decide))
          have HL2 : Hid (∀ x m', Leads L [.lF true x m'] [] s1 [.par, .lN true x (m' + cs.length + 1)] (cs.map (·.2)) (markS L [44] s3)) := Lib.hid (fun x m' => by
            have h1 := HL.out x m'
            rw [if_neg hc] at h1
            refine h1.trans ?_
            have h2 := lN_comma (L := L) (p := true) (x := x) (m := m' + cs.length) (cs.map (·.2)) HQ.out
            rw [← HJ.out] at h2
            exact h2)
          have H34 := Lib.hid (atS_mark L [44] s3).1
          have HAF : Hid (Aft s3 (markS L [44] s3)) := Lib.hid (Leads.mark (L := L) [44] s3).aft
          generalize markS L [44] s3 = s4 at *
          clear hc
          go_wp2_with fail
          refine HI.out.mono ?_
          rintro e v1 ⟨rfl, hb2⟩
          have O1 := Lib.hid (HO.out.below hb2)
          have R1 := Lib.hid (HR.out.below hb2)
          clear hb2 HI
          go_wp2_with fail
          refine (X3.out _ O1.out.ps).mono ?_
          rintro e v2 ⟨rfl, hp, ho⟩
          have O2 := Lib.hid (O1.out.call hp ho)
          have R2 := Lib.hid (R1.out.only ho HLT.out)
          clear hp ho X3 O1 R1
          have X4 := Lib.hid (fun W (hp : RS L g vt W s4) => need_any (1 : Int) hp (by decide))
          have HA4 := Lib.hid (atS_need L 1 s4)
          have HOK4 : Hid (isBad (needS L 1 s4) = false → atS s4 + 1 ≤ atS (needS L 1 s4)) := Lib.hid need_okS
          have HAF4 := Lib.hid (need_aft' (L := L) 1 s4)
          have HL3 : Hid (∀ x m', Leads L [.lF true x m'] [] s1 [.lN true x (m' + cs.length + 1)] (cs.map (·.2) ++ [[parN (nameV L 1 s4).text]]) (needS L 1 s4)) := Lib.hid (fun x m' => (HL2.out x m').trans (by
            have := (par_lead (L := L) [] s4).over [.lN true x (m' + cs.length + 1)] (cs.map (·.2))
            rw [List.append_nil, List.nil_append] at this
            exact this))
          generalize needS L 1 s4 = s5 at *
          generalize nameV L 1 s4 = E at *
          obtain ⟨ek, et, en, ep⟩ := E
          have hfd : ∀ W : World, (Instr.field 72 (.agg #[.int .i64 ek, .string (strOf et), .int .i64 en, .int .i64 ep]) 1).run Tryz.prog W = .ok (.string (strOf et)) W := fun _ => by kernel_rfl
          go_wp2_with fail
          refine (X4.out _ O2.out.ps).mono ?_
          rintro e v3 ⟨rfl, hp, ho⟩
          have O3 := Lib.hid (O2.out.call hp ho)
          have R3 := Lib.hid (R2.out.only ho HLT.out)
          clear hp ho X4
          simp only [Tk.cells]
          have HPN : Hid ((parN et).cells = [.int .i64 4, .int .i64 0, .string (strOf et), .int .i64 0, .string ⟨#[]⟩]) := Lib.hid rfl
          obtain ⟨v4, hv4⟩ : ∃ v4, v4 = v3.alloc (.cells #[.int .i64 4, .int .i64 0, .string (strOf et), .int .i64 0, .string ⟨#[]⟩] 29) := ⟨_, rfl⟩
          have O4 : Hid (OnR L g vt w v4 s5) := Lib.hid (by rw [hv4]; exact O3.out.alloc _)
          have R4 : Hid (KR w v4 (.slice q m c) cs) := Lib.hid (by rw [hv4]; exact R3.out.below ((Below.refl _ _).alloc (Nat.le_refl _) _))
          have HNX : Hid (NdX v4 (fun k => k < w.heap.size ∨ (Value.slice q m c).ownBlock = some k) (.slice (some ⟨v3.heap.size, 0, none⟩) 1 1) [parN et]) := Lib.hid (by
            have := one_node (W := v3) (X := fun k => k < w.heap.size ∨ (Value.slice q m c).ownBlock = some k) (parN et) 29 (fun hi => by
              rcases hi with hi | hi
              · have := O3.out.only.size; omega
              · have := (Tr.own_lo R3.out.row _ hi).2; omega)
            rw [HPN.out] at this
            rw [hv4]; exact this)
          have HL4 : Hid (∀ x m', Leads L [.lF true x m'] [] s1 [if cs ++ [((Value.slice (some ⟨v3.heap.size, 0, none⟩) 1 1), [parN et])] = [] then .lF true x m' else .lN true x (m' + (cs ++ [((Value.slice (some ⟨v3.heap.size, 0, none⟩) 1 1), [parN et])]).length)] ((cs ++ [((Value.slice (some ⟨v3.heap.size, 0, none⟩) 1 1), [parN et])]).map (·.2)) s5) := Lib.hid (fun x m' => by
            rw [if_neg (by simp), List.length_append, List.map_append, ← Nat.add_assoc]
            exact HL3.out x m')
          have HZ4 := Lib.hid (HZ.out.add1 (s4 := s4) (s5 := s5) (K := 2) (u := Value.slice (some ⟨v3.heap.size, 0, none⟩) 1 1) (x := parN et) HB3.out H34.out HLE.out HA4.out.1 HOK4.out)
          have HLE5 := Lib.hid (Nat.le_trans HLE.out (Nat.le_trans H34.out HA4.out.1))
          have HMU5 : Hid (mu L s5 < mu L s3) := Lib.hid (by
            have h4 : mu L s4 ≤ mu L s3 := mu_leR HAF.out H34.out
            cases hs5 : s5 with
            | bad k => have := HJ.out; rw [this]; exact Nat.succ_pos _
            | ok j5 =>
              obtain ⟨i4, hi4⟩ := HAF4.out j5 hs5
              have h6 := HOK4.out (by rw [hs5]; rfl)
              rw [hi4] at h4 h6
              rw [hs5] at h6
              have h9 := O3.out.ps.le
              rw [hs5] at h9
              have h6' : i4 + 1 ≤ j5 := h6
              have h9' : j5 ≤ L.length := h9
              show L.length - j5 + 1 < mu L s3
              have : mu L (.ok i4) = L.length - i4 + 1 := rfl
              omega)
          have HSV : Hid (v4.heap.size = v3.heap.size + 1) := Lib.hid (by rw [hv4]; simp)
          have n1 := news_at v4 #[Value.slice (some ⟨v3.heap.size, 0, none⟩) 1 1] 23
          rw [HSV.out] at n1
          have N1 := Lib.hid n1
          clear n1
          have hm1 : m ≤ 1000001 := by have := HM.out; have := HZ.out.few; have := HO.out.ps.le; have := HFEW.out; omega
          have HSZ := Lib.hid O4.out.only.size
          have HNO4 : Hid (∀ k, s1 = .bad k → cs ++ [((Value.slice (some ⟨v3.heap.size, 0, none⟩) 1 1), [parN et])] = []) := Lib.hid (fun k hk1 => by
            obtain ⟨i1, hi1⟩ := (HL.out (nd 0) 0).aft _ HJ.out
            rw [hk1] at hi1; cases hi1)
          clear HL2 HL3 R2 O2 HPN
          go_wp2_with (first
            | (rw [← hv4]; refine wpList_append_lies _ rfl (.tmp 23) (.tmp 29) 124 rfl w.heap.size 23 i0 (.slice none 0 0) 1 24 Tryz.underlying124 hi0 hy0 hy1 hy2 rfl (by decide) _ m (cs.map (·.1)) rfl (by have := R4.out.row.alloc (.cells #[Value.slice (some ⟨v3.heap.size, 0, none⟩) 1 1] 23); rw [← HM.out] at this; exact this) ⟨v3.heap.size + 1, 0, none⟩ 1 1 [Value.slice (some ⟨v3.heap.size, 0, none⟩) 1 1] rfl rfl N1.out (by intro x hx; rw [List.mem_singleton.1 hx]; rfl) (by decide) (by unfold maxLen; omega) (by omega) (by have := HSZ.out; simp; omega) (v3.heap.size + 2) (by have := HSV.out; simp; omega) ?_; intro g' cap v7 hrow hgr hgl hlt7; have HP := Lib.hid (R4.out.push HM.out HNX.out hrow hgr (hgl.imp id (fun h => by have := HSV.out; omega))); have HOW := Lib.hid (Tr.own_lo R4.out.row); clear hrow hgr hgl hlt7))
          have O7 := Lib.hid (O4.out.own HP.out.2 (fun i hi => (HOW.out i hi).1))
          go_roundg (mu L s5)
          case rel => exact ⟨_, s5, _, _, _, by go_num, rfl, Lib.hid (by rw [List.length_append, ← HM.out]; rfl), Lib.hid HP.out.1, O7, HL4, HLE5, HZ4, Lib.hid rfl, HNO4⟩
          case measure => have := HK.out; have := HMU5.out; omega

end Go.Proofs.YtemlceicmpcboaaGreatDoor.Pa
