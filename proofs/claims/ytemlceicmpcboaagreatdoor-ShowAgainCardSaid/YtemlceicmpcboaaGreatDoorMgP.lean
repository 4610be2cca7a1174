/- A name for a text that stands elsewhere. What a module's tree that is right says of each of its nodes: plain facts. The machine's way from one place to another, step by step; what of it the tokens decide, and what lies below it. No walk, and no condition but those that each states. What lies below the trees that a front reads is left alone; an item of a module is read by the tokens that it takes alone. No walk, and no condition but those that each states. A module's tree: its header, and one tree for each item. No walk, and no condition but those that each states. When a module's tree is right, by its items' trees. No walk, and no condition but those that each states. No condition but those that each states. -/
import Derived.Test.YtemlceicmpcboaaGreatDoorMgN
import Derived.Test.YtemlceicmpcboaaGreatDoorMgI
namespace Go.Proofs.YtemlceicmpcboaaGreatDoor.Tr
open Go.RowKit Dk Lx

/-- A node within a tree is a kid of one that is ahead of it. -/
theorem parent {ks : List Int} {i : Nat} : ∀ (f p n : Nat), i - p ≤ f → p < i → endW 1 (ks.drop p) = some n → i < p + n → ∃ (a c m j : Nat), a < i ∧ endW 1 (ks.drop a) = some m ∧ ks[a]? = some (c : Int) ∧ j < c ∧ pos ks (a + 1) j = i
  | 0, p, n, hf, hp, _, _ => by omega
  | f + 1, p, n, hf, hp, h, hi => by
    obtain ⟨k, hk, hk0, hF, hn1⟩ := endW_node h
    obtain ⟨c, rfl⟩ : ∃ c : Nat, k = (c : Int) := ⟨k.toNat, by omega⟩
    rw [Int.toNat_natCast] at hF
    have hend : pos ks (p + 1) c = p + n := by rw [pos_end hF]; omega
    -- the kid in whose tree it lies
    have key : ∀ t, t ≤ c → i < pos ks (p + 1) t → ∃ j, j < t ∧ pos ks (p + 1) j ≤ i ∧ i < pos ks (p + 1) (j + 1) := by
      intro t
      induction t with
      | zero => intro _ h0; have : pos ks (p + 1) 0 = p + 1 := rfl; omega
      | succ t ih =>
        intro ht hlt
        by_cases hle : pos ks (p + 1) t ≤ i
        · exact ⟨t, by omega, hle, hlt⟩
        · obtain ⟨j, h1, h2, h3⟩ := ih (by omega) (by omega)
          exact ⟨j, by omega, h2, h3⟩
    obtain ⟨j, hj, h1, h2⟩ := key c (Nat.le_refl _) (by omega)
    by_cases he : pos ks (p + 1) j = i
    · exact ⟨p, c, n, j, hp, h, hk, hj, he⟩
    · obtain ⟨m, t1, t2, t3, t4⟩ := pos_tree hF hj
      have hge := (pos_at hF j (by omega)).2.2
      exact parent f _ m (by omega) (by omega) t1 (by omega)

theorem cntG_pr (pr : Int → Bool) : ∀ (h : Nat) (l : List Int) (x : Int), x ∈ l.take (cntG pr h l) → pr x = true
  | 0, l, x, hx => by rw [cntG_zero] at hx; simp at hx
  | h + 1, [], x, hx => by simp at hx
  | h + 1, y :: r, x, hx => by
    rw [cntG] at hx
    split at hx
    · rename_i hy
      rw [List.take_succ_cons] at hx
      rcases List.mem_cons.1 hx with rfl | hx
      · exact hy
      · exact cntG_pr pr h r x hx
    · simp at hx

theorem matchG_mem : ∀ (gs : List Gp) (K : List Int), matchG gs K = true → ∀ x ∈ K, ∃ g ∈ gs, g.f.pr x = true
  | [], K, h, x, hx => by
    have h' : decide (K.length = 0) = true := h
    have := of_decide_eq_true h'
    rw [List.eq_nil_of_length_eq_zero this] at hx
    cases hx
  | g :: gs, K, h, x, hx => by
    rw [matchG_cons] at h
    split at h
    · cases h
    · rw [← List.take_append_drop (cntG g.f.pr g.hi.toNat K) K] at hx
      rcases List.mem_append.1 hx with hx | hx
      · exact ⟨g, by simp, cntG_pr _ _ _ _ hx⟩
      · obtain ⟨g', h1, h2⟩ := matchG_mem gs _ h x hx
        exact ⟨g', by simp [h1], h2⟩

theorem pr_range {f : FK} {x : Int} (hf : f = .e ∨ f = .s ∨ ∃ c, f = .k c ∧ 2 ≤ c ∧ c ≤ 5) (h : f.pr x = true) : 2 ≤ x ∧ x ≤ 30 := by
  rcases hf with rfl | rfl | ⟨c, rfl, h1, h2⟩
  · have h' : isExpr x = true := h
    unfold isExpr at h'; simp at h'; omega
  · have h' : isStmt x = true := h
    unfold isStmt at h'; simp at h'; omega
  · have h' : (x == c) = true := h
    have := eq_of_beq h'
    omega

theorem groups_range (k : Int) : ∀ g ∈ groupsL k, g.f = .e ∨ g.f = .s ∨ ∃ c, g.f = .k c ∧ 2 ≤ c ∧ c ≤ 5 := by
  intro g hg
  unfold groupsL at hg
  repeat' split at hg
  all_goals
    simp only [List.mem_cons, List.not_mem_nil, or_false] at hg
  all_goals
    first
    | exact hg.elim
    | (rcases hg with rfl | rfl <;> first | exact .inl rfl | exact .inr (.inl rfl) | exact .inr (.inr ⟨_, rfl, by decide, by decide⟩))
    | (subst hg; first | exact .inl rfl | exact .inr (.inl rfl) | exact .inr (.inr ⟨_, rfl, by decide, by decide⟩))

/-- What Check's yes says. -/
theorem check_ok {ts : List Nd} (h : (checkL ts).1 = 0) : ts.length ≤ 2000 ∧ 0 < ts.length ∧ endW 1 ((kidsOf ts).drop 0) = some ts.length ∧ kindAt ts 0 = 1 ∧ ∀ i, i < ts.length → goodAt ts i = true := by
  unfold checkL at h
  split at h
  · cases h
  · rename_i h1
    split at h
    · cases h
    · rename_i h2
      split at h
      · cases h
      · split at h
        · cases h
        · rename_i h4
          split at h
          · cases h
          · rename_i h5
            have h2' : endI (kidsOf ts) 0 = (ts.length : Int) := Decidable.of_not_not h2
            have hw : ∃ n, endW 1 ((kidsOf ts).drop 0) = some n ∧ 1 ≤ n ∧ n = ts.length := by
              rcases endI_cases (kidsOf ts) 0 with e | ⟨k, n, e0, e1, e2, e3, e4⟩
              · omega
              · obtain rfl : k = 0 := by omega
                exact ⟨n, e1, e2, by omega⟩
            obtain ⟨n, e1, e2, e3⟩ := hw
            exact ⟨by omega, by omega, by rw [e1, e3], Decidable.of_not_not h4, fun i hi => scanG_none _ _ _ h5 i (Nat.zero_le _) (by omega)⟩

theorem whole_all {ks : List Int} (h : endW 1 (ks.drop 0) = some ks.length) : ∀ j, j < ks.length → ∃ n, endW 1 (ks.drop j) = some n := by
  intro j hj
  rw [List.drop_zero] at h
  obtain ⟨d, -, hd, -⟩ := tree_depth h
  cases hq : endW 1 (ks.drop j) with
  | none => exact absurd hq ((depP_some _ _ _ _ hd).2 j hj)
  | some n => exact ⟨n, rfl⟩

theorem right_node {ts : List Nd} (h : (checkL ts).1 = 0) {i : Nat} (hi : i < ts.length) : ∃ n : Nat, endI (kidsOf ts) (i : Int) = (i : Int) + n ∧ (i = 0 → ts[i].kind = 1) ∧ (0 < i → 2 ≤ ts[i].kind ∧ ts[i].kind ≤ 30) := by
  obtain ⟨h1, h2, h3, h4, h5⟩ := check_ok h
  have h3' := h3
  rw [← kidsOf_len] at h3'
  obtain ⟨n, hn⟩ := whole_all h3' i (by rw [kidsOf_len]; exact hi)
  refine ⟨n, endI_some hn, fun h0 => ?_, fun h0 => ?_⟩
  · subst h0
    unfold kindAt at h4
    simpa [hi] using h4
  · obtain ⟨a, c, m, j, ha, hm, hc, hj, hp⟩ := parent (ks := kidsOf ts) (i := i) i 0 ts.length (by omega) h0 h3 (by omega)
    have hal : a < ts.length := by omega
    have hg := h5 a hal
    unfold goodAt at hg
    rw [Bool.and_eq_true] at hg
    have hK : ts[i].kind ∈ kindsL ts (a : Int) := by
      unfold kindsL
      rw [kidsZ_some hm hc, Int.toNat_natCast]
      refine List.mem_map.2 ⟨(i : Int), ?_, ?_⟩
      · unfold posZ
        exact List.mem_map.2 ⟨i, List.mem_map.2 ⟨j, List.mem_range.2 hj, hp⟩, rfl⟩
      · unfold kindAt; simp [hi]
    obtain ⟨g, hg1, hg2⟩ := matchG_mem _ _ hg.2 _ hK
    exact pr_range (groups_range _ g hg1) hg2

/-- A node less, or one more, makes it wrong. -/
theorem check_less {ts : List Nd} (h : (checkL ts).1 = 0) : (checkL (ts.take (ts.length - 1))).1 ≠ 0 := by
  obtain ⟨h1, h2, h3, h4, h5⟩ := check_ok h
  intro h0
  obtain ⟨g1, g2, g3, -, -⟩ := check_ok h0
  rw [List.drop_zero] at h3 g3
  have hl : (ts.take (ts.length - 1)).length = ts.length - 1 := by rw [List.length_take]; omega
  rw [hl] at g3
  have := endW_cut h3 (m := ts.length - 1) (by omega) (by rw [kidsOf_len]; omega)
  have e : kidsOf (ts.take (ts.length - 1)) = (kidsOf ts).take (ts.length - 1) := by unfold kidsOf; rw [List.map_take]
  rw [e, this] at g3
  cases g3
theorem check_more {ts : List Nd} (h : (checkL ts).1 = 0) (x : Nd) : (checkL (ts ++ [x])).1 ≠ 0 := by
  obtain ⟨h1, h2, h3, h4, h5⟩ := check_ok h
  intro h0
  obtain ⟨g1, g2, g3, -, -⟩ := check_ok h0
  rw [List.drop_zero] at h3 g3
  have e : kidsOf (ts ++ [x]) = kidsOf ts ++ kidsOf [x] := by unfold kidsOf; rw [List.map_append]
  have := endW_app _ (kidsOf [x]) _ _ h3
  rw [e, this, List.length_append] at g3
  have := Option.some.inj g3
  simp at this

end Go.Proofs.YtemlceicmpcboaaGreatDoor.Tr
namespace Go.Proofs.YtemlceicmpcboaaGreatDoor.Pa
open Lx Tr

/-! What the machine looks at. -/
def nul : Tk := ⟨0, [], 0, 0⟩
/-- The token at a place, or none. -/
def lk (L : List Tk) (i : Nat) : Tk := (L[i]?).getD nul
/-- Tokens that are alike but for their places. -/
def Alk (t u : Tk) : Prop := t.kind = u.kind ∧ t.text = u.text ∧ t.n = u.n
theorem Alk.refl (t : Tk) : Alk t t := ⟨rfl, rfl, rfl⟩
theorem Alk.symm {t u : Tk} (h : Alk t u) : Alk u t := ⟨h.1.symm, h.2.1.symm, h.2.2.symm⟩
def sgT (t : Tk) : List UInt8 := if t.kind = 5 ∨ t.kind = 4 then t.text else []

theorem kd_lk (L : List Tk) (i : Nat) : kd L i = (lk L i).kind := by
  unfold kd lk; cases L[i]? <;> rfl
theorem sg_lk (L : List Tk) (i : Nat) : sg L i = sgT (lk L i) := by
  unfold sg lk sgT
  cases L[i]? with
  | none => rfl
  | some t => rfl
theorem tx_lk (L : List Tk) (i : Nat) : tx L i = (lk L i).text := by
  unfold tx lk; cases L[i]? <;> rfl
theorem nm_lk (L : List Tk) (i : Nat) : nm L i = (lk L i).n := by
  unfold nm lk; cases L[i]? <;> rfl
theorem kd_of {L L' : List Tk} {i i' : Nat} (h : Alk (lk L i) (lk L' i')) : kd L i = kd L' i' := by rw [kd_lk, kd_lk, h.1]
theorem sg_of {L L' : List Tk} {i i' : Nat} (h : Alk (lk L i) (lk L' i')) : sg L i = sg L' i' := by rw [sg_lk, sg_lk]; unfold sgT; rw [h.1, h.2.1]
theorem tx_of {L L' : List Tk} {i i' : Nat} (h : Alk (lk L i) (lk L' i')) : tx L i = tx L' i' := by rw [tx_lk, tx_lk, h.2.1]
theorem nm_of {L L' : List Tk} {i i' : Nat} (h : Alk (lk L i) (lk L' i')) : nm L i = nm L' i' := by rw [nm_lk, nm_lk, h.2.2]
theorem lk_end {L : List Tk} {i : Nat} (h : L.length ≤ i) : lk L i = nul := by unfold lk; rw [List.getElem?_eq_none h]; rfl
theorem kd_none {L : List Tk} {i : Nat} (h : L.length ≤ i) : kd L i = 0 := by rw [kd_lk, lk_end h]; rfl
theorem sg_none {L : List Tk} {i : Nat} (h : L.length ≤ i) : sg L i = [] := by rw [sg_lk, lk_end h]; rfl

/-- What a step yields, with the tokens that it takes. -/
def out (L : List Tk) (a : Sy) (V : List (List Nd)) (i : Nat) (B : List Sy) (V' : List (List Nd)) (u : Nat) : Prop := one L a V i = some (B, V', i + u)

/-- A step looks at one token, and takes it or not. -/
theorem one_alk {L L' : List Tk} {i i' : Nat} (h : Alk (lk L i) (lk L' i')) (a : Sy) (V : List (List Nd)) :
    (one L a V i = none ∧ one L' a V i' = none) ∨ ∃ B V' u, u ≤ 1 ∧ one L a V i = some (B, V', i + u) ∧ one L' a V i' = some (B, V', i' + u) := by
  have h1 := kd_of h
  have h2 := sg_of h
  have h3 := tx_of h
  have h4 := nm_of h
  have hz : ∀ j, j = j + 0 := fun _ => rfl
  have nee : ∀ (k : Int) (A A' : List Sy), A = A' → (need L k V i A = none ∧ need L' k V i' A' = none) ∨ ∃ B V' u, u ≤ 1 ∧ need L k V i A = some (B, V', i + u) ∧ need L' k V i' A' = some (B, V', i' + u) := by
    rintro k A _ rfl
    unfold need
    rw [h1]
    split
    · exact .inr ⟨_, _, 1, Nat.le_refl _, rfl, rfl⟩
    · exact .inl ⟨rfl, rfl⟩
  cases a with
  | mark s => simp only [one, h2]; split <;> first | exact .inl ⟨rfl, rfl⟩ | exact .inr ⟨_, _, 1, Nat.le_refl _, rfl, rfl⟩
  | e n => simp only [one, h2]; repeat' split
           all_goals first | exact .inr ⟨_, _, 1, Nat.le_refl _, rfl, rfl⟩ | exact .inr ⟨_, _, 0, Nat.zero_le _, rfl, rfl⟩
  | row n => simp only [one, h2]; split <;> first | exact .inr ⟨_, _, 1, Nat.le_refl _, rfl, rfl⟩ | exact .inr ⟨_, _, 0, Nat.zero_le _, rfl, rfl⟩
  | post => simp only [one, h2]; repeat' split
            all_goals first | exact .inr ⟨_, _, 1, Nat.le_refl _, rfl, rfl⟩ | exact .inr ⟨_, _, 0, Nat.zero_le _, rfl, rfl⟩
  | prim =>
    simp only [one, h1, h2, h3, h4]
    repeat' split
    all_goals first
      | exact .inr ⟨_, _, 1, Nat.le_refl _, rfl, rfl⟩
      | (cases primA (sg L' i') with
         | none => exact .inl ⟨rfl, rfl⟩
         | some A => exact .inr ⟨_, _, 1, Nat.le_refl _, rfl, rfl⟩)
  | lF p x m => simp only [one, h2]; split <;> first | exact .inr ⟨_, _, 1, Nat.le_refl _, rfl, rfl⟩ | exact .inr ⟨_, _, 0, Nat.zero_le _, rfl, rfl⟩
  | lN p x m => simp only [one, h2]; repeat' split
                all_goals first | exact .inl ⟨rfl, rfl⟩ | exact .inr ⟨_, _, 1, Nat.le_refl _, rfl, rfl⟩
  | lC p x m => exact .inr ⟨_, _, 0, Nat.zero_le _, rfl, rfl⟩
  | par => exact nee _ _ _ (by rw [h3])
  | outer a => simp only [one, h2]; split <;> first | exact .inr ⟨_, _, 1, Nat.le_refl _, rfl, rfl⟩ | exact .inr ⟨_, _, 0, Nat.zero_le _, rfl, rfl⟩
  | outN a => exact nee _ _ _ (by rw [h3])
  | fn x => exact .inr ⟨_, _, 0, Nat.zero_le _, rfl, rfl⟩
  | blk => exact .inr ⟨_, _, 0, Nat.zero_le _, rfl, rfl⟩
  | sts m => simp only [one, h2]; split <;> first | exact .inr ⟨_, _, 1, Nat.le_refl _, rfl, rfl⟩ | exact .inr ⟨_, _, 0, Nat.zero_le _, rfl, rfl⟩
  | stmt =>
    simp only [one, h2]
    cases stmtA (sg L' i') with
    | none => exact .inr ⟨_, _, 0, Nat.zero_le _, rfl, rfl⟩
    | some A => exact .inr ⟨_, _, 1, Nat.le_refl _, rfl, rfl⟩
  | letN => exact nee _ _ _ (by rw [h3])
  | els => simp only [one, h2]; split <;> first | exact .inr ⟨_, _, 1, Nat.le_refl _, rfl, rfl⟩ | exact .inr ⟨_, _, 0, Nat.zero_le _, rfl, rfl⟩
  | asg =>
    simp only [one, h2]
    split
    · match V with
      | [] => exact .inl ⟨rfl, rfl⟩
      | [] :: V' => exact .inl ⟨rfl, rfl⟩
      | (x :: b) :: V' =>
        simp only
        repeat' split
        all_goals first | exact .inl ⟨rfl, rfl⟩ | exact .inr ⟨_, _, 1, Nat.le_refl _, rfl, rfl⟩
    · exact .inr ⟨_, _, 0, Nat.zero_le _, rfl, rfl⟩
  | mk x m => simp only [one]; split <;> first | exact .inl ⟨rfl, rfl⟩ | exact .inr ⟨_, _, 0, Nat.zero_le _, rfl, rfl⟩
  | mod => exact .inr ⟨_, _, 0, Nat.zero_le _, rfl, rfl⟩
  | modN => exact nee _ _ _ (by rw [h3])
  | modI a => exact nee _ _ _ (by rw [h4])
  | uses x m => simp only [one, h2]; split <;> first | exact .inr ⟨_, _, 1, Nat.le_refl _, rfl, rfl⟩ | exact .inr ⟨_, _, 0, Nat.zero_le _, rfl, rfl⟩
  | useN => exact nee _ _ _ (by rw [h3])
  | useM a => exact nee _ _ _ (by rw [h3])
  | useI a b => exact nee _ _ _ (by rw [h4])
  | funs x m => simp only [one, h2]; split <;> first | exact .inr ⟨_, _, 1, Nat.le_refl _, rfl, rfl⟩ | exact .inr ⟨_, _, 0, Nat.zero_le _, rfl, rfl⟩
  | funN => exact nee _ _ _ (by rw [h3])

theorem one_adv {L : List Tk} {a : Sy} {V V' : List (List Nd)} {B : List Sy} {i j : Nat} (h : one L a V i = some (B, V', j)) : i ≤ j ∧ j ≤ i + 1 := by
  rcases one_alk (Alk.refl (lk L i)) a V with ⟨h1, -⟩ | ⟨B1, V1, u, hu, h1, -⟩
  · rw [h] at h1; cases h1
  · rw [h] at h1; cases h1; omega
/-- The same token elsewhere: the same step. -/
theorem one_move {L L' : List Tk} {a : Sy} {V V' : List (List Nd)} {B : List Sy} {i j d : Nat} (h : one L a V i = some (B, V', j)) (hk : Alk (lk L i) (lk L' (i + d))) : one L' a V (i + d) = some (B, V', j + d) := by
  rcases one_alk hk a V with ⟨h1, -⟩ | ⟨B1, V1, u, hu, h1, h2⟩
  · rw [h] at h1; cases h1
  · rw [h] at h1; cases h1
    rw [h2, show i + d + u = i + u + d by omega]
theorem one_move_none {L L' : List Tk} {a : Sy} {V : List (List Nd)} {i d : Nat} (h : one L a V i = none) (hk : Alk (lk L i) (lk L' (i + d))) : one L' a V (i + d) = none := by
  rcases one_alk hk a V with ⟨-, h2⟩ | ⟨B1, V1, u, hu, h1, h2⟩
  · exact h2
  · rw [h] at h1; cases h1

/-- Steps from a front to another one, at places below q. -/
inductive Seg (L : List Tk) (q : Nat) : List Sy → List (List Nd) → Nat → List Sy → List (List Nd) → Nat → Prop where
  | here (A V i) : Seg L q A V i A V i
  | more {a A V i B V' j A2 V2 k} : i < q → one L a V i = some (B, V', j) → Seg L q (B ++ A) V' j A2 V2 k → Seg L q (a :: A) V i A2 V2 k

variable {L L' : List Tk} {q q' : Nat} {A A' A1 A2 : List Sy} {V V' V1 V2 : List (List Nd)} {i j k : Nat}

theorem Seg.one {a : Sy} {B : List Sy} (hq : i < q) (h : one L a V i = some (B, V', j)) : Seg L q (a :: A) V i (B ++ A) V' j := .more hq h (.here _ _ _)
theorem Seg.trans (h : Seg L q A V i A1 V1 j) (h2 : Seg L q A1 V1 j A2 V2 k) : Seg L q A V i A2 V2 k := by
  induction h with
  | here => exact h2
  | more hq ho _ ih => exact .more hq ho (ih h2)
theorem Seg.wide (h : Seg L q A V i A1 V1 j) (hq : q ≤ q') : Seg L q' A V i A1 V1 j := by
  induction h with
  | here => exact .here _ _ _
  | more h1 ho _ ih => exact .more (by omega) ho ih
theorem Seg.le (h : Seg L q A V i A1 V1 j) : i ≤ j := by
  induction h with
  | here => exact Nat.le_refl _
  | more h1 ho _ ih => have := one_adv ho; omega
/-- Only places up to the last one are looked at. -/
theorem Seg.narrow (h : Seg L q A V i A1 V1 j) : Seg L (j + 1) A V i A1 V1 j := by
  induction h with
  | here => exact .here _ _ _
  | more h1 ho h2 ih => have := one_adv ho; have := h2.le; exact .more (by omega) ho ih
theorem Seg.over (h : Seg L q A V i A1 V1 j) (K : List Sy) : Seg L q (A ++ K) V i (A1 ++ K) V1 j := by
  induction h with
  | here => exact .here _ _ _
  | more h1 ho h2 ih => exact .more h1 ho (by rw [List.append_assoc] at ih; exact ih)
theorem Seg.to (h : Seg L q A V i A1 V1 j) : To L (.run A V i) (.run A1 V1 j) := by
  induction h with
  | here => exact To.refl _
  | more h1 ho h2 ih => exact (to_some ho).trans ih
/-- Alike tokens elsewhere. -/
theorem Seg.move {d : Nat} (h : Seg L q A V i A1 V1 j) (hk : ∀ m, i ≤ m → m < q → m ≤ j → Alk (lk L m) (lk L' (m + d))) : Seg L' (q + d) A V (i + d) A1 V1 (j + d) := by
  induction h with
  | here => exact .here _ _ _
  | more h1 ho h2 ih =>
    have := one_adv ho
    have := h2.le
    exact .more (by omega) (one_move ho (hk _ (Nat.le_refl _) h1 (by omega))) (ih (fun m h1 h2 h3 => hk m (by omega) h2 h3))

/-- To the end. -/
theorem seg_of_fin : ∀ (n : Nat) {A : List Sy} {V W : List (List Nd)} {i : Nat}, iter L n (.run A V i) = .fin W → Seg L (L.length + 1) A V i [] W L.length
  | 0, A, V, W, i, h => by cases h
  | n + 1, [], V, W, i, h => by
    by_cases hi : i = L.length
    · have h' : iter L n (if i = L.length then .fin V else .bad i) = .fin W := h
      rw [if_pos hi, iter_stop rfl] at h'
      cases h'
      rw [hi]; exact .here _ _ _
    · have h' : iter L n (if i = L.length then .fin V else .bad i) = .fin W := h
      rw [if_neg hi, iter_stop rfl] at h'
      cases h'
  | n + 1, a :: A, V, W, i, h => by
    have h' : iter L n (match Pa.one L a V i with | some (B, V', j) => .run (B ++ A) V' j | none => .bad i) = .fin W := h
    cases ho : Pa.one L a V i with
    | none => rw [ho] at h'; simp only at h'; rw [iter_stop rfl] at h'; cases h'
    | some x =>
      obtain ⟨B, V', j⟩ := x
      rw [ho] at h'
      have ih := seg_of_fin n h'
      have := one_adv ho
      have := ih.le
      exact .more (by omega) ho ih
theorem To.seg {W : List (List Nd)} (h : To L (.run A V i) (.fin W)) : Seg L (L.length + 1) A V i [] W L.length := by
  obtain ⟨n, h⟩ := h
  exact seg_of_fin n h
theorem Seg.fin {W : List (List Nd)} (h : Seg L q A V i [] W L.length) : To L (.run A V i) (.fin W) := h.to.trans (To.head ⟨0, by show Pa.step L _ = _; show (if L.length = L.length then Cfg.fin W else _) = _; rw [if_pos rfl]⟩)

/-- What is read first, and then the rest. -/
theorem Seg.part {W : List (List Nd)} : ∀ {A K : List Sy}, Seg L q (A ++ K) V i [] W k → ∃ V1 j, Seg L q A V i [] V1 j ∧ Seg L q K V1 j [] W k := by
  intro A K h
  generalize hX : A ++ K = X at h
  generalize hY : ([] : List Sy) = Y at h
  induction h generalizing A K with
  | here A0 V0 i0 =>
    subst hY
    obtain ⟨rfl, rfl⟩ := List.append_eq_nil_iff.1 hX
    exact ⟨_, _, .here _ _ _, .here _ _ _⟩
  | @more a A0 V0 i0 B V' j A2 V2 k h1 ho h2 ih =>
    match A with
    | [] => rw [List.nil_append] at hX; subst hX; subst hY; exact ⟨_, _, .here _ _ _, .more h1 ho h2⟩
    | b :: A =>
      rw [List.cons_append] at hX
      cases hX
      obtain ⟨V1, j1, h3, h4⟩ := ih (A := B ++ A) (K := K) (by rw [List.append_assoc]) hY
      exact ⟨V1, j1, .more h1 ho h3, h4⟩

/-- Where it first comes to a place. -/
theorem Seg.cut {p : Nat} (h : Seg L q A V i A2 V2 k) (h1 : i ≤ p) (h2 : p ≤ k) : ∃ A1 V1, Seg L p A V i A1 V1 p ∧ Seg L q A1 V1 p A2 V2 k := by
  induction h with
  | here A V i => have : i = p := by omega
                  subst this; exact ⟨_, _, .here _ _ _, .here _ _ _⟩
  | @more a A V i B V' j A2 V2 k hq ho hs ih =>
    by_cases hp : i = p
    · subst hp; exact ⟨_, _, .here _ _ _, .more hq ho hs⟩
    · have := one_adv ho
      obtain ⟨A1, V1, h3, h4⟩ := ih (by omega) h2
      exact ⟨A1, V1, .more (by omega) ho h3, h4⟩
/-- One way alone. -/
theorem Seg.same (h : Seg L q A V i [] V1 j) (h2 : Seg L q' A V i [] V2 k) : V1 = V2 ∧ j = k := by
  generalize hY : ([] : List Sy) = Y at h
  induction h with
  | here => subst hY; cases h2; exact ⟨rfl, rfl⟩
  | more hq ho _ ih =>
    cases h2 with
    | more hq2 ho2 hs2 =>
      rw [ho] at ho2; cases ho2
      exact ih hs2 hY

/-! How many tokens at least. -/
def mt : Sy → Nat
  | .row _ => 0
  | .post => 0
  | .lC p _ _ => if p then 1 else 0
  | .outer _ => 0
  | .els => 0
  | .mk _ _ => 0
  | .uses _ _ => 0
  | .funs _ _ => 0
  | _ => 1
def mtS : List Sy → Nat
  | [] => 0
  | a :: A => mt a + mtS A
theorem mtS_app (A B : List Sy) : mtS (A ++ B) = mtS A + mtS B := by
  induction A with
  | nil => simp [mtS]
  | cons a A ih => rw [List.cons_append, mtS, mtS, ih]; omega

theorem one_mt {a : Sy} {B : List Sy} (h : one L a V i = some (B, V', j)) : i + mt a ≤ j + mtS B := by
  have hadv := one_adv h
  by_cases hj : j = i + 1
  · have : mt a ≤ 1 := by
      cases a <;> simp [mt]
      split <;> decide
    omega
  have hj' : j = i := by omega
  subst hj'
  clear hadv hj
  have n1 : ∀ (x : Nat), ¬ x + 1 = x := fun x => by omega
  have nee : ∀ (k : Int) (A : List Sy), need L k V j A = some (B, V', j) → False := by
    intro k A h
    have := (need_some h).2.2
    omega
  cases a with
  | mark s => simp only [one] at h; split at h <;> simp at h
  | e n =>
    simp only [one] at h
    repeat' split at h
    all_goals (simp at h; try (obtain ⟨rfl, -⟩ := h; simp [mt, mtS]))
  | row n => simp [mt]
  | post => simp [mt]
  | prim =>
    simp only [one] at h
    repeat' split at h
    all_goals first
      | (simp at h; done)
      | (cases hp : primA (sg L j) with
         | none => rw [hp] at h; cases h
         | some A => rw [hp] at h; simp at h)
  | lF p x m =>
    simp only [one] at h
    split at h
    · simp at h
    · simp at h; obtain ⟨rfl, -⟩ := h; cases p <;> simp [mt, mtS]
  | lN p x m =>
    simp only [one] at h
    repeat' split at h
    all_goals simp at h
  | lC p x m =>
    simp only [one] at h
    cases p
    · simp [mt]
    · simp at h; obtain ⟨rfl, -⟩ := h; simp [mt, mtS]
  | par => exact (nee _ _ h).elim
  | outer a => simp [mt]
  | outN a => exact (nee _ _ h).elim
  | fn x => simp [one] at h; obtain ⟨rfl, -⟩ := h; simp [mt, mtS]
  | blk => simp [one] at h; obtain ⟨rfl, -⟩ := h; simp [mt, mtS]
  | sts m =>
    simp only [one] at h
    split at h
    · simp at h
    · simp at h; obtain ⟨rfl, -⟩ := h; simp [mt, mtS]
  | stmt =>
    simp only [one] at h
    split at h
    · simp at h
    · simp at h; obtain ⟨rfl, -⟩ := h; simp [mt, mtS]
  | letN => exact (nee _ _ h).elim
  | els => simp [mt]
  | asg =>
    simp only [one] at h
    split at h
    · match V, h with
      | [], h => cases h
      | [] :: V', h => cases h
      | (x :: b) :: V', h =>
        simp only at h
        repeat' split at h
        all_goals simp at h
    · simp at h; obtain ⟨rfl, -⟩ := h; simp [mt, mtS]
  | mk x m => simp [mt]
  | mod => simp [one] at h; obtain ⟨rfl, -⟩ := h; simp [mt, mtS]
  | modN => exact (nee _ _ h).elim
  | modI a => exact (nee _ _ h).elim
  | uses x m => simp [mt]
  | useN => exact (nee _ _ h).elim
  | useM a => exact (nee _ _ h).elim
  | useI a b => exact (nee _ _ h).elim
  | funs x m => simp [mt]
  | funN => exact (nee _ _ h).elim

theorem Seg.min (h : Seg L q A V i A1 V1 j) : i + mtS A ≤ j + mtS A1 := by
  induction h with
  | here => exact Nat.le_refl _
  | more h1 ho _ ih =>
    have := one_mt ho
    rw [mtS_app] at ih
    rw [mtS]
    omega

/-- Within a function or an expression. -/
def inner : Sy → Bool
  | .uses _ _ => false
  | .funs _ _ => false
  | .mod => false
  | .modN => false
  | .modI _ => false
  | _ => true
/-- A token with which nothing goes on that could end. -/
structure Stops (L : List Tk) (i : Nat) : Prop where
  row : ∀ n, sg L i ∉ level n
  par : sg L i ≠ [40]
  sq : sg L i ≠ [91]
  dot : sg L i ≠ [46]
  els : sg L i ≠ [101, 108, 115, 101]

theorem need_inner {k : Int} {A B : List Sy} (h : need L k V i A = some (B, V', j)) (hA : ∀ a ∈ A, inner a = true) : ∀ b ∈ B, inner b = true := by
  obtain ⟨rfl, -, -⟩ := need_some h
  exact hA
theorem stmtA_inner {s : List UInt8} (h : stmtA s = some A) : ∀ b ∈ A, inner b = true := by
  unfold stmtA at h
  repeat' split at h
  all_goals (cases h; try decide)
theorem primA_inner {s : List UInt8} (h : primA s = some A) : ∀ b ∈ A, inner b = true := by
  unfold primA at h
  repeat' split at h
  all_goals (cases h; try decide)
theorem one_inner {a : Sy} {B : List Sy} (h : one L a V i = some (B, V', j)) (ha : inner a = true) : ∀ b ∈ B, inner b = true := by
  cases a with
  | mark s => simp only [one] at h; split at h <;> cases h; simp
  | e n => simp only [one] at h; repeat' split at h
           all_goals (cases h; simp [inner])
  | row n =>
    simp only [one] at h
    split at h
    · cases h; intro b hb; simp only [List.mem_cons] at hb
      rcases hb with rfl | rfl | hb
      · rfl
      · rfl
      · split at hb
        · cases hb
        · rw [List.mem_singleton.1 hb]; rfl
    · cases h; simp
  | post => simp only [one] at h; repeat' split at h
            all_goals (cases h; simp [inner])
  | prim =>
    simp only [one] at h
    repeat' split at h
    all_goals first
      | (cases h; simp [inner]; done)
      | (cases hp : primA (sg L i) with
         | none => rw [hp] at h; cases h
         | some A => rw [hp] at h; cases h; exact primA_inner hp)
  | lF p x m => simp only [one] at h; split at h <;> cases h <;> cases p <;> simp [inner]
  | lN p x m => simp only [one] at h; repeat' split at h
                all_goals (cases h; try (cases p <;> simp [inner]))
  | lC p x m => simp only [one] at h; cases h; cases p <;> simp [inner]
  | par => exact need_inner h (by simp [inner])
  | outer a => simp only [one] at h; split at h <;> cases h <;> simp [inner]
  | outN a => exact need_inner h (by simp [inner])
  | fn x => cases h; simp [inner]
  | blk => cases h; simp [inner]
  | sts m => simp only [one] at h; split at h <;> cases h <;> simp [inner]
  | stmt =>
    simp only [one] at h
    split at h
    · rename_i hs; cases h; exact stmtA_inner hs
    · cases h; simp [inner]
  | letN => exact need_inner h (by simp [inner])
  | els => simp only [one] at h; split at h <;> cases h <;> simp [inner]
  | asg =>
    simp only [one] at h
    split at h
    · match V, h with
      | [], h => cases h
      | [] :: V', h => cases h
      | (x :: b) :: V', h =>
        simp only at h
        repeat' split at h
        all_goals (cases h; try simp [inner])
    · cases h; simp [inner]
  | mk x m => simp only [one] at h; split at h <;> cases h; simp
  | mod => cases ha
  | modN => cases ha
  | modI a => cases ha
  | uses x m => cases ha
  | useN => exact need_inner h (by simp [inner])
  | useM a => exact need_inner h (by simp [inner])
  | useI a b => exact need_inner h (by simp [inner])
  | funs x m => cases ha
  | funN => exact need_inner h (by simp [inner])

theorem one_stop {a : Sy} {B : List Sy} {i' : Nat} (h : one L a V i = some (B, V', i)) (ha : inner a = true) (hm : mt a = 0) (hs : Stops L' i') : one L' a V i' = some (B, V', i') := by
  cases a with
  | row n =>
    simp only [one] at h ⊢
    rw [if_neg (hs.row n)]
    split at h
    · simp at h
    · simp at h; obtain ⟨rfl, rfl⟩ := h; rfl
  | post =>
    simp only [one] at h ⊢
    rw [if_neg hs.par, if_neg hs.sq]
    repeat' split at h
    all_goals (simp at h; try (obtain ⟨rfl, rfl⟩ := h; rfl))
  | lC p x m =>
    simp only [one] at h ⊢
    cases p
    · simp at h ⊢; exact h
    · simp [mt] at hm
  | outer a =>
    simp only [one] at h ⊢
    rw [if_neg hs.dot]
    split at h
    · simp at h
    · simp at h; obtain ⟨rfl, rfl⟩ := h; rfl
  | els =>
    simp only [one] at h ⊢
    rw [if_neg hs.els]
    split at h
    · simp at h
    · simp at h; obtain ⟨rfl, rfl⟩ := h; rfl
  | mk x m =>
    simp only [one] at h ⊢
    split at h
    · rename_i hm
      rw [if_pos hm]
      simp at h; obtain ⟨rfl, rfl⟩ := h; rfl
    · cases h
  | uses x m => cases ha
  | funs x m => cases ha
  | _ => simp [mt] at hm

theorem Seg.stop_aux {i' : Nat} (h : Seg L q A V i A2 V1 k) : A2 = [] → k = i → (∀ a ∈ A, inner a = true) → Stops L' i' → Seg L' (i' + 1) A V i' [] V1 i' := by
  induction h with
  | here A V i => rintro rfl - - -; exact .here _ _ _
  | @more a A V i B V' j A2 V2 k hq ho hs ih =>
    rintro rfl rfl hin hst
    have h1 := one_adv ho
    have h2 := hs.le
    obtain rfl : j = k := by omega
    have h3 := (Seg.more hq ho hs).min
    have h4 : mtS (a :: A) = mt a + mtS A := rfl
    rw [show mtS [] = 0 from rfl, h4] at h3
    have hia := hin a (List.mem_cons_self ..)
    exact .more (by omega) (one_stop ho hia (by omega) hst) (ih rfl rfl (fun b hb => (List.mem_append.1 hb).elim (one_inner ho hia b) (fun hb => hin b (List.mem_cons_of_mem _ hb))) hst)
/-- What ends ahead of a token ends so ahead of any other one with which nothing goes on. -/
theorem Seg.stop {i' : Nat} (h : Seg L q A V i [] V1 i) (hi : ∀ a ∈ A, inner a = true) (hs : Stops L' i') : Seg L' (i' + 1) A V i' [] V1 i' := h.stop_aux rfl rfl hi hs
theorem stops_of {s : List UInt8} (h : sg L i = s) (hs : s = [] ∨ s = [41] ∨ s = [59] ∨ s = [102, 110]) : Stops L i := by
  subst h
  refine ⟨fun n hn => ?_, ?_, ?_, ?_, ?_⟩
  · rcases hs with h | h | h | h <;> rw [h] at hn <;> (unfold level at hn; split at hn <;> simp at hn)
  all_goals (rcases hs with h | h | h | h <;> rw [h] <;> decide)

end Go.Proofs.YtemlceicmpcboaaGreatDoor.Pa
namespace Go.Proofs.YtemlceicmpcboaaGreatDoor.Pa
open Lx Tr

/-- How many trees it takes, and how many it gives. -/
def req : Sy → Nat
  | .row _ => 1
  | .post => 1
  | .lF _ _ m => m
  | .lN _ _ m => m
  | .lC _ _ m => m
  | .sts m => m
  | .els => 2
  | .asg => 1
  | .mk _ m => m
  | .uses _ m => m
  | .funs _ m => m
  | _ => 0
def giv : Sy → Nat
  | .mark _ => 0
  | _ => 1
/-- Over so many trees a front has what it takes, and gives so many. -/
def okN : List Sy → Nat → Nat → Prop
  | [], k, n => k = n
  | a :: A, k, n => req a ≤ k ∧ okN A (k - req a + giv a) n
theorem okN_app : ∀ {A B : List Sy} {k m n : Nat}, okN A k m → okN B m n → okN (A ++ B) k n
  | [], B, k, m, n, h, h2 => by cases (show k = m from h); exact h2
  | a :: A, B, k, m, n, h, h2 => ⟨h.1, okN_app h.2 h2⟩

variable {L L' : List Tk} {q q' : Nat} {A A' A1 A2 : List Sy} {V V' V1 V2 : List (List Nd)} {i j k : Nat}

theorem stmtA_ok {s : List UInt8} (h : stmtA s = some A) : okN A 0 1 := by
  unfold stmtA at h
  repeat' split at h
  all_goals (cases h; try (simp [okN, req, giv]))
theorem primA_ok {s : List UInt8} (h : primA s = some A) : okN A 0 1 := by
  unfold primA at h
  repeat' split at h
  all_goals (cases h; try (simp [okN, req, giv]))
theorem okN_more : ∀ {A : List Sy} {k n : Nat} (d : Nat), okN A k n → okN A (k + d) (n + d)
  | [], k, n, d, h => by show k + d = n + d; rw [show k = n from h]
  | a :: A, k, n, d, h => ⟨by have := h.1; omega, by have := okN_more d h.2; rw [show k + d - req a + giv a = k - req a + giv a + d by have := h.1; omega]; exact this⟩

/-- One step: the trees below are left alone. -/
theorem one_disc {a : Sy} {B : List Sy} {W V0 : List (List Nd)} (h : one L a (W ++ V0) i = some (B, V', j)) (hr : req a ≤ W.length) :
    ∃ W', V' = W' ++ V0 ∧ (∀ V0' : List (List Nd), one L a (W ++ V0') i = some (B, W' ++ V0', j)) ∧ okN B W'.length (W.length - req a + giv a) := by
  have up : ∀ {A : List Sy} (d : Nat), okN A 0 1 → okN A d (d + 1) := fun {A} d h => by have := okN_more d h; rwa [Nat.zero_add, Nat.add_comm 1 d] at this
  have nee : ∀ (k : Int) (A : List Sy), okN A 0 1 → need L k (W ++ V0) i A = some (B, V', j) → ∃ W', V' = W' ++ V0 ∧ (∀ V0' : List (List Nd), need L k (W ++ V0') i A = some (B, W' ++ V0', j)) ∧ okN B W'.length (W.length + 1) := by
    intro k A hA h
    unfold need at h ⊢
    split at h
    · rename_i hk
      cases h
      refine ⟨W, rfl, fun V0' => by rw [if_pos hk], up _ hA⟩
    · cases h
  cases a with
  | mark s =>
    simp only [one] at h ⊢
    split at h
    · rename_i hs; cases h; exact ⟨W, rfl, fun _ => by rw [if_pos hs], by show W.length = _; simp [req, giv]⟩
    · cases h
  | e n =>
    simp only [one] at h ⊢
    repeat' split at h
    all_goals (cases h; refine ⟨W, rfl, fun _ => by first | rw [if_pos (by assumption)] | rw [if_neg (by assumption), if_pos (by assumption)] | rw [if_neg (by assumption), if_neg (by assumption), if_pos (by assumption)] | rw [if_neg (by assumption), if_neg (by assumption), if_neg (by assumption)] | rw [if_neg (by assumption), if_neg (by assumption)], ?_⟩; simp [okN, req, giv])
  | row n =>
    simp only [one] at h ⊢
    have hr' : 1 ≤ W.length := hr
    split at h
    · rename_i hs; cases h; refine ⟨W, rfl, fun _ => by rw [if_pos hs], ?_⟩
      by_cases hn : n = 2
      · simp [okN, req, giv, hn]; omega
      · simp [okN, req, giv, hn]; omega
    · rename_i hs; cases h; refine ⟨W, rfl, fun _ => by rw [if_neg hs], ?_⟩
      simp [okN, req, giv]; omega
  | post =>
    simp only [one] at h ⊢
    have hr' : 1 ≤ W.length := hr
    repeat' split at h
    all_goals (cases h; refine ⟨W, rfl, fun _ => by first | rw [if_pos (by assumption)] | rw [if_neg (by assumption), if_pos (by assumption)] | rw [if_neg (by assumption), if_neg (by assumption), if_pos (by assumption)] | rw [if_neg (by assumption), if_neg (by assumption), if_neg (by assumption)] | rw [if_neg (by assumption), if_neg (by assumption)], ?_⟩; simp [okN, req, giv]; omega)
  | prim =>
    simp only [one] at h ⊢
    repeat' split at h
    all_goals first
      | (cases h; refine ⟨W, rfl, fun _ => by first | rw [if_pos (by assumption)] | rw [if_neg (by assumption), if_pos (by assumption)] | rw [if_neg (by assumption), if_neg (by assumption), if_pos (by assumption)] | rw [if_neg (by assumption), if_neg (by assumption), if_neg (by assumption)] | rw [if_neg (by assumption), if_neg (by assumption)], ?_⟩; simp [okN, req, giv]; done)
      | (cases hp : primA (sg L i) with
         | none => rw [hp] at h; cases h
         | some A =>
           rw [hp] at h; cases h
           refine ⟨W, rfl, fun _ => by rw [if_neg (by assumption), if_neg (by assumption), if_neg (by assumption)]; rfl, up _ (primA_ok hp)⟩)
  | lF p x m =>
    simp only [one] at h ⊢
    have hr' : m ≤ W.length := hr
    split at h
    · rename_i hs; cases h; refine ⟨W, rfl, fun _ => by rw [if_pos hs], ?_⟩
      simp [okN, req, giv]; omega
    · rename_i hs; cases h; refine ⟨W, rfl, fun _ => by rw [if_neg hs], ?_⟩
      cases p <;> simp [okN, req, giv] <;> omega
  | lN p x m =>
    simp only [one] at h ⊢
    have hr' : m ≤ W.length := hr
    split at h
    · rename_i hs; cases h; refine ⟨W, rfl, fun _ => by rw [if_pos hs], ?_⟩
      cases p <;> simp [okN, req, giv] <;> omega
    · rename_i hs
      split at h
      · rename_i hs2; cases h; refine ⟨W, rfl, fun _ => by rw [if_neg hs, if_pos hs2], ?_⟩
        simp [okN, req, giv]; omega
      · cases h
  | lC p x m =>
    simp only [one] at h ⊢
    have hr' : m ≤ W.length := hr
    cases h
    refine ⟨W, rfl, fun _ => rfl, ?_⟩
    cases p <;> simp [okN, req, giv] <;> omega
  | par => exact nee _ _ (by simp [okN, req, giv]) h
  | outer a =>
    simp only [one] at h ⊢
    split at h
    · rename_i hs; cases h; exact ⟨W, rfl, fun _ => by rw [if_pos hs], by simp [okN, req, giv]⟩
    · rename_i hs; cases h; exact ⟨W, rfl, fun _ => by rw [if_neg hs], by simp [okN, req, giv]⟩
  | outN a => exact nee _ _ (by simp [okN, req, giv]) h
  | fn x => cases h; exact ⟨W, rfl, fun _ => rfl, by simp [okN, req, giv]⟩
  | blk => cases h; exact ⟨W, rfl, fun _ => rfl, by simp [okN, req, giv]⟩
  | sts m =>
    simp only [one] at h ⊢
    have hr' : m ≤ W.length := hr
    split at h
    · rename_i hs; cases h; exact ⟨W, rfl, fun _ => by rw [if_pos hs], by simp [okN, req, giv]; omega⟩
    · rename_i hs; cases h; exact ⟨W, rfl, fun _ => by rw [if_neg hs], by simp [okN, req, giv]; omega⟩
  | stmt =>
    simp only [one] at h ⊢
    split at h
    · rename_i hs; cases h; exact ⟨W, rfl, fun _ => by simp only [], up _ (stmtA_ok hs)⟩
    · rename_i hs; cases h; exact ⟨W, rfl, fun _ => by simp only [], by simp [okN, req, giv]⟩
  | letN => exact nee _ _ (by simp [okN, req, giv]) h
  | els =>
    simp only [one] at h ⊢
    have hr' : 2 ≤ W.length := hr
    split at h
    · rename_i hs; cases h; exact ⟨W, rfl, fun _ => by rw [if_pos hs], by simp [okN, req, giv]; omega⟩
    · rename_i hs; cases h; exact ⟨W, rfl, fun _ => by rw [if_neg hs], by simp [okN, req, giv]; omega⟩
  | asg =>
    simp only [one] at h ⊢
    have hr' : 1 ≤ W.length := hr
    match W, hr' with
    | t :: W, _ =>
      split at h
      · rename_i hs
        match t with
        | [] => cases h
        | x :: b =>
          simp only [List.cons_append] at h ⊢
          split at h
          · rename_i h1; cases h; exact ⟨W, rfl, fun _ => by rw [if_pos hs, if_pos h1], by simp [okN, req, giv]⟩
          · rename_i h1
            split at h
            · rename_i h2; cases h; exact ⟨b.drop (firstZ b) :: b.take (firstZ b) :: W, rfl, fun _ => by rw [if_pos hs, if_neg h1, if_pos h2]; rfl, by simp [okN, req, giv]⟩
            · cases h
      · rename_i hs; cases h; exact ⟨t :: W, rfl, fun _ => by rw [if_neg hs], by simp [okN, req, giv]⟩
  | mk x m =>
    simp only [one] at h ⊢
    have hr' : m ≤ W.length := hr
    rw [if_pos (by rw [List.length_append]; omega)] at h
    cases h
    refine ⟨join x (W.take m).reverse :: W.drop m, ?_, fun V0' => ?_, ?_⟩
    · rw [List.take_append_of_le_length hr', List.drop_append_of_le_length hr']; rfl
    · rw [if_pos (by rw [List.length_append]; omega), List.take_append_of_le_length hr', List.drop_append_of_le_length hr']; rfl
    · simp [okN, req, giv]
  | mod => cases h; exact ⟨W, rfl, fun _ => rfl, by simp [okN, req, giv]⟩
  | modN => exact nee _ _ (by simp [okN, req, giv]) h
  | modI a => exact nee _ _ (by simp [okN, req, giv]) h
  | uses x m =>
    simp only [one] at h ⊢
    have hr' : m ≤ W.length := hr
    split at h
    · rename_i hs; cases h; exact ⟨W, rfl, fun _ => by rw [if_pos hs], by simp [okN, req, giv]; omega⟩
    · rename_i hs; cases h; exact ⟨W, rfl, fun _ => by rw [if_neg hs], by simp [okN, req, giv]; omega⟩
  | useN => exact nee _ _ (by simp [okN, req, giv]) h
  | useM a => exact nee _ _ (by simp [okN, req, giv]) h
  | useI a b => exact nee _ _ (by simp [okN, req, giv]) h
  | funs x m =>
    simp only [one] at h ⊢
    have hr' : m ≤ W.length := hr
    split at h
    · rename_i hs; cases h; exact ⟨W, rfl, fun _ => by rw [if_pos hs], by simp [okN, req, giv]; omega⟩
    · rename_i hs; cases h; exact ⟨W, rfl, fun _ => by rw [if_neg hs], by simp [okN, req, giv]; omega⟩
  | funN => exact nee _ _ (by simp [okN, req, giv]) h

/-- What lies below is left alone, and may be anything. -/
theorem Seg.disc {n : Nat} {W V0 : List (List Nd)} (h : Seg L q A (W ++ V0) i A1 V1 j) (hk : okN A W.length n) :
    ∃ W', V1 = W' ++ V0 ∧ okN A1 W'.length n ∧ ∀ V0' : List (List Nd), Seg L q A (W ++ V0') i A1 (W' ++ V0') j := by
  generalize hX : W ++ V0 = X at h
  induction h generalizing W with
  | here A V i => subst hX; exact ⟨W, rfl, hk, fun _ => .here _ _ _⟩
  | @more a A V i B V' j A2 V2 k hq ho hs ih =>
    subst hX
    obtain ⟨W1, rfl, h1, h2⟩ := one_disc ho hk.1
    obtain ⟨W', h3, h4, h5⟩ := ih (W := W1) (okN_app h2 hk.2) rfl
    exact ⟨W', h3, h4, fun V0' => .more hq (h1 V0') (h5 V0')⟩
/-- One tree comes of it. -/
theorem Seg.one_tree {a : Sy} {V0 : List (List Nd)} (h : Seg L q [a] V0 i [] V1 j) (ha : req a = 0) (hg : giv a = 1) : ∃ T, V1 = T :: V0 ∧ ∀ V0', Seg L q [a] V0' i [] (T :: V0') j := by
  have hk : okN [a] 0 1 := ⟨by omega, by show 0 - req a + giv a = 1; omega⟩
  obtain ⟨W', h1, h2, h3⟩ := Seg.disc (W := []) h hk
  match W', h2 with
  | [T], _ => exact ⟨T, h1, h3⟩

/-! What comes last in an item of a module. -/
def isMk : Sy → Bool
  | .mk _ _ => true
  | _ => false
def hard : Sy → Bool
  | .mark _ => true
  | .lF p _ _ => p
  | .lN p _ _ => p
  | .lC p _ _ => p
  | .par => true
  | .fn _ => true
  | .blk => true
  | .sts _ => true
  | .useN => true
  | .useM _ => true
  | .useI _ _ => true
  | .funN => true
  | _ => false
def allMk (A : List Sy) : Bool := A.all isMk
/-- Behind the last one that takes a token for sure nothing is but what makes trees. -/
def fok : List Sy → Bool
  | [] => true
  | a :: A => if allMk A then isMk a || hard a else fok A
theorem fok_all : ∀ {A : List Sy}, allMk A = true → fok A = true
  | [], _ => rfl
  | a :: A, h => by
    have h' : (isMk a && A.all isMk) = true := h
    rw [Bool.and_eq_true] at h'
    show (if allMk A then _ else _) = true
    rw [if_pos (show allMk A = true from h'.2), h'.1]; rfl
theorem allMk_app (A B : List Sy) : allMk (A ++ B) = (allMk A && allMk B) := by unfold allMk; exact List.all_append
theorem fok_app : ∀ (A : List Sy) {B : List Sy}, allMk B = false → fok B = true → fok (A ++ B) = true
  | [], B, _, h => h
  | a :: A, B, h1, h => by
    show (if allMk (A ++ B) then _ else _) = true
    rw [allMk_app, h1, Bool.and_false, if_neg (by decide)]
    exact fok_app A h1 h
theorem fok_put : ∀ {A : List Sy} (B : List Sy), allMk B = true → fok A = true → fok (A ++ B) = true
  | [], B, h, _ => fok_all h
  | a :: A, B, h, h1 => by
    have h1' : (if allMk A then isMk a || hard a else fok A) = true := h1
    show (if allMk (A ++ B) then _ else _) = true
    rw [allMk_app, h, Bool.and_true]
    split at h1'
    · rename_i hA; rw [if_pos hA]; exact h1'
    · rename_i hA; rw [if_neg hA]; exact fok_put B h h1'

theorem one_fok {a : Sy} {B : List Sy} (h : one L a V i = some (B, V', j)) (ha : hard a = true) : fok B = true := by
  cases a with
  | mark s => simp only [one] at h; split at h <;> cases h; rfl
  | lF p x m =>
    obtain rfl : p = true := ha
    simp only [one] at h; split at h <;> cases h <;> rfl
  | lN p x m =>
    obtain rfl : p = true := ha
    simp only [one] at h; repeat' split at h
    all_goals (cases h; try rfl)
  | lC p x m =>
    obtain rfl : p = true := ha
    cases h; rfl
  | par => obtain ⟨rfl, -, -⟩ := need_some h; rfl
  | fn x => cases h; rfl
  | blk => cases h; rfl
  | sts m => simp only [one] at h; split at h <;> cases h <;> rfl
  | useN => obtain ⟨rfl, -, -⟩ := need_some h; rfl
  | useM a => obtain ⟨rfl, -, -⟩ := need_some h; rfl
  | useI a b => obtain ⟨rfl, -, -⟩ := need_some h; rfl
  | funN => obtain ⟨rfl, -, -⟩ := need_some h; rfl
  | _ => cases ha
theorem Seg.fok (h : Seg L q A V i A1 V1 j) (hA : fok A = true) : fok A1 = true := by
  induction h with
  | here => exact hA
  | @more a A V i B V' j A2 V2 k hq ho hs ih =>
    apply ih
    have h' : (if allMk A then isMk a || hard a else Pa.fok A) = true := hA
    by_cases hm : allMk A = true
    · rw [if_pos hm, Bool.or_eq_true] at h'
      rcases h' with h' | h'
      · cases a with
        | mk x m =>
          simp only [Pa.one] at ho
          split at ho <;> cases ho
          exact fok_all hm
        | _ => cases h'
      · exact fok_put _ hm (one_fok ho h')
    · rw [if_neg hm] at h'
      exact fok_app _ (by simpa using hm) h'
/-- Where such a front takes no token more, it makes trees alone. -/
theorem fok_mt : ∀ {A : List Sy}, fok A = true → mtS A = 0 → allMk A = true
  | [], _, _ => rfl
  | a :: A, h, hm => by
    have hm' : mt a + mtS A = 0 := hm
    have h' : (if allMk A then isMk a || hard a else Pa.fok A) = true := h
    by_cases hA : allMk A = true
    · rw [if_pos hA, Bool.or_eq_true] at h'
      rcases h' with h' | h'
      · show (isMk a && A.all isMk) = true
        rw [h', Bool.true_and]; exact hA
      · exfalso
        have : mt a = 1 := by
          cases a <;> first | rfl | (simp [hard] at h'; done) | (simp [hard] at h'; simp [mt, h']; done)
        omega
    · rw [if_neg hA] at h'
      exact absurd (fok_mt h' (by omega)) hA
/-- What makes trees alone looks at no token. -/
theorem Seg.mks_aux {i' : Nat} (h : Seg L q A V i A2 V1 k) : A2 = [] → allMk A = true → k = i ∧ Seg L' (i' + 1) A V i' [] V1 i' := by
  induction h with
  | here A V i => rintro rfl -; exact ⟨rfl, .here _ _ _⟩
  | @more a A V i B V' j A2 V2 k hq ho hs ih =>
    rintro rfl hA
    have hA' : (isMk a && A.all isMk) = true := hA
    rw [Bool.and_eq_true] at hA'
    cases a with
    | mk x m =>
      have ho' := ho
      simp only [Pa.one] at ho
      split at ho
      · rename_i hm
        cases ho
        obtain ⟨h1, h2⟩ := ih rfl hA'.2
        exact ⟨h1, .more (by omega) (by simp only [Pa.one]; rw [if_pos hm]) h2⟩
      · cases ho
    | _ => cases hA'.1
theorem Seg.mks {i' : Nat} (h : Seg L q A V i [] V1 k) (hA : allMk A = true) : k = i ∧ Seg L' (i' + 1) A V i' [] V1 i' := h.mks_aux rfl hA

/-- An item is read by the tokens that it takes alone. -/
theorem item_same {a : Sy} {p : Nat} (ha : hard a = true) (hk : ∀ m, m < p → Alk (lk L m) (lk L' m)) (h : Seg L q [a] V i [] V1 j) (hj : j ≤ p) : Seg L' (j + 1) [a] V i [] V1 j := by
  obtain ⟨A1, V2, h1, h2⟩ := h.cut h.le (Nat.le_refl j)
  have hf : fok A1 = true := h1.fok (by show (isMk a || hard a) = true; rw [ha, Bool.or_true])
  have hm := h2.min
  rw [show mtS [] = 0 from rfl] at hm
  have hall := fok_mt hf (by omega)
  have h3 := (h2.mks (L' := L') (i' := j) hall).2
  have h4 := h1.move (d := 0) (L' := L') (fun m h1 h2 h3 => by rw [Nat.add_zero]; exact hk m (by omega))
  exact (h4.wide (by omega)).trans h3
/-- An item that is cut in its midst does not end there. -/
theorem item_cut {a : Sy} {p q2 : Nat} (ha : hard a = true) (hk : ∀ m, m < p → Alk (lk L m) (lk L' m)) (h : Seg L q [a] V i [] V1 j) (_hi : i ≤ p) (hj : p < j) : ¬ ∃ V2, Seg L' q2 [a] V i [] V2 p := by
  rintro ⟨V2, h2⟩
  have := item_same (L' := L) ha (fun m hm => (hk m hm).symm) h2 (Nat.le_refl p)
  have := (this.same h).2
  omega

end Go.Proofs.YtemlceicmpcboaaGreatDoor.Pa
namespace Go.Proofs.YtemlceicmpcboaaGreatDoor.Pa
open Lx Tr

variable {L L' : List Tk} {q q' : Nat} {A A' A1 A2 : List Sy} {V V' V1 V2 : List (List Nd)} {i j k : Nat}

def hdN (a : List UInt8) (z : Int) : Nd := { nd 1 with name := a, n := z }
theorem seg_cons {a : Sy} {A : List Sy} (h : Seg L q (a :: A) V i [] V2 k) : ∃ B V' j, i < q ∧ one L a V i = some (B, V', j) ∧ Seg L q (B ++ A) V' j [] V2 k := by
  cases h with
  | more hq ho hs => exact ⟨_, _, _, hq, ho, hs⟩
theorem seg_need {a : Sy} {n : Int} {B : List Sy} (h : Seg L q (a :: A) V i [] V2 k) (ha : one L a V i = need L n V i B) : i < q ∧ one L a V i = some (B, V, i + 1) ∧ Seg L q (B ++ A) V (i + 1) [] V2 k := by
  obtain ⟨B1, V1, j, hq, ho, hs⟩ := seg_cons h
  have ho' := ho
  rw [ha] at ho'
  obtain ⟨rfl, rfl, rfl⟩ := need_some ho'
  exact ⟨hq, ho, hs⟩
theorem seg_mark {s : List UInt8} (h : Seg L q (.mark s :: A) V i [] V2 k) : i < q ∧ sg L i = s ∧ one L (.mark s) V i = some ([], V, i + 1) ∧ Seg L q A V (i + 1) [] V2 k := by
  obtain ⟨B1, V1, j, hq, ho, hs⟩ := seg_cons h
  have ho' := ho
  simp only [one] at ho'
  split at ho'
  · rename_i e; cases ho'; exact ⟨hq, e, ho, hs⟩
  · cases ho'
/-- The header. -/
theorem head_of (h : Seg L q [.mod] [] 0 [] V2 k) : ∃ a z, Seg L 4 [.mod] [] 0 [.uses (hdN a z) 0] [] 4 ∧ Seg L q [.uses (hdN a z) 0] [] 4 [] V2 k ∧ 4 ≤ k := by
  obtain ⟨B, V', j, hq, ho, hs⟩ := seg_cons h
  have ho' := ho
  cases ho'
  obtain ⟨-, -, ho1, hs1⟩ := seg_mark hs
  obtain ⟨-, ho2, hs2⟩ := seg_need hs1 (show one L .modN [] 1 = need L 1 [] 1 [.modI (tx L 1)] from rfl)
  obtain ⟨-, ho3, hs3⟩ := seg_need hs2 (show one L (.modI (tx L 1)) [] 2 = need L 2 [] 2 _ from rfl)
  obtain ⟨-, -, ho4, hs4⟩ := seg_mark hs3
  refine ⟨tx L 1, nm L 2, ?_, hs4, hs4.le⟩
  exact .more (by omega) ho (.more (by omega) ho1 (.more (by omega) ho2 (.more (by omega) ho3 (.more (by omega) ho4 (.here _ _ _)))))

theorem sg_of' {d : Nat} (h : Alk (lk L i) (lk L' (i + d))) : sg L' (i + d) = sg L i := (sg_of h).symm
theorem one_funs {x : Nd} {m : Nat} (h : sg L i = [102, 110]) : one L (.funs x m) V i = some ([.funN, .funs x (m + 1)], V, i + 1) := by simp only [one]; rw [if_pos h]
theorem one_funs_no {x : Nd} {m : Nat} (h : sg L i ≠ [102, 110]) : one L (.funs x m) V i = some ([.mk x m], V, i) := by simp only [one]; rw [if_neg h]
theorem one_uses {x : Nd} {m : Nat} (h : sg L i = [117, 115, 101]) : one L (.uses x m) V i = some ([.useN, .uses x (m + 1)], V, i + 1) := by simp only [one]; rw [if_pos h]
theorem one_uses_no {x : Nd} {m : Nat} (h : sg L i ≠ [117, 115, 101]) : one L (.uses x m) V i = some ([.funs x m], V, i) := by simp only [one]; rw [if_neg h]
theorem one_mk {x : Nd} {m : Nat} (h : V.length = m) : one L (.mk x m) V i = some ([], [join x V.reverse], i) := by
  subst h
  simp only [one]; rw [if_pos (Nat.le_refl _), List.take_length, List.drop_length]

/-- Where no function follows it ends. -/
theorem funs_no {x : Nd} {m : Nat} {W : List (List Nd)} (hg : sg L i ≠ [102, 110]) (h : Seg L q [.funs x m] W i [] V2 k) (hW : W.length = m) : k = i ∧ V2 = [join x W.reverse] := by
  cases h with
  | more hq ho hs =>
    rw [one_funs_no hg] at ho; cases ho
    cases hs with
    | more hq ho hs =>
      rw [one_mk hW] at ho; cases ho
      cases hs
      exact ⟨rfl, rfl⟩

/-- What the trees of functions are. -/
theorem funs_of {K : Nat} (hT : TkS K L) {x : Nd} : ∀ (n : Nat) {m i : Nat} {W : List (List Nd)}, k - i ≤ n → Seg L q [.funs x m] W i [] V2 k → W.length = m →
    ∃ ks, V2 = [join x (W.reverse ++ ks)] ∧ (∀ t ∈ ks, Tok K t) ∧ ∀ (L' : List Tk) (d : Nat) (x' : Nd) (m' : Nat) (V' : List (List Nd)), V'.length = m' → (∀ u, i ≤ u → u ≤ k → Alk (lk L u) (lk L' (u + d))) →
      Seg L' (k + d + 1) [.funs x' m'] V' (i + d) [] [join x' (V'.reverse ++ ks)] (k + d) := by
  intro n
  induction n with
  | zero =>
    intro m i W hn h hW
    have hle := h.le
    obtain ⟨B, V', j, hq, ho, hs⟩ := seg_cons h
    by_cases hg : sg L i = [102, 110]
    · rw [one_funs hg] at ho; cases ho
      have := hs.le; omega
    · obtain ⟨rfl, rfl⟩ := funs_no hg h hW
      refine ⟨[], by rw [List.append_nil], by simp, fun L' d x' m' V' hV' hk => ?_⟩
      have := hk k (Nat.le_refl _) (Nat.le_refl _)
      rw [List.append_nil]
      exact .more (by omega) (one_funs_no (by rw [sg_of' this]; exact hg)) (.more (by omega) (one_mk hV') (.here _ _ _))
  | succ n ih =>
    intro m i W hn h hW
    have hle := h.le
    obtain ⟨B, V', j, hq, ho, hs⟩ := seg_cons h
    by_cases hg : sg L i = [102, 110]
    · rw [one_funs hg] at ho; cases ho
      obtain ⟨W1, j, h1, h2⟩ := Seg.part (A := [.funN]) (K := [.funs x (m + 1)]) hs
      obtain ⟨T, rfl, h3⟩ := h1.one_tree rfl rfl
      have hj1 := h1.le
      have hj2 := h2.le
      obtain ⟨ks, rfl, hks, hall⟩ := ih (by omega) h2 (by rw [List.length_cons, hW])
      have hTk : Tok K T := to_good hT (h3 []).to (show GoodC K (.run [.funN] [] (i + 1)) from ⟨fun b hb => by rw [List.mem_singleton.1 hb]; trivial, fun t ht => by cases ht⟩) |>.2 T (List.mem_singleton.2 rfl)
      refine ⟨T :: ks, by simp, fun t ht => (List.mem_cons.1 ht).elim (fun e => e ▸ hTk) (hks t), fun L' d x' m' V' hV' hk => ?_⟩
      have hi := hk i (Nat.le_refl _) (by omega)
      have h4 := ((h3 V').narrow.move (d := d) (L' := L') (fun u h1 h2 h3 => hk u (by omega) (by omega))).over [.funs x' (m' + 1)]
      have h5 := hall L' d x' (m' + 1) (T :: V') (by rw [List.length_cons, hV']) (fun u h1 h2 => hk u (by omega) h2)
      rw [show V'.reverse ++ T :: ks = (T :: V').reverse ++ ks by simp]
      exact .more (by omega) (one_funs (by rw [sg_of' hi]; exact hg)) (by rw [show i + d + 1 = i + 1 + d by omega]; exact (h4.wide (by omega)).trans h5)
    · obtain ⟨rfl, rfl⟩ := funs_no hg h hW
      refine ⟨[], by rw [List.append_nil], by simp, fun L' d x' m' V' hV' hk => ?_⟩
      have := hk k (Nat.le_refl _) (Nat.le_refl _)
      rw [List.append_nil]
      exact .more (by omega) (one_funs_no (by rw [sg_of' this]; exact hg)) (.more (by omega) (one_mk hV') (.here _ _ _))

/-- The same, where other tokens follow. -/
theorem funs_on {K : Nat} (hT : TkS K L) (hk : ∀ u, u < k → Alk (lk L u) (lk L' u)) {x : Nd} : ∀ (n : Nat) {m i : Nat} {W : List (List Nd)}, k - i ≤ n → Seg L q [.funs x m] W i [] V2 k → W.length = m →
    ∃ ks, V2 = [join x (W.reverse ++ ks)] ∧ (∀ t ∈ ks, Tok K t) ∧ Seg L' (k + 1) [.funs x m] W i [.funs x (m + ks.length)] (ks.reverse ++ W) k := by
  intro n
  induction n with
  | zero =>
    intro m i W hn h hW
    have hle := h.le
    obtain ⟨B, V', j, hq, ho, hs⟩ := seg_cons h
    by_cases hg : sg L i = [102, 110]
    · rw [one_funs hg] at ho; cases ho
      have := hs.le; omega
    · obtain ⟨rfl, rfl⟩ := funs_no hg h hW
      exact ⟨[], by rw [List.append_nil], by simp, .here _ _ _⟩
  | succ n ih =>
    intro m i W hn h hW
    have hle := h.le
    obtain ⟨B, V', j, hq, ho, hs⟩ := seg_cons h
    by_cases hg : sg L i = [102, 110]
    · rw [one_funs hg] at ho; cases ho
      obtain ⟨W1, j, h1, h2⟩ := Seg.part (A := [.funN]) (K := [.funs x (m + 1)]) hs
      obtain ⟨T, rfl, h3⟩ := h1.one_tree rfl rfl
      have hj1 := h1.le
      have hj2 := h2.le
      obtain ⟨ks, rfl, hks, hall⟩ := ih (by omega) h2 (by rw [List.length_cons, hW])
      have hTk : Tok K T := to_good hT (h3 []).to (show GoodC K (.run [.funN] [] (i + 1)) from ⟨fun b hb => by rw [List.mem_singleton.1 hb]; trivial, fun t ht => by cases ht⟩) |>.2 T (List.mem_singleton.2 rfl)
      refine ⟨T :: ks, by simp, fun t ht => (List.mem_cons.1 ht).elim (fun e => e ▸ hTk) (hks t), ?_⟩
      have h4 := (item_same rfl hk h1 hj2).over [.funs x (m + 1)]
      have e1 : m + (T :: ks).length = m + 1 + ks.length := by rw [List.length_cons]; omega
      have e2 : (T :: ks).reverse ++ W = ks.reverse ++ (T :: W) := by simp
      rw [e1, e2]
      exact .more (by omega) (one_funs (by rw [← sg_of (hk i (by omega))]; exact hg)) ((h4.wide (by omega)).trans hall)
    · obtain ⟨rfl, rfl⟩ := funs_no hg h hW
      exact ⟨[], by rw [List.append_nil], by simp, .here _ _ _⟩
theorem uses_on {K : Nat} (hT : TkS K L) (hk : ∀ u, u < k → Alk (lk L u) (lk L' u)) {x : Nd} : ∀ (n : Nat) {m i : Nat} {W : List (List Nd)}, k - i ≤ n → Seg L q [.uses x m] W i [] V2 k → W.length = m →
    ∃ ks, V2 = [join x (W.reverse ++ ks)] ∧ (∀ t ∈ ks, Tok K t) ∧ ∃ A1, (A1 = [.uses x (m + ks.length)] ∨ A1 = [.funs x (m + ks.length)]) ∧ Seg L' (k + 1) [.uses x m] W i A1 (ks.reverse ++ W) k := by
  intro n
  have last : ∀ {m i : Nat} {W : List (List Nd)}, sg L i ≠ [117, 115, 101] → Seg L q [.funs x m] W i [] V2 k → W.length = m → i ≤ k →
      ∃ ks, V2 = [join x (W.reverse ++ ks)] ∧ (∀ t ∈ ks, Tok K t) ∧ ∃ A1, (A1 = [.uses x (m + ks.length)] ∨ A1 = [.funs x (m + ks.length)]) ∧ Seg L' (k + 1) [.uses x m] W i A1 (ks.reverse ++ W) k := by
    intro m i W hg hs hW hik
    by_cases hi : i = k
    · subst hi
      by_cases hf : sg L i = [102, 110]
      · exfalso
        obtain ⟨B, V', j, hq, ho, hs'⟩ := seg_cons hs
        rw [one_funs hf] at ho; cases ho; have := hs'.le; omega
      · obtain ⟨-, hV⟩ := funs_no hf hs hW
        refine ⟨[], ?_, by simp, _, .inl rfl, .here _ _ _⟩
        rw [List.append_nil]; exact hV
    · obtain ⟨ks, hV, hks, hS⟩ := funs_on (L' := L') hT hk _ (Nat.le_refl _) hs hW
      exact ⟨ks, hV, hks, _, .inr rfl, .more (by omega) (one_uses_no (by rw [← sg_of (hk i (by omega))]; exact hg)) hS⟩
  induction n with
  | zero =>
    intro m i W hn h hW
    have hle := h.le
    obtain ⟨B, V', j, hq, ho, hs⟩ := seg_cons h
    by_cases hg : sg L i = [117, 115, 101]
    · rw [one_uses hg] at ho; cases ho
      have := hs.le; omega
    · rw [one_uses_no hg] at ho; cases ho
      exact last hg hs hW hle
  | succ n ih =>
    intro m i W hn h hW
    have hle := h.le
    obtain ⟨B, V', j, hq, ho, hs⟩ := seg_cons h
    by_cases hg : sg L i = [117, 115, 101]
    · rw [one_uses hg] at ho; cases ho
      obtain ⟨W1, j, h1, h2⟩ := Seg.part (A := [.useN]) (K := [.uses x (m + 1)]) hs
      obtain ⟨T, rfl, h3⟩ := h1.one_tree rfl rfl
      have hj1 := h1.le
      have hj2 := h2.le
      obtain ⟨ks, rfl, hks, A1, hA1, hall⟩ := ih (by omega) h2 (by rw [List.length_cons, hW])
      have hTk : Tok K T := to_good hT (h3 []).to (show GoodC K (.run [.useN] [] (i + 1)) from ⟨fun b hb => by rw [List.mem_singleton.1 hb]; trivial, fun t ht => by cases ht⟩) |>.2 T (List.mem_singleton.2 rfl)
      refine ⟨T :: ks, by simp, fun t ht => (List.mem_cons.1 ht).elim (fun e => e ▸ hTk) (hks t), A1, ?_, ?_⟩
      · rw [show m + (T :: ks).length = m + 1 + ks.length by rw [List.length_cons]; omega]; exact hA1
      · have h4 := (item_same rfl hk h1 hj2).over [.uses x (m + 1)]
        rw [show (T :: ks).reverse ++ W = ks.reverse ++ (T :: W) by simp]
        exact .more (by omega) (one_uses (by rw [← sg_of (hk i (by omega))]; exact hg)) ((h4.wide (by omega)).trans hall)
    · rw [one_uses_no hg] at ho; cases ho
      exact last hg hs hW hle
/-- The rest of the one way. -/
theorem Seg.after (h : Seg L q A V i [] V2 k) (h2 : Seg L q' A V i A1 V1 j) : Seg L q A1 V1 j [] V2 k := by
  induction h2 with
  | here => exact h
  | more hq ho hs ih =>
    obtain ⟨B, V', j, hq', ho', hs'⟩ := seg_cons h
    rw [ho] at ho'; cases ho'
    exact ih hs'
/-- The tree of a use. -/
theorem use_tree {T : List Nd} (h : Seg L q [.useN] [] i [] [T] j) : ∃ y, T = [y] ∧ y.kind = 2 := by
  obtain ⟨-, -, h1⟩ := seg_need h (show one L .useN [] i = need L 1 [] i _ from rfl)
  obtain ⟨-, -, -, h2⟩ := seg_mark h1
  obtain ⟨-, -, h3⟩ := seg_need h2 (show one L (.useM _) [] _ = need L 1 [] _ _ from rfl)
  obtain ⟨-, -, -, h4⟩ := seg_mark h3
  obtain ⟨-, -, h5⟩ := seg_need h4 (show one L (.useI _ _) [] _ = need L 2 [] _ _ from rfl)
  obtain ⟨-, -, -, h6⟩ := seg_mark h5
  obtain ⟨B, V', j', -, ho, h7⟩ := seg_cons h6
  simp only [one] at ho
  rw [if_pos (Nat.zero_le _)] at ho
  cases ho
  cases h7
  exact ⟨_, rfl, rfl⟩

end Go.Proofs.YtemlceicmpcboaaGreatDoor.Pa
namespace Go.Proofs.YtemlceicmpcboaaGreatDoor.Pa
open Lx Tr

/-- Places in a row that has others ahead of it and behind it. -/
theorem endW_mid {a t b : List Int} (ht : endW 1 t = some t.length) {i : Nat} (hi : i < t.length) : endW 1 ((a ++ t ++ b).drop (a.length + i)) = endW 1 (t.drop i) := by
  rw [List.append_assoc, ← List.drop_drop, List.drop_left, List.drop_append_of_le_length (by omega)]
  cases h : endW 1 (t.drop i) with
  | some n => exact endW_app _ _ _ _ h
  | none =>
    exfalso
    obtain ⟨d, -, hd, -⟩ := tree_depth ht
    exact (depP_some _ _ _ _ hd).2 i hi h
theorem sz_mid {a t b : List Int} (ht : endW 1 t = some t.length) {i : Nat} (hi : i < t.length) : sz (a ++ t ++ b) (a.length + i) = sz t i := by unfold sz; rw [endW_mid ht hi]
theorem pos_mid {a t b : List Int} (ht : endW 1 t = some t.length) {p c n : Nat} (h : endW c (t.drop p) = some n) (hn : p + n ≤ t.length) : ∀ j, j ≤ c → pos (a ++ t ++ b) (a.length + p) j = a.length + pos t p j
  | 0, _ => rfl
  | j + 1, hj => by
    have ih := pos_mid (a := a) (b := b) ht h hn j (by omega)
    have hlt := pos_lt h (show j < c by omega)
    rw [pos_succ, pos_succ, ih, sz_mid ht (by omega)]
    omega
theorem kidsZ_mid {a t b : List Int} (ht : endW 1 t = some t.length) {i : Nat} (hi : i < t.length) : kidsZ (a ++ t ++ b) ((a.length + i : Nat) : Int) = (kidsZ t (i : Int)).map (fun z => (a.length : Int) + z) := by
  obtain ⟨n, hn⟩ := whole_all (ks := t) (by rw [List.drop_zero]; exact ht) i hi
  have hn' : endW 1 ((a ++ t ++ b).drop (a.length + i)) = some n := by rw [endW_mid ht hi, hn]
  obtain ⟨k, hk, hk0, hF, h1⟩ := endW_node hn
  have hk' : (a ++ t ++ b)[a.length + i]? = some k := by
    rw [List.append_assoc, List.getElem?_append_right (by omega), List.getElem?_append_left (by omega)]
    rw [show a.length + i - a.length = i by omega]; exact hk
  have hle := (endW_le _ _ _ hn).2
  rw [List.length_drop] at hle
  rw [kidsZ_some hn' hk', kidsZ_some hn hk]
  unfold posZ
  rw [List.map_map, List.map_map, List.map_map]
  apply List.map_congr_left
  intro j hj
  have := List.mem_range.1 hj
  show ((pos (a ++ t ++ b) (a.length + i + 1) j : Nat) : Int) = (a.length : Int) + ((pos t (i + 1) j : Nat) : Int)
  rw [show a.length + i + 1 = a.length + (i + 1) by omega, pos_mid ht hF (by omega) j (by omega)]
  omega

theorem kidsOf_app (a b : List Nd) : kidsOf (a ++ b) = kidsOf a ++ kidsOf b := by simp [kidsOf]
theorem goodAt_mid {a t b : List Nd} (ht : endW 1 (kidsOf t) = some t.length) {i : Nat} (hi : i < t.length) : goodAt (a ++ t ++ b) (a.length + i) = goodAt t i := by
  have e : ∀ (z : Nat), z < t.length → (a ++ t ++ b).getD (a.length + z) Nd.zero = t.getD z Nd.zero := by
    intro z hz
    rw [List.getD_eq_getElem?_getD, List.getD_eq_getElem?_getD, List.append_assoc, List.getElem?_append_right (by omega), List.getElem?_append_left (by omega), show a.length + z - a.length = z by omega]
  have ek : ∀ (z : Nat), z < t.length → kindAt (a ++ t ++ b) ((a.length : Int) + (z : Int)) = kindAt t (z : Int) := by
    intro z hz
    unfold kindAt
    rw [show ((a.length : Int) + (z : Int)).toNat = a.length + z by omega, show ((z : Int)).toNat = z by omega, e z hz]
  have ht' : endW 1 (kidsOf t) = some (kidsOf t).length := by rw [kidsOf_len]; exact ht
  have hL : (kidsOf a).length = a.length := kidsOf_len a
  unfold goodAt
  rw [e i hi, show ((a.length + i : Nat) : Int) = (a.length : Int) + (i : Int) by omega, ek i hi]
  unfold kindsL
  have hz := kidsZ_mid (a := kidsOf a) (b := kidsOf b) ht' (i := i) (by rw [kidsOf_len]; exact hi)
  rw [hL] at hz
  rw [kidsOf_app, kidsOf_app, ← show ((a.length + i : Nat) : Int) = (a.length : Int) + (i : Int) by omega, hz, List.map_map]
  congr 2
  apply List.map_congr_left
  intro z hzm
  obtain ⟨k, rfl, hk⟩ := kidsZ_lt t (i : Int) z hzm
  exact ek k hk

/-! the first node's kids -/
theorem pos_shift (ks : List Int) : ∀ (j p : Nat), pos ks p (j + 1) = pos ks (p + sz ks p) j
  | 0, p => rfl
  | j + 1, p => by rw [pos_succ, pos_shift ks j p, pos_succ]
/-- The kind of a tree's first node. -/
def headK (t : List Nd) : Int := kindAt t 0
theorem heads {K : Nat} : ∀ (ks : List (List Nd)) (a : List Nd), (∀ t ∈ ks, Tok K t) → (List.range ks.length).map (fun j => kindAt (a ++ ks.flatten) ((pos (kidsOf (a ++ ks.flatten)) a.length j : Nat) : Int)) = ks.map headK
  | [], a, _ => rfl
  | t :: ks, a, h => by
    have ht := h t (List.mem_cons_self ..)
    have hpos : 0 < t.length := by have := (endW_le _ _ _ ht.whole).1; omega
    have e : a ++ (t :: ks).flatten = (a ++ t) ++ ks.flatten := by simp
    have ht' : endW 1 (kidsOf t) = some (kidsOf t).length := by rw [kidsOf_len]; exact ht.whole
    have hsz : sz (kidsOf (a ++ (t :: ks).flatten)) a.length = t.length := by
      have := sz_mid (a := kidsOf a) (b := kidsOf ks.flatten) ht' (i := 0) (by rw [kidsOf_len]; exact hpos)
      rw [kidsOf_len] at this
      rw [e, kidsOf_app, kidsOf_app]
      rw [show a.length = a.length + 0 from rfl, this]
      unfold sz
      rw [List.drop_zero, ht.whole]; rfl
    have ih := heads ks (a ++ t) (fun u hu => h u (List.mem_cons_of_mem _ hu))
    rw [List.length_cons, List.range_succ_eq_map, List.map_cons, List.map_map, List.map_cons]
    congr 1
    · show kindAt _ ((a.length : Nat) : Int) = kindAt t 0
      unfold kindAt
      rw [show ((a.length : Nat) : Int).toNat = a.length by omega, e, List.getD_eq_getElem?_getD, List.getD_eq_getElem?_getD, List.append_assoc, List.getElem?_append_right (Nat.le_refl _), Nat.sub_self, List.getElem?_append_left hpos]
      rfl
    · rw [← ih]
      apply List.map_congr_left
      intro j _
      show kindAt _ ((pos _ a.length (j + 1) : Nat) : Int) = _
      rw [pos_shift, hsz, e, List.length_append]
theorem kindsL_join {K : Nat} {x : Nd} {ks : List (List Nd)} (h : ∀ t ∈ ks, Tok K t) : kindsL (join x ks) 0 = ks.map headK := by
  have hw : endW 1 ((kidsOf (join x ks)).drop 0) = some (join x ks).length := by
    rw [List.drop_zero]
    show endW (0 + 1) ((ks.length : Int) :: kidsOf ks.flatten) = some (ks.flatten.length + 1)
    rw [endW_cons, if_neg (by omega), Nat.zero_add, Int.toNat_natCast, whole_many ks (fun t ht => (h t ht).whole)]
    rfl
  have hk : (kidsOf (join x ks))[0]? = some (ks.length : Int) := rfl
  unfold kindsL
  rw [show (0 : Int) = ((0 : Nat) : Int) from rfl, kidsZ_some hw hk]
  unfold posZ
  rw [List.map_map, List.map_map, Int.toNat_natCast]
  exact heads ks [{ x with kids := (ks.length : Int) }] h

/-! depths -/
def dT (t : List Nd) : Nat := (depP [] 0 (kidsOf t)).getD 0
def dm : List (List Nd) → Nat
  | [] => 0
  | t :: ks => max (dT t) (dm ks)
theorem dm_app (a b : List (List Nd)) : dm (a ++ b) = max (dm a) (dm b) := by
  induction a with
  | nil => simp [dm]
  | cons t a ih => rw [List.cons_append, dm, dm, ih]; omega
theorem dep_many {K : Nat} : ∀ (ks : List (List Nd)) (m : Nat), 1 ≤ m → (∀ t ∈ ks, Tok K t) → depP (norm [ks.length]) m (kidsOf ks.flatten) = some (max m (dm ks + 1))
  | [], m, hm, _ => by show depP [] m [] = _; rw [depP_nil, if_pos rfl]; simp [dm]; omega
  | t :: ks, m, hm, h => by
    have ht := h t (List.mem_cons_self ..)
    obtain ⟨d, hd, h1, h2⟩ := tree_depth (T := kidsOf t) (by rw [kidsOf_len]; exact ht.whole)
    have hdT : dT t = d := by unfold dT; rw [h1]; rfl
    rw [List.flatten_cons, kidsOf_app]
    show depP [ks.length] m _ = _
    rw [h2, dep_many ks _ (by omega) (fun u hu => h u (List.mem_cons_of_mem _ hu))]
    show some _ = some _
    congr 1
    rw [dm, hdT]
    show max (max m (1 + d)) (dm ks + 1) = _
    omega
theorem depI_join {K : Nat} {x : Nd} {ks : List (List Nd)} (h : ∀ t ∈ ks, Tok K t) : depI (kidsOf (join x ks)) = ((dm ks + 1 : Nat) : Int) := by
  have : depP [] 0 (kidsOf (join x ks)) = some (dm ks + 1) := by
    show depP [] 0 ((ks.length : Int) :: kidsOf ks.flatten) = _
    rw [depP_cons, if_neg (by omega), Int.toNat_natCast]
    show depP (norm [ks.length]) (max 0 (0 + 1)) _ = _
    rw [dep_many ks _ (by omega) h]
    congr 1
    first | done | omega
  unfold depI
  rw [this]

/-! the kinds of a module's items -/
theorem cntG_rep (c : Int) (b : List Int) (hb : ∀ y ∈ b.head?, y ≠ c) : ∀ (a h : Nat), a ≤ h → cntG (fun x => x == c) h (List.replicate a c ++ b) = a
  | 0, h, _ => by
    cases h with
    | zero => exact cntG_zero _ _
    | succ h =>
      cases b with
      | nil => rfl
      | cons y b =>
        show (if (y == c) = true then _ else 0) = 0
        rw [if_neg (by simpa using hb y rfl)]
  | a + 1, 0, h => by omega
  | a + 1, h + 1, hh => by
    rw [List.replicate_succ, List.cons_append, cntG, if_pos (by simp), cntG_rep c b hb a h (by omega)]
theorem match_mod {K : List Int} (hl : K.length ≤ 2000) : matchG (groupsL 1) K = true ↔ ∃ a b, K = List.replicate a 2 ++ List.replicate b 3 := by
  have hg : groupsL 1 = [⟨.k 2, 0, 2000⟩, ⟨.k 3, 0, 2000⟩] := rfl
  constructor
  · intro h
    rw [hg, matchG_cons] at h
    split at h
    · cases h
    · rw [matchG_cons] at h
      split at h
      · cases h
      · have h' : K.drop (cntG (FK.k 2).pr (2000 : Int).toNat K) |>.drop (cntG (FK.k 3).pr (2000 : Int).toNat (K.drop (cntG (FK.k 2).pr (2000 : Int).toNat K))) |>.length |> (· = 0) := of_decide_eq_true h
        generalize hA : cntG (FK.k 2).pr (2000 : Int).toNat K = A at h'
        generalize hB : cntG (FK.k 3).pr (2000 : Int).toNat (K.drop A) = B at h'
        have hlA : A ≤ K.length := by rw [← hA]; exact cntG_le _ _ _
        have hlB : B ≤ (K.drop A).length := by rw [← hB]; exact cntG_le _ _ _
        rw [List.length_drop, List.length_drop] at h'
        rw [List.length_drop] at hlB
        refine ⟨A, B, ?_⟩
        have e1 : K.take A = List.replicate A 2 := by
          apply List.eq_replicate_iff.2
          refine ⟨by rw [List.length_take]; omega, fun y hy => ?_⟩
          have := cntG_pr (FK.k 2).pr (2000 : Int).toNat K y (by rw [hA]; exact hy)
          simpa [FK.pr] using this
        have e2 : K.drop A = List.replicate B 3 := by
          apply List.eq_replicate_iff.2
          refine ⟨by rw [List.length_drop]; omega, fun y hy => ?_⟩
          have := cntG_pr (FK.k 3).pr (2000 : Int).toNat (K.drop A) y (by rw [hB, List.take_of_length_le (by rw [List.length_drop]; omega)]; exact hy)
          simpa [FK.pr] using this
        rw [← e1, ← e2, List.take_append_drop]
  · rintro ⟨a, b, rfl⟩
    rw [List.length_append, List.length_replicate, List.length_replicate] at hl
    have e1 : cntG (FK.k 2).pr (2000 : Int).toNat (List.replicate a 2 ++ List.replicate b 3) = a :=
      cntG_rep 2 _ (fun y hy => by cases b with
        | zero => simp at hy
        | succ b => simp [List.replicate_succ] at hy; omega) a _ (by show a ≤ 2000; omega)
    have e2 : cntG (FK.k 3).pr (2000 : Int).toNat (List.replicate b 3) = b := by
      have := cntG_rep 3 [] (by simp) b 2000 (by omega)
      rw [List.append_nil] at this
      exact this
    rw [hg, matchG_cons, if_neg (by show ¬ ((_ : Nat) : Int) < 0; omega)]
    show matchG _ (List.drop (cntG (FK.k 2).pr (2000 : Int).toNat _) _) = true
    rw [e1, List.drop_left' (List.length_replicate ..), matchG_cons, if_neg (by show ¬ ((_ : Nat) : Int) < 0; omega)]
    show matchG _ (List.drop (cntG (FK.k 3).pr (2000 : Int).toNat _) _) = true
    rw [e2]
    show decide _ = true
    simp

/-- When it is right. -/
structure ModFine (x : Nd) (ks : List (List Nd)) : Prop where
  few : ks.flatten.length < 2000
  deep : dm ks ≤ 59
  fields : fieldsP x = true
  kinds : matchG (groupsL 1) (ks.map headK) = true
  nodes : ∀ t ∈ ks, ∀ i, i < t.length → goodAt t i = true
theorem fields_kids (x : Nd) (k : Int) : fieldsP { x with kids := k } = fieldsP x := rfl
theorem scanG_all (g : Nat → Bool) : ∀ (f j : Nat), (∀ i, j ≤ i → i < j + f → g i = true) → scanG g f j = none
  | 0, j, _ => rfl
  | f + 1, j, h => by rw [scanG_succ, if_pos (h j (Nat.le_refl _) (by omega))]; exact scanG_all g f (j + 1) (fun i h1 h2 => h i (by omega) (by omega))
theorem mem_split {ks : List (List Nd)} {t : List Nd} (h : t ∈ ks) : ∃ a b, ks.flatten = a ++ t ++ b := by
  obtain ⟨u, v, rfl⟩ := List.append_of_mem h
  exact ⟨u.flatten, v.flatten, by simp⟩
theorem mem_place : ∀ {ks : List (List Nd)} {i : Nat}, i < ks.flatten.length → ∃ t ∈ ks, ∃ a b j, ks.flatten = a ++ t ++ b ∧ i = a.length + j ∧ j < t.length
  | [], i, h => by simp at h
  | t :: ks, i, h => by
    rw [List.flatten_cons, List.length_append] at h
    by_cases hi : i < t.length
    · exact ⟨t, List.mem_cons_self .., [], ks.flatten, i, by simp, by simp, hi⟩
    · obtain ⟨u, hu, a, b, j, e, e2, hj⟩ := mem_place (ks := ks) (i := i - t.length) (by omega)
      exact ⟨u, List.mem_cons_of_mem _ hu, t ++ a, b, j, by simp [e], by rw [List.length_append]; omega, hj⟩
theorem mod_ok_of {K : Nat} {x : Nd} {ks : List (List Nd)} (hT : ∀ t ∈ ks, Tok K t) (h : (checkL (join x ks)).1 = 0) : ModFine x ks := by
  obtain ⟨h1, h2, h3, h4, h5⟩ := check_ok h
  have hlen : (join x ks).length = ks.flatten.length + 1 := rfl
  have hdep : ¬60 < depI (kidsOf (join x ks)) := by
    intro hd
    have h' := h
    unfold checkL at h'
    split at h'
    · cases h'
    · split at h'
      · cases h'
      · first
          | (rw [if_pos hd] at h'; cases h')
          | cases h'
  rw [depI_join hT] at hdep
  have h0 := h5 0 h2
  have hx1 : x.kind = 1 := h4
  have hg0 : goodAt (join x ks) 0 = (fieldsP x && matchG (groupsL x.kind) (kindsL (join x ks) 0)) := rfl
  rw [hg0, Bool.and_eq_true, hx1, kindsL_join hT] at h0
  refine ⟨by omega, by omega, h0.1, h0.2, fun t ht i hi => ?_⟩
  obtain ⟨a, b, e⟩ := mem_split ht
  have e' : join x ks = ({ x with kids := (ks.length : Int) } :: a) ++ t ++ b := by show _ :: ks.flatten = _; rw [e]; simp
  have hle : a.length + t.length ≤ ks.flatten.length := by rw [e]; simp
  have := h5 (({ x with kids := (ks.length : Int) } :: a).length + i) (by rw [List.length_cons]; omega)
  rw [e', goodAt_mid (hT t ht).whole hi] at this
  exact this
theorem check_of_ok {K : Nat} {x : Nd} {ks : List (List Nd)} (hT : ∀ t ∈ ks, Tok K t) (hx : x.kind = 1) (h1 : fieldsP x = true) (h2 : matchG (groupsL 1) (ks.map headK) = true) (h3 : ∀ t ∈ ks, ∀ i, i < t.length → goodAt t i = true) (h4 : dm ks ≤ 59) :
    checkL (join x ks) = if 2000 < (join x ks).length then (3, 0) else (0, 0) := by
  have hw : endW 1 (kidsOf (join x ks)) = some (join x ks).length := by
    show endW (0 + 1) ((ks.length : Int) :: kidsOf ks.flatten) = some (ks.flatten.length + 1)
    rw [endW_cons, if_neg (by omega), Nat.zero_add, Int.toNat_natCast, whole_many ks (fun t ht => (hT t ht).whole)]
    rfl
  have hE : endI (kidsOf (join x ks)) 0 = ((join x ks).length : Int) := by
    have := endI_some (ks := kidsOf (join x ks)) (i := 0) (by rw [List.drop_zero]; exact hw)
    rw [show ((0 : Nat) : Int) = 0 from rfl] at this
    rw [this]; omega
  unfold checkL
  split
  · rfl
  · rw [if_neg (by rw [hE]; exact fun h => h rfl), if_neg (by rw [depI_join hT]; omega), if_neg (by show ¬(x.kind ≠ 1); rw [hx]; exact fun h => h rfl)]
    rw [scanG_all _ _ _ (fun i _ hi => ?_)]
    have hg0 : goodAt (join x ks) 0 = (fieldsP x && matchG (groupsL x.kind) (kindsL (join x ks) 0)) := rfl
    cases i with
    | zero => rw [hg0, h1, hx, kindsL_join hT, h2]; rfl
    | succ i =>
      obtain ⟨t, ht, a, b, j, e, e2, hj⟩ := mem_place (ks := ks) (i := i) (by rw [Nat.zero_add] at hi; exact Nat.lt_of_succ_lt_succ hi)
      have e' : join x ks = ({ x with kids := (ks.length : Int) } :: a) ++ t ++ b := by show _ :: ks.flatten = _; rw [e]; simp
      rw [e', show i + 1 = ({ x with kids := (ks.length : Int) } :: a).length + j by rw [List.length_cons]; omega, goodAt_mid (hT t ht).whole hj]
      exact h3 t ht j hj
theorem kids_few' {K : Nat} {ks : List (List Nd)} (hT : ∀ t ∈ ks, Tok K t) : ks.length ≤ ks.flatten.length := by
  induction ks with
  | nil => exact Nat.le_refl _
  | cons t ks ih =>
    have := (endW_le _ _ _ (hT t (List.mem_cons_self ..)).whole).1
    have := ih (fun u hu => hT u (List.mem_cons_of_mem _ hu))
    rw [List.flatten_cons, List.length_append, List.length_cons]
    omega
/-- A module with fewer items, those ahead. -/
theorem check_fewer {K : Nat} {x : Nd} {ks ks2 : List (List Nd)} (hT : ∀ t ∈ ks ++ ks2, Tok K t) (hx : x.kind = 1) (h : (checkL (join x (ks ++ ks2))).1 = 0) : checkL (join x ks) = (0, 0) := by
  have ho := mod_ok_of hT h
  have hT1 : ∀ t ∈ ks, Tok K t := fun t ht => hT t (List.mem_append_left _ ht)
  have hlen : (ks ++ ks2).flatten.length = ks.flatten.length + ks2.flatten.length := by simp
  have hf := kids_few' hT
  have h1 := ho.few
  have hk := (match_mod (by rw [List.length_map]; omega)).1 ho.kinds
  obtain ⟨a, b, e⟩ := hk
  rw [check_of_ok hT1 hx ho.fields ?_ (fun t ht => ho.nodes t (List.mem_append_left _ ht)) (by have := ho.deep; rw [dm_app] at this; omega)]
  · rw [if_neg (by show ¬2000 < ks.flatten.length + 1; omega)]
  · refine (match_mod (by rw [List.length_map]; rw [List.length_append] at hf; omega)).2 ⟨min ks.length a, min (ks.length - a) b, ?_⟩
    have := congrArg (List.take ks.length) e
    rw [List.map_append, List.take_left' (List.length_map ..), List.take_append, List.take_replicate, List.take_replicate, List.length_replicate] at this
    exact this
/-- Two modules as one. -/
theorem check_both {K : Nat} {x x2 : Nd} {ks ks2 : List (List Nd)} (hT : ∀ t ∈ ks ++ ks2, Tok K t) (hx : x.kind = 1) (h : (checkL (join x ks)).1 = 0) (h2 : (checkL (join x2 ks2)).1 = 0) (hu : ∀ t ∈ ks2, headK t ≠ 2) : checkL (join x (ks ++ ks2)) = if 2000 < (join x (ks ++ ks2)).length then (3, 0) else (0, 0) := by
  have hT1 : ∀ t ∈ ks, Tok K t := fun t ht => hT t (List.mem_append_left _ ht)
  have hT2 : ∀ t ∈ ks2, Tok K t := fun t ht => hT t (List.mem_append_right _ ht)
  have ho := mod_ok_of hT1 h
  have ho2 := mod_ok_of hT2 h2
  have hf := kids_few' hT
  have hf1 := kids_few' hT1
  have hf2 := kids_few' hT2
  have g1 := ho.few
  have g2 := ho2.few
  obtain ⟨a, b, e⟩ := (match_mod (by rw [List.length_map]; omega)).1 ho.kinds
  obtain ⟨c, d, e2⟩ := (match_mod (by rw [List.length_map]; omega)).1 ho2.kinds
  have hc : c = 0 := by
    cases c with
    | zero => rfl
    | succ c =>
      exfalso
      have : (2 : Int) ∈ ks2.map headK := by rw [e2, List.replicate_succ]; simp
      obtain ⟨t, ht, ht2⟩ := List.mem_map.1 this
      exact hu t ht ht2
  subst hc
  by_cases hbig : 2000 < (join x (ks ++ ks2)).length
  · rw [if_pos hbig]; unfold checkL; rw [if_pos hbig]
  · have hbig' : ¬2000 < (ks ++ ks2).flatten.length + 1 := hbig
    refine check_of_ok hT hx ho.fields ?_ (fun t ht => (List.mem_append.1 ht).elim (ho.nodes t) (ho2.nodes t)) (by have := ho.deep; have := ho2.deep; rw [dm_app]; omega)
    refine (match_mod (by rw [List.length_map]; omega)).2 ⟨a, b + d, ?_⟩
    rw [List.map_append, e, e2, ← List.replicate_append_replicate, List.append_assoc]
    simp

end Go.Proofs.YtemlceicmpcboaaGreatDoor.Pa
