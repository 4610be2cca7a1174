/- What is so of every tree that the machine reads: it is whole, its texts are those of tokens, an index has two kids, and it has no more nodes than tokens were read. What lies in a branch that was read; the walk of exprStmt: its contract. The walk of exprStmt: its contract. The walk of stmtKind: its contract. No condition but those that each states. -/
import Derived.Test.YtemlceicmpcboaaGreatDoorMgA
import Derived.Test.YtemlceicmpcboaaGreatDoorMgG
namespace Go.Proofs.YtemlceicmpcboaaGreatDoor.Pa
open Lx Tr

/-- The texts of tokens are no longer. -/
def TkS (K : Nat) (L : List Tk) : Prop := ∀ t ∈ L, t.text.length ≤ K
def NdS (K : Nat) (x : Nd) : Prop := x.name.length ≤ K ∧ x.text.length ≤ K
theorem tx_short {K : Nat} {L : List Tk} (h : TkS K L) (i : Nat) : (tx L i).length ≤ K := by
  unfold tx
  split
  · rename_i t ht; exact h t (List.mem_of_getElem? ht)
  · exact Nat.zero_le _
theorem sg_short {K : Nat} {L : List Tk} (h : TkS K L) (i : Nat) : (sg L i).length ≤ K := by
  unfold sg
  split
  · rename_i t ht
    split
    · exact h t (List.mem_of_getElem? ht)
    · exact Nat.zero_le _
  · exact Nat.zero_le _

/-- A node of a tree that was read. -/
def NdP (K : Nat) (y : Nd) : Prop := (y.kind = 26 → y.kids = 2) ∧ NdS K y
/-- A tree that was read. -/
structure Tok (K : Nat) (t : List Nd) : Prop where
  whole : endW 1 (kidsOf t) = some t.length
  nodes : ∀ y ∈ t, NdP K y

/-- What a front may hold. -/
def good (K : Nat) : Sy → Prop
  | .mk x m => (x.kind = 26 → m = 2) ∧ NdS K x
  | .lF _ x _ => x.kind ≠ 26 ∧ NdS K x
  | .lN _ x _ => x.kind ≠ 26 ∧ NdS K x
  | .lC _ x _ => x.kind ≠ 26 ∧ NdS K x
  | .fn x => x.kind ≠ 26 ∧ NdS K x
  | .uses x _ => x.kind ≠ 26 ∧ NdS K x
  | .funs x _ => x.kind ≠ 26 ∧ NdS K x
  | .outer a => a.length ≤ K
  | .outN a => a.length ≤ K
  | .modI a => a.length ≤ K
  | .useM a => a.length ≤ K
  | .useI a b => a.length ≤ K ∧ b.length ≤ K
  | _ => True

theorem whole_many : ∀ (ts : List (List Nd)), (∀ t ∈ ts, endW 1 (kidsOf t) = some t.length) → endW ts.length (kidsOf ts.flatten) = some ts.flatten.length
  | [], _ => rfl
  | t :: ts, h => by
    have h1 := h t (List.mem_cons_self ..)
    have h2 := whole_many ts (fun u hu => h u (List.mem_cons_of_mem _ hu))
    have e : kidsOf (t ++ ts.flatten) = kidsOf t ++ kidsOf ts.flatten := by simp [kidsOf]
    have h3 : endW 1 (kidsOf t ++ kidsOf ts.flatten) = some t.length := endW_app _ _ _ _ h1
    rw [List.flatten_cons, e, List.length_cons, Nat.add_comm, endW_add, h3]
    show (endW ts.length ((kidsOf t ++ kidsOf ts.flatten).drop t.length)).map (t.length + ·) = _
    rw [List.drop_append_of_le_length (by rw [kidsOf_len]; exact Nat.le_refl _), List.drop_of_length_le (by rw [kidsOf_len]; exact Nat.le_refl _), List.nil_append, h2]
    simp

theorem tok_join {K : Nat} {x : Nd} {ts : List (List Nd)} (h : ∀ t ∈ ts, Tok K t) (hx : x.kind = 26 → ts.length = 2) (hs : NdS K x) : Tok K (join x ts) := by
  refine ⟨?_, ?_⟩
  · show endW (0 + 1) ((ts.length : Int) :: kidsOf ts.flatten) = some (ts.flatten.length + 1)
    rw [endW_cons, if_neg (by omega), Nat.zero_add, Int.toNat_natCast, whole_many ts (fun t ht => (h t ht).whole)]
    rfl
  · intro y hy
    rcases List.mem_cons.1 hy with rfl | hy
    · exact ⟨fun e => by show (ts.length : Int) = 2; rw [hx e]; rfl, hs⟩
    · obtain ⟨t, ht, hyt⟩ := List.mem_flatten.1 hy
      exact (h t ht).nodes y hyt

/-- The kids of an index. -/
theorem tok_two {K : Nat} {x : Nd} {b : List Nd} (h : Tok K (x :: b)) (hx : x.kind = 26) : Tok K (b.take (firstZ b)) ∧ Tok K (b.drop (firstZ b)) := by
  have hk : x.kids = 2 := (h.nodes x (List.mem_cons_self ..)).1 hx
  have hw := h.whole
  change endW (0 + 1) (x.kids :: kidsOf b) = some (b.length + 1) at hw
  rw [endW_cons, hk, if_neg (by omega)] at hw
  rw [show 0 + (2 : Int).toNat = 1 + 1 from rfl, endW_add] at hw
  cases h1 : endW 1 (kidsOf b) with
  | none => rw [h1] at hw; cases hw
  | some z =>
    rw [h1] at hw
    have hz : firstZ b = z := by unfold firstZ; rw [h1]; rfl
    rw [hz]
    have hzl : z ≤ b.length := by have := (endW_le _ _ _ h1).2; rwa [kidsOf_len] at this
    cases h2 : endW 1 ((kidsOf b).drop z) with
    | none =>
      change Option.map (· + 1) ((endW 1 ((kidsOf b).drop z)).map (z + ·)) = _ at hw
      rw [h2] at hw; cases hw
    | some u =>
      change Option.map (· + 1) ((endW 1 ((kidsOf b).drop z)).map (z + ·)) = _ at hw
      rw [h2] at hw
      have hu : z + u + 1 = b.length + 1 := Option.some.inj hw
      refine ⟨⟨?_, fun y hy => h.nodes y (List.mem_cons_of_mem _ (List.mem_of_mem_take hy))⟩, ⟨?_, fun y hy => h.nodes y (List.mem_cons_of_mem _ (List.mem_of_mem_drop hy))⟩⟩
      · rw [List.length_take, Nat.min_eq_left hzl]
        have e : kidsOf (b.take z) = (kidsOf b).take z := by simp [kidsOf, List.map_take]
        rw [e]
        exact endW_take h1
      · rw [List.length_drop]
        have e : kidsOf (b.drop z) = (kidsOf b).drop z := by simp [kidsOf, List.map_drop]
        rw [e, h2]
        exact congrArg some (by omega)

theorem stmtA_good (K : Nat) {s : List UInt8} {A : List Sy} (h : stmtA s = some A) : ∀ b ∈ A, good K b := by
  unfold stmtA at h
  repeat' split at h
  all_goals first
    | cases h; done
    | (cases h; intro b hb; simp only [List.mem_cons, List.not_mem_nil, or_false] at hb; rcases hb with rfl | rfl | rfl <;> simp [good, nd, NdS])
    | (cases h; intro b hb; simp only [List.mem_cons, List.not_mem_nil, or_false] at hb; rcases hb with rfl | rfl <;> simp [good, nd, NdS])
    | (cases h; intro b hb; simp only [List.mem_cons, List.not_mem_nil, or_false] at hb; rcases hb with rfl; simp [good, nd, NdS])
theorem primA_good (K : Nat) {s : List UInt8} {A : List Sy} (h : primA s = some A) : ∀ b ∈ A, good K b := by
  unfold primA at h
  repeat' split at h
  all_goals first
    | cases h; done
    | (cases h; intro b hb; simp only [List.mem_cons, List.not_mem_nil, or_false] at hb; rcases hb with rfl | rfl <;> simp [good, nd, NdS])
    | (cases h; intro b hb; simp only [List.mem_cons, List.not_mem_nil, or_false] at hb; rcases hb with rfl; simp [good, nd, NdS])

theorem need_some {L : List Tk} {k : Int} {V V' : List (List Nd)} {i j : Nat} {A B : List Sy} (h : need L k V i A = some (B, V', j)) : B = A ∧ V' = V ∧ j = i + 1 := by
  unfold need at h
  split at h
  · cases h; exact ⟨rfl, rfl, rfl⟩
  · cases h

theorem one_good {K : Nat} {L : List Tk} (hL : TkS K L) {a : Sy} {B : List Sy} {V V' : List (List Nd)} {i j : Nat} (h : one L a V i = some (B, V', j)) (ha : good K a) (hV : ∀ t ∈ V, Tok K t) : (∀ b ∈ B, good K b) ∧ ∀ t ∈ V', Tok K t := by
  have htx := tx_short hL i
  have hsg := sg_short hL i
  cases a with
  | prim =>
    change (if kd L i = 2 then _ else if kd L i = 3 then _ else if kd L i = 1 then _ else _) = _ at h
    split at h
    · cases h; exact ⟨by simp [good, nd, NdS], hV⟩
    · split at h
      · cases h; exact ⟨by simp [good, nd, NdS, htx], hV⟩
      · split at h
        · cases h; exact ⟨by simp [good, htx], hV⟩
        · cases hp : primA (sg L i) with
          | none => rw [hp] at h; cases h
          | some A => rw [hp] at h; cases h; exact ⟨primA_good K hp, hV⟩
  | stmt =>
    change (match stmtA (sg L i) with | some A => some (A, V, i + 1) | none => _) = _ at h
    cases hp : stmtA (sg L i) with
    | none => rw [hp] at h; cases h; exact ⟨by simp [good], hV⟩
    | some A => rw [hp] at h; cases h; exact ⟨stmtA_good K hp, hV⟩
  | asg =>
    change (if sg L i = [61] then _ else _) = _ at h
    split at h
    · cases V with
      | nil => cases h
      | cons t V1 =>
        cases t with
        | nil => cases h
        | cons x b =>
          change (if x.kind = 21 then _ else if x.kind = 26 then _ else none) = _ at h
          have ht := hV (x :: b) (List.mem_cons_self ..)
          split at h
          · cases h
            exact ⟨by simp [good, nd, NdS, (ht.nodes x (List.mem_cons_self ..)).2.1], fun t ht => hV t (List.mem_cons_of_mem _ ht)⟩
          · split at h
            · cases h
              rename_i hx
              obtain ⟨h1, h2⟩ := tok_two ht hx
              refine ⟨by simp [good, nd, NdS], fun t ht => ?_⟩
              rcases List.mem_cons.1 ht with rfl | ht
              · exact h2
              · rcases List.mem_cons.1 ht with rfl | ht
                · exact h1
                · exact hV t (List.mem_cons_of_mem _ ht)
            · cases h
    · cases h; exact ⟨by simp [good, nd, NdS], hV⟩
  | mk x m =>
    change (if m ≤ V.length then some ([], join x (V.take m).reverse :: V.drop m, i) else none) = _ at h
    split at h
    · cases h
      refine ⟨by simp, fun t ht => ?_⟩
      rcases List.mem_cons.1 ht with rfl | ht
      · refine tok_join (fun u hu => hV u (List.mem_of_mem_take (List.mem_reverse.1 hu))) (fun e => ?_) ha.2
        have := ha.1 e
        rw [List.length_reverse, List.length_take]
        omega
      · exact hV t (List.mem_of_mem_drop ht)
    · cases h
  | e n =>
    change (if n < 5 then _ else if sg L i = _ then _ else if sg L i ∈ _ then _ else _) = _ at h
    repeat' split at h
    all_goals (cases h; exact ⟨by simp [good, nd, NdS, hsg], hV⟩)
  | row n =>
    change (if sg L i ∈ level n then _ else _) = _ at h
    split at h
    · cases h
      refine ⟨fun b hb => ?_, hV⟩
      rcases List.mem_cons.1 hb with rfl | hb
      · trivial
      · rcases List.mem_cons.1 hb with rfl | hb
        · simp [good, nd, NdS, hsg]
        · split at hb
          · cases hb
          · rw [List.mem_singleton.1 hb]; trivial
    · cases h; exact ⟨by simp, hV⟩
  | post =>
    change (if sg L i = _ then _ else if sg L i = _ then _ else _) = _ at h
    repeat' split at h
    all_goals (cases h; exact ⟨by simp [good, nd, NdS], hV⟩)
  | mark s =>
    change (if sg L i = s then _ else none) = _ at h
    split at h
    · cases h; exact ⟨by simp, hV⟩
    · cases h
  | outer a =>
    change (if sg L i = [46] then _ else _) = _ at h
    have ha' : a.length ≤ K := ha
    split at h
    · cases h; exact ⟨by simp [good, ha'], hV⟩
    · cases h; exact ⟨by simp [good, nd, NdS, ha'], hV⟩
  | outN a =>
    have ha' : a.length ≤ K := ha
    obtain ⟨rfl, rfl, rfl⟩ := need_some h
    exact ⟨by simp [good, nd, NdS, ha', htx], hV⟩
  | lF p x m =>
    obtain ⟨h1, h2⟩ := ha
    change (if sg L i = [41] then _ else _) = _ at h
    split at h
    · cases h; exact ⟨by simp [good, h1, h2], hV⟩
    · cases h; exact ⟨by cases p <;> simp [good, h1, h2], hV⟩
  | lN p x m =>
    obtain ⟨h1, h2⟩ := ha
    change (if sg L i = [44] then _ else if sg L i = [41] then _ else none) = _ at h
    split at h
    · cases h; exact ⟨by cases p <;> simp [good, h1, h2], hV⟩
    · split at h
      · cases h; exact ⟨by simp [good, h1, h2], hV⟩
      · cases h
  | lC p x m =>
    obtain ⟨h1, h2⟩ := ha
    cases h
    exact ⟨by cases p <;> simp [good, h1, h2], hV⟩
  | par =>
    obtain ⟨rfl, rfl, rfl⟩ := need_some h
    exact ⟨by simp [good, nd, NdS, htx], hV⟩
  | fn x =>
    obtain ⟨h1, h2⟩ := ha
    cases h
    exact ⟨by simp [good, h1, h2], hV⟩
  | blk => cases h; exact ⟨by simp [good], hV⟩
  | sts m =>
    change (if sg L i = [125] then _ else _) = _ at h
    split at h
    all_goals (cases h; exact ⟨by simp [good, nd, NdS], hV⟩)
  | letN =>
    obtain ⟨rfl, rfl, rfl⟩ := need_some h
    exact ⟨by simp [good, nd, NdS, htx], hV⟩
  | els =>
    change (if sg L i = _ then _ else _) = _ at h
    split at h
    all_goals (cases h; exact ⟨by simp [good, nd, NdS], hV⟩)
  | mod => cases h; exact ⟨by simp [good], hV⟩
  | modN =>
    obtain ⟨rfl, rfl, rfl⟩ := need_some h
    exact ⟨by simp [good, htx], hV⟩
  | modI a =>
    have ha' : a.length ≤ K := ha
    obtain ⟨rfl, rfl, rfl⟩ := need_some h
    exact ⟨by simp [good, nd, NdS, ha'], hV⟩
  | uses x m =>
    obtain ⟨h1, h2⟩ := ha
    change (if sg L i = _ then _ else _) = _ at h
    split at h
    all_goals (cases h; exact ⟨by simp [good, h1, h2], hV⟩)
  | useN =>
    obtain ⟨rfl, rfl, rfl⟩ := need_some h
    exact ⟨by simp [good, htx], hV⟩
  | useM a =>
    have ha' : a.length ≤ K := ha
    obtain ⟨rfl, rfl, rfl⟩ := need_some h
    exact ⟨by simp [good, ha', htx], hV⟩
  | useI a b =>
    have ha' : a.length ≤ K ∧ b.length ≤ K := ha
    obtain ⟨rfl, rfl, rfl⟩ := need_some h
    exact ⟨by simp [good, nd, NdS, ha'.1, ha'.2], hV⟩
  | funs x m =>
    obtain ⟨h1, h2⟩ := ha
    change (if sg L i = _ then _ else _) = _ at h
    split at h
    all_goals (cases h; exact ⟨by simp [good, h1, h2], hV⟩)
  | funN =>
    obtain ⟨rfl, rfl, rfl⟩ := need_some h
    exact ⟨by simp [good, nd, NdS, htx], hV⟩

/-- What is so all along. -/
def GoodC (K : Nat) : Cfg → Prop
  | .run A V _ => (∀ a ∈ A, good K a) ∧ ∀ t ∈ V, Tok K t
  | .bad _ => True
  | .fin V => ∀ t ∈ V, Tok K t
theorem step_good {K : Nat} {L : List Tk} (hL : TkS K L) {c : Cfg} (h : GoodC K c) : GoodC K (step L c) := by
  match c, h with
  | .bad i, h => exact h
  | .fin V, h => exact h
  | .run [] V i, h =>
    show GoodC K (if i = L.length then .fin V else .bad i)
    split
    · exact h.2
    · trivial
  | .run (a :: A) V i, h =>
    show GoodC K (match one L a V i with | some (B, V', j) => .run (B ++ A) V' j | none => .bad i)
    cases ho : one L a V i with
    | none => trivial
    | some x =>
      obtain ⟨B, V', j⟩ := x
      obtain ⟨h1, h2⟩ := one_good hL ho (h.1 a (List.mem_cons_self ..)) h.2
      exact ⟨fun b hb => (List.mem_append.1 hb).elim (h1 b) (fun hb => h.1 b (List.mem_cons_of_mem _ hb)), h2⟩
theorem to_good {K : Nat} {L : List Tk} (hL : TkS K L) {c d : Cfg} (h : To L c d) (hc : GoodC K c) : GoodC K d := by
  obtain ⟨n, rfl⟩ := h
  induction n generalizing c with
  | zero => exact hc
  | succ n ih => exact ih (step_good hL hc)
/-- The tree that was read. -/
theorem Leads.tok {K : Nat} {L : List Tk} (hL : TkS K L) {a : Sy} {t : List Nd} {i j : Nat} (h : Leads L [a] [] (.ok i) [] [t] (.ok j)) (ha : good K a) : Tok K t := by
  have := to_good hL (h [] []) (show GoodC K (.run ([a] ++ []) ([].reverse ++ []) i) from ⟨fun b hb => by simp at hb; rw [hb]; exact ha, fun t ht => by simp at ht⟩)
  exact this.2 t (by simp)

end Go.Proofs.YtemlceicmpcboaaGreatDoor.Pa
namespace Go.Proofs.YtemlceicmpcboaaGreatDoor.Pa
open Go.RowKit Dk Lx Tr

theorem tks_any (L : List Tk) : ∃ K, TkS K L := by
  induction L with
  | nil => exact ⟨0, fun t ht => by cases ht⟩
  | cons a L ih =>
    obtain ⟨K, hK⟩ := ih
    refine ⟨max K a.text.length, fun t ht => ?_⟩
    rcases List.mem_cons.1 ht with rfl | ht
    · exact Nat.le_max_right _ _
    · exact Nat.le_trans (hK t ht) (Nat.le_max_left _ _)
theorem br_whole {W : World} {X : Nat → Prop} {b : Nat} {t : List Nd} (h : Br W X b t) : endW 1 (kidsOf t) = some t.length := by
  induction h with
  | mk b x k v cs hc ht hb hX hr hs ih =>
    show endW (0 + 1) (((cs.map (·.2)).length : Int) :: kidsOf (cs.map (·.2)).flatten) = some ((cs.map (·.2)).flatten.length + 1)
    rw [endW_cons, if_neg (by omega), Nat.zero_add, Int.toNat_natCast, whole_many (cs.map (·.2)) (fun t ht => by
      obtain ⟨c, hc, rfl⟩ := List.mem_map.1 ht
      exact ih c hc)]
    rfl
/-- Its node. -/
theorem br_cells {W : World} {X : Nat → Prop} {b : Nat} {t : List Nd} (h : Br W X b t) : ∃ y r, t = y :: r ∧ W.cell? ⟨b, 0, none⟩ = some (.int .i64 y.kind) ∧ W.cell? ⟨b, 2, none⟩ = some (.string (strOf y.name)) := by
  cases h with
  | mk b x k v cs hc ht hb hX hr hs => exact ⟨_, _, rfl, hc 0 _ rfl, hc 2 _ rfl⟩
/-- The two kids of an index. -/
theorem br_two {W : World} {X : Nat → Prop} {b : Nat} {y : Nd} {r : List Nd} (h : Br W X b (y :: r)) (hk : y.kids = 2) :
    ∃ c r0 o0 b0 b1, W.cell? ⟨b, 5, none⟩ = some (.slice (some ⟨r0, o0, none⟩) 2 c) ∧ W.cell? ⟨r0, o0, none⟩ = some (ptr b0) ∧ W.cell? ⟨r0, o0 + 1, none⟩ = some (ptr b1) ∧ r0 < W.heap.size ∧ ¬X r0 ∧ Br W X b0 (r.take (firstZ r)) ∧ Br W X b1 (r.drop (firstZ r)) := by
  generalize ht : y :: r = t at h
  cases h with
  | mk b x k v cs hc hroom hb hX hr hs =>
    unfold join at ht
    injection ht with h1 h2
    have hl : cs.length = 2 := by
      have : y.kids = ((cs.map (·.2)).length : Int) := by rw [h1]
      rw [hk] at this
      simp at this
      omega
    match cs, hl with
    | [(b0, t0), (b1, t1)], _ =>
      obtain ⟨p, c, hv, hcap, h0 | ⟨r0, o0, hp, hr0, hX0, hrow⟩⟩ := hr
      · cases h0
      · have e0 : r = t0 ++ t1 := by rw [h2]; simp
        have w0 := br_whole (hs (b0, t0) (by simp))
        have hz : firstZ r = t0.length := by
          unfold firstZ
          have e : kidsOf r = kidsOf t0 ++ kidsOf t1 := by rw [e0]; simp [kidsOf]
          rw [e, endW_app _ _ _ _ w0]; rfl
        refine ⟨c, r0, o0, b0, b1, ?_, ?_, ?_, hr0, hX0, ?_, ?_⟩
        · have := hc 5 _ rfl
          rw [hv, hp] at this
          exact this
        · exact hrow 0 _ rfl
        · exact hrow 1 _ rfl
        · rw [hz, e0, List.take_left']
          · exact hs (b0, t0) (by simp)
          · rfl
        · rw [hz, e0, List.drop_left']
          · exact hs (b1, t1) (by simp)
          · rfl
theorem sb_kind {W : World} {X : Nat → Prop} {b : Nat} {t : List Nd} {s : St} (h : SB W X b t s) : ∃ k, W.cell? ⟨b, 0, none⟩ = some (.int .i64 k) ∧ ∀ i, s = .ok i → ∃ y r, t = y :: r ∧ y.kind = k := by
  cases s with
  | ok i =>
    obtain ⟨y, r, rfl, h0, -⟩ := br_cells h
    exact ⟨_, h0, fun _ _ => ⟨y, r, rfl, rfl⟩⟩
  | bad k => exact ⟨_, h.2.2.choose_spec, fun _ hi => by cases hi⟩

theorem asg_do {L : List Tk} (t : List Nd) {s : St} (h : sgS L s ≠ [61]) : Leads L [.asg] [t] s [.mark [59], .mk (nd 17) 1] [t] s := by
  cases s with
  | bad k => exact rfl
  | ok j => exact .yes (fun V => by
      change (if sg L j = [61] then _ else some ([Sy.mark [59], .mk (nd 17) 1], t :: V, j)) = _
      exact if_neg h)
theorem asg_no {L : List Tk} {y : Nd} {r : List Nd} {j : Nat} {B : List Sy} {ts : List (List Nd)} (h : sg L j = [61]) (h1 : y.kind ≠ 21) (h2 : y.kind ≠ 26) : Leads L [.asg] [y :: r] (.ok j) B ts (.bad j) := .no (fun V => by
  change (if sg L j = [61] then (if y.kind = 21 then some _ else if y.kind = 26 then some _ else none) else _) = _
  rw [if_pos h, if_neg h1, if_neg h2])
theorem asg_name {L : List Tk} {y : Nd} {r : List Nd} {j : Nat} (h : sg L j = [61]) (h1 : y.kind = 21) : Leads L [.asg] [y :: r] (.ok j) [.e 0, .mark [59], .mk { nd 7 with name := y.name } 1] [] (.ok (j + 1)) := .yes (fun V => by
  change (if sg L j = [61] then (if y.kind = 21 then some _ else if y.kind = 26 then some _ else none) else _) = _
  rw [if_pos h, if_pos h1]; rfl)
theorem asg_index {L : List Tk} {y : Nd} {r : List Nd} {j : Nat} (h : sg L j = [61]) (h1 : y.kind = 26) : Leads L [.asg] [y :: r] (.ok j) [.e 0, .mark [59], .mk (nd 8) 3] [r.take (firstZ r), r.drop (firstZ r)] (.ok (j + 1)) := .yes (fun V => by
  change (if sg L j = [61] then (if y.kind = 21 then some _ else if y.kind = 26 then some _ else none) else _) = _
  rw [if_pos h, if_neg (by rw [h1]; decide), if_pos h1]; rfl)

end Go.Proofs.YtemlceicmpcboaaGreatDoor.Pa
namespace Go.Proofs.YtemlceicmpcboaaGreatDoor.Pa
open Go.RowKit Dk Lx Tr

theorem strict_of {L : List Tk} {i0 : Nat} {q : List UInt8} {s s' : St} (h : s' = markS L q s) (hle : i0 ≤ nx L s) : ∀ i j, (St.ok i0) = .ok i → s' = .ok j → i < j := by
  intro i j hi hj
  cases hi
  obtain ⟨a, rfl, rfl⟩ := mark_ok h j hj
  exact Nat.lt_succ_of_le hle

set_option maxHeartbeats 8000000 in
set_option maxRecDepth 100000 in
theorem exprStmt_rd (L : List Tk) (n : Nat) (hE : RdN L 203 [.e 0] n) (s : St) (hs : mu L s < n) (g : Nat) (vt : Value) (w : World) (h : PS L g vt w s) :
    Calls Tryz.prog 202 #[ptr g] w fun e w' => ∃ b t s', RdOk L g vt [.e 0, .asg] s w e w' b t s' ∧ ∀ i j, s = .ok i → s' = .ok j → i < j := by
  have HE := Lib.hid hE
  have H0 := Lib.hid (On.start h)
  have HLT := Lib.hid h.lt
  have HMU := Lib.hid hs
  have E1 := Lib.hid (hE s hs)
  have G := Lib.hid (fun p W => grow_any (nd 17) p 1 1 W)
  unfold nd Nd.cells at G
  clear hE hs h
  go_enter Tryz.func202, Tryz.ntmps202
  go_wp2_with fail
  refine (E1.out g vt w H0.out.ps).mono ?_
  rintro e w1 ⟨b, t, s1, hk⟩
  obtain ⟨rfl, hl, hps, honly, hbr, hle⟩ := hk
  have H1 := Lib.hid (H0.out.call hps honly)
  have B1 : Hid (SB w1 (fun k => k < w.heap.size) b t s1) := Lib.hid hbr
  have HL1 : Hid (Leads L [.e 0, .asg] [] s [.asg] [t] s1) := Lib.hid (by
    have := hl.over [.asg] []
    exact this)
  have HT : Hid (∀ i, s1 = .ok i → ∃ K, Tok K t) := Lib.hid (fun i hi => by
    subst hi
    obtain ⟨j, rfl⟩ := hl.aft i rfl
    obtain ⟨K, hK⟩ := tks_any L
    exact ⟨K, hl.tok hK trivial⟩)
  have HLE1 := Lib.hid hle
  have HAF1 := Lib.hid hl.aft
  have HM1 := Lib.hid (Nat.lt_of_le_of_lt (mu_le hl.aft hle) HMU.out)
  clear hl hps honly hbr hle E1 HMU
  go_wp2_with fail
  refine (G.out _ _).mono ?_
  rintro e w2 ⟨bs, rfl, hb, hB, hbel⟩
  have hb2 : Below w1.heap.size w1 w2 := ((Below.refl _ _).alloc (Nat.le_refl _) (.cells #[ptr b] 76)).trans (hbel.mono (by simp))
  have H2 := Lib.hid (H1.out.below hb2)
  have B2 := Lib.hid (SB.below B1.out hb2)
  have F2 : Hid (SB w2 (fun k => k < w.heap.size) bs (join (nd 17) [t]) s1) := Lib.hid (sb_node (cs := [(b, t)]) hB (by have := (H1.out.alloc (.cells #[ptr b] 76)).only.size; omega) (LR.below (LR.lit (cs := [(b, t)]) (Kids.add (cs := []) (Kids.nil _ _ _) B1.out) H1.out.only.size rfl rfl (by decide)) hbel))
  clear hb hB hbel hb2 G B1 H1
  obtain ⟨k, hk0, hky⟩ := sb_kind B2.out
  have HKY := Lib.hid hky
  clear hky
  by_cases hyes : sgS L s1 = [61] ∧ (k = 21 ∨ k = 26)
  · obtain ⟨hq, hk⟩ := hyes
    obtain ⟨j, rfl, hj, hjl⟩ := sgS_ok hq (by decide)
    obtain ⟨y, r, rfl, hyk⟩ := HKY.out j rfl
    have A := Lib.hid (accept_yes [61] H2.out.ps (by decide) hj)
    have hmu : mu L (.ok (j + 1)) < n := Nat.lt_trans (mu_next hjl) HM1.out
    have E2 := Lib.hid (HE.out (.ok (j + 1)) hmu)
    have HJS : Hid (∀ i, s = .ok i → i ≤ j) := Lib.hid (fun i hi => by have h := HLE1.out; rw [hi] at h; exact h)
    obtain ⟨js, rfl⟩ := HAF1.out j rfl
    have HJ0 := Lib.hid (HJS.out js rfl)
    rcases hk with rfl | rfl
    · have HL2 := Lib.hid (HL1.out.trans (asg_name hj hyk))
      obtain ⟨y', r', e', -, hnm⟩ := br_cells B2.out
      cases e'
      have HNM := Lib.hid hnm
      have HBB := Lib.hid (Br.lt B2.out)
      have G2 : Hid (∀ (p : Option Addr) (W : World), Calls Tryz.prog 67 #[.agg #[.int .i64 7, .int .i64 0, .string (strOf y.name), .int .i64 0, .string ⟨#[]⟩], .slice p 1 1] W fun e w' => ∃ b, e = .returned (ptr b) ∧ W.heap.size ≤ b ∧ BB w' b ⟨7, 0, y.name, 0, []⟩ 0 (.slice p 1 1) ∧ Below W.heap.size W w') := Lib.hid (fun p W => grow_any ⟨7, 0, y.name, 0, []⟩ p 1 1 W)
      clear hq hj hjl hmu hyk HL1 hnm HJS HM1 HE
      generalize y.name = nm at *
      go_wp2_with fail
      refine A.out.mono ?_
      rintro e w3 ⟨rfl, hp, ho⟩
      have H3 := Lib.hid (H2.out.call hp ho)
      have HQ3 : Hid (∀ W W', Only (fun k => k = g) W W' → b < W.heap.size → W.cell? ⟨b, 2, none⟩ = some (.string (strOf nm)) → W'.cell? ⟨b, 2, none⟩ = some (.string (strOf nm)) ∧ b < W'.heap.size) := Lib.hid (fun W W' hO h1 h3 =>
        ⟨(World.cell?_of_block (a := ⟨b, 2, none⟩) (hO.block b h1 (by have := HBB.out.2; have := HLT.out; omega))).trans h3, Nat.lt_of_lt_of_le h1 hO.size⟩)
      have HQW3 := Lib.hid (HQ3.out _ _ ho HBB.out.1 HNM.out)
      have hnm3 := HQW3.out.1
      clear hp ho A hk0
      go_upto_region 4 with fail
      go_region_held3 (fun W => W.cell? ⟨b, 2, none⟩ = some (.string (strOf nm))) (first | assumption | exact hnm3 | exact hnm4 | exact hnm5 | exact hnm6) (first
        | (go_at_call 203; refine (E2.out g vt _ (H3.out.below (Below.refl _ _).drew).ps).mono ?_; rintro e w4 ⟨b', t', s4, hk⟩; obtain ⟨rfl, hl, hps, honly, hbr, hle⟩ := hk; have H4 := Lib.hid ((H3.out.below (Below.refl _ _).drew).call hps honly); have HQW4 := Lib.hid (HQ3.out w3 _ ((Only.refl (fun k => k = g) w3).drew.trans honly (fun _ _ h => h)) HQW3.out.2 hnm3); have hnm4 := HQW4.out.1; have HK4 := Lib.hid (And.intro hl (And.intro hbr hle)); have HQW5 := Lib.hid (HQ3.out w4 (w4.alloc (.cells #[ptr b'] 76)) (Only.of_below ((Below.refl _ _).alloc (Nat.le_refl _) _)) HQW4.out.2 hnm4); have hnm5 := HQW5.out.1; clear hl hps honly hbr hle)
        | (go_at_call 67; refine (G2.out _ _).mono ?_; rintro e w6 ⟨b6, rfl, hb, hB, hbel⟩; have HG := Lib.hid (And.intro hb (And.intro hB hbel)); have hnm6 := (HQ3.out _ _ (Only.of_below hbel) HQW5.out.2 hnm5).1; clear hb hB hbel))
      have O6 := Lib.hid ((H4.out.alloc (.cells #[ptr b'] 76)).below HG.out.2.2)
      have S6 : Hid (SB w6 (fun k => k < w.heap.size) b6 (join { nd 7 with name := nm } [t']) s4) := Lib.hid (sb_node (cs := [(b', t')]) HG.out.2.1 (by have := (H4.out.alloc (.cells #[ptr b'] 76)).only.size; have := HG.out.1; omega) (LR.below (LR.lit (cs := [(b', t')]) (Kids.add (cs := []) (Kids.nil _ _ _) (SB.weaken HK4.out.2.1 (fun i _ hi => by have := H3.out.only.size; exact Nat.lt_of_lt_of_le hi this))) H4.out.only.size rfl rfl (by decide)) HG.out.2.2))
      have HL6 : Hid (Leads L [.e 0, .asg] [] (.ok js) [] [join { nd 7 with name := nm } [t']] (markS L [59] s4)) := Lib.hid (HL2.out.trans ((by
        have := HK4.out.1.over [.mark [59], .mk { nd 7 with name := nm } 1] []
        exact this : Leads L [.e 0, .mark [59], .mk { nd 7 with name := nm } 1] [] (.ok (j + 1)) [.mark [59], .mk { nd 7 with name := nm } 1] [t'] s4).trans ((by
        have := (Leads.mark (L := L) [59] s4).over [.mk { nd 7 with name := nm } 1] [t']
        exact this : Leads L [.mark [59], .mk { nd 7 with name := nm } 1] [t'] s4 [.mk { nd 7 with name := nm } 1] [t'] (markS L [59] s4)).trans (Leads.mk _ [t'] 1 rfl _))))
      have X := Lib.hid (fun W (hp : PS L g vt W s4) => expect_any [59] hp (by decide))
      have HAF : Hid (Aft s4 (markS L [59] s4)) := Lib.hid (Leads.mark (L := L) [59] s4).aft
      have HLX : Hid (js ≤ nx L s4) := Lib.hid (Nat.le_trans HJ0.out (Nat.le_trans (Nat.le_succ j) HK4.out.2.2))
      have HLE : Hid (js ≤ nx L (markS L [59] s4)) := Lib.hid (Nat.le_trans HLX.out (mark_le [59] H4.out.ps.le))
      have HST : Hid (∀ i j, (St.ok js) = .ok i → markS L [59] s4 = .ok j → i < j) := Lib.hid (strict_of rfl HLX.out)
      generalize markS L [59] s4 = s9 at *
      go_wp2_with fail
      refine (X.out _ O6.out.ps).mono ?_
      rintro e v9 ⟨rfl, hp, ho⟩
      have O9 := Lib.hid (O6.out.call hp ho)
      have S9 := Lib.hid (SB.aft (SB.call S6.out ho HLT.out) HAF.out)
      clear hp ho
      go_wp2
      go_ret
      exact ⟨b6, _, s9, ⟨rfl, HL6.out, O9.out.ps, O9.out.only, S9.out, HLE.out⟩, HST.out⟩
    · have HL2 := Lib.hid (HL1.out.trans (asg_index hj hyk))
      obtain ⟨K, hK⟩ := HT.out j rfl
      obtain ⟨c, r0, o0, b0, b1, c5, d0, d1, hr0, hX0, hb0, hb1⟩ := br_two B2.out ((hK.nodes y (List.mem_cons_self ..)).1 hyk)
      have HC := Lib.hid (And.intro c5 (And.intro d0 d1))
      have HBB := Lib.hid (Br.lt B2.out)
      have HR0 : Hid (r0 < w2.heap.size ∧ r0 ≠ g) := Lib.hid ⟨hr0, by have := HLT.out; omega⟩
      have HB0 : Hid (SB w2 (fun k => k < w.heap.size) b0 (r.take (firstZ r)) (.ok j)) := Lib.hid hb0
      have HB1 : Hid (SB w2 (fun k => k < w.heap.size) b1 (r.drop (firstZ r)) (.ok j)) := Lib.hid hb1
      have G2 := Lib.hid (fun p W => grow_any (nd 8) p 3 3 W)
      unfold nd Nd.cells at G2
      clear hq hj hjl hmu hyk HL1 HJS HM1 HE hK c5 d0 d1 hr0 hX0 hb0 hb1
      generalize r.take (firstZ r) = t0 at *
      generalize r.drop (firstZ r) = t1 at *
      go_wp2_with fail
      refine A.out.mono ?_
      rintro e w3 ⟨rfl, hp, ho⟩
      have H3 := Lib.hid (H2.out.call hp ho)
      have HQ3 : Hid (∀ W W', Only (fun k => k = g) W W' → b < W.heap.size → r0 < W.heap.size → (W.cell? ⟨b, 5, none⟩ = some (.slice (some ⟨r0, o0, none⟩) 2 c) ∧ W.cell? ⟨r0, o0, none⟩ = some (ptr b0) ∧ W.cell? ⟨r0, o0 + 1, none⟩ = some (ptr b1)) → (W'.cell? ⟨b, 5, none⟩ = some (.slice (some ⟨r0, o0, none⟩) 2 c) ∧ W'.cell? ⟨r0, o0, none⟩ = some (ptr b0) ∧ W'.cell? ⟨r0, o0 + 1, none⟩ = some (ptr b1)) ∧ b < W'.heap.size ∧ r0 < W'.heap.size) := Lib.hid (fun W W' hO h1 h2 h3 => by
        have e1 := hO.block b h1 (by have := HBB.out.2; have := HLT.out; omega)
        have e2 := hO.block r0 h2 HR0.out.2
        exact ⟨⟨(World.cell?_of_block (a := ⟨b, 5, none⟩) e1).trans h3.1, (World.cell?_of_block (a := ⟨r0, o0, none⟩) e2).trans h3.2.1, (World.cell?_of_block (a := ⟨r0, o0 + 1, none⟩) e2).trans h3.2.2⟩, Nat.lt_of_lt_of_le h1 hO.size, Nat.lt_of_lt_of_le h2 hO.size⟩)
      have HQW3 := Lib.hid (HQ3.out _ _ ho HBB.out.1 HR0.out.1 HC.out)
      have B03 := Lib.hid (SB.aft (SB.call HB0.out ho HLT.out) (s' := .ok (j + 1)) (fun _ _ => ⟨j, rfl⟩))
      have B13 := Lib.hid (SB.aft (SB.call HB1.out ho HLT.out) (s' := .ok (j + 1)) (fun _ _ => ⟨j, rfl⟩))
      have hq3 := HQW3.out.1
      clear hp ho A hk0
      go_upto_region 6 with fail
      go_region_held3 (fun W => W.cell? ⟨b, 5, none⟩ = some (.slice (some ⟨r0, o0, none⟩) 2 c) ∧ W.cell? ⟨r0, o0, none⟩ = some (ptr b0) ∧ W.cell? ⟨r0, o0 + 1, none⟩ = some (ptr b1)) (first | assumption | exact hq3 | exact hq4 | exact hq5 | exact hq6) (first
        | (go_at_call 203; refine (E2.out g vt _ (H3.out.below (Below.refl _ _).drew).ps).mono ?_; rintro e w4 ⟨b', t', s4, hk⟩; obtain ⟨rfl, hl, hps, honly, hbr, hle⟩ := hk; have H4 := Lib.hid ((H3.out.below (Below.refl _ _).drew).call hps honly); have HQW4 := Lib.hid (HQ3.out w3 _ ((Only.refl (fun k => k = g) w3).drew.trans honly (fun _ _ h => h)) HQW3.out.2.1 HQW3.out.2.2 hq3); have hq4 := HQW4.out.1; have B04 := Lib.hid (SB.aft (SB.call (SB.below B03.out (Below.refl _ _).drew) honly HLT.out) hl.aft); have B14 := Lib.hid (SB.aft (SB.call (SB.below B13.out (Below.refl _ _).drew) honly HLT.out) hl.aft); have HK4 := Lib.hid (And.intro hl (And.intro hbr hle)); have HQW5 := Lib.hid (HQ3.out w4 (w4.alloc (.cells #[ptr b0, ptr b1, ptr b'] 76)) (Only.of_below ((Below.refl _ _).alloc (Nat.le_refl _) _)) HQW4.out.2.1 HQW4.out.2.2 hq4); have hq5 := HQW5.out.1; clear hl hps honly hbr hle)
        | (go_at_call 67; refine (G2.out _ _).mono ?_; rintro e w6 ⟨b6, rfl, hb, hB, hbel⟩; have HG := Lib.hid (And.intro hb (And.intro hB hbel)); have hq6 := (HQ3.out _ _ (Only.of_below hbel) HQW5.out.2.1 HQW5.out.2.2 hq5).1; clear hb hB hbel))
      have O6 := Lib.hid ((H4.out.alloc (.cells #[ptr b0, ptr b1, ptr b'] 76)).below HG.out.2.2)
      have S6 : Hid (SB w6 (fun k => k < w.heap.size) b6 (join (nd 8) [t0, t1, t']) s4) := Lib.hid (sb_node (cs := [(b0, t0), (b1, t1), (b', t')]) HG.out.2.1 (by have := (H4.out.alloc (.cells #[ptr b0, ptr b1, ptr b'] 76)).only.size; have := HG.out.1; omega) (LR.below (LR.lit (cs := [(b0, t0), (b1, t1), (b', t')]) (Kids.add (cs := [(b0, t0), (b1, t1)]) (Kids.add (cs := [(b0, t0)]) (Kids.add (cs := []) (Kids.nil _ _ _) B04.out) B14.out) (SB.weaken HK4.out.2.1 (fun i _ hi => by have := H3.out.only.size; exact Nat.lt_of_lt_of_le hi this))) H4.out.only.size rfl rfl (by decide)) HG.out.2.2))
      have HL6 : Hid (Leads L [.e 0, .asg] [] (.ok js) [] [join (nd 8) [t0, t1, t']] (markS L [59] s4)) := Lib.hid (HL2.out.trans ((by
        have := HK4.out.1.over [.mark [59], .mk (nd 8) 3] [t0, t1]
        exact this : Leads L [.e 0, .mark [59], .mk (nd 8) 3] [t0, t1] (.ok (j + 1)) [.mark [59], .mk (nd 8) 3] [t0, t1, t'] s4).trans ((by
        have := (Leads.mark (L := L) [59] s4).over [.mk (nd 8) 3] [t0, t1, t']
        exact this : Leads L [.mark [59], .mk (nd 8) 3] [t0, t1, t'] s4 [.mk (nd 8) 3] [t0, t1, t'] (markS L [59] s4)).trans (Leads.mk _ [t0, t1, t'] 3 rfl _))))
      have X := Lib.hid (fun W (hp : PS L g vt W s4) => expect_any [59] hp (by decide))
      have HAF : Hid (Aft s4 (markS L [59] s4)) := Lib.hid (Leads.mark (L := L) [59] s4).aft
      have HLX : Hid (js ≤ nx L s4) := Lib.hid (Nat.le_trans HJ0.out (Nat.le_trans (Nat.le_succ j) HK4.out.2.2))
      have HLE : Hid (js ≤ nx L (markS L [59] s4)) := Lib.hid (Nat.le_trans HLX.out (mark_le [59] H4.out.ps.le))
      have HST : Hid (∀ i j, (St.ok js) = .ok i → markS L [59] s4 = .ok j → i < j) := Lib.hid (strict_of rfl HLX.out)
      generalize markS L [59] s4 = s9 at *
      go_wp2_with fail
      refine (X.out _ O6.out.ps).mono ?_
      rintro e v9 ⟨rfl, hp, ho⟩
      have O9 := Lib.hid (O6.out.call hp ho)
      have S9 := Lib.hid (SB.aft (SB.call S6.out ho HLT.out) HAF.out)
      clear hp ho
      go_wp2
      go_ret
      exact ⟨b6, _, s9, ⟨rfl, HL6.out, O9.out.ps, O9.out.only, S9.out, HLE.out⟩, HST.out⟩
  · have HL6 : Hid (Leads L [.e 0, .asg] [] s [] [join (nd 17) [t]] (markS L [59] s1)) := Lib.hid (HL1.out.trans (by
      by_cases hq : sgS L s1 = [61]
      · obtain ⟨j, rfl, hj, hjl⟩ := sgS_ok hq (by decide)
        obtain ⟨y, r, rfl, hyk⟩ := HKY.out j rfl
        rw [show markS L [59] (.ok j) = .bad j from if_neg (by rw [hj]; decide)]
        exact asg_no hj (fun e => hyes ⟨hq, .inl (hyk ▸ e)⟩) (fun e => hyes ⟨hq, .inr (hyk ▸ e)⟩)
      · refine (asg_do t hq).trans ((by
          have := (Leads.mark (L := L) [59] s1).over [.mk (nd 17) 1] [t]
          exact this : Leads L [.mark [59], .mk (nd 17) 1] [t] s1 [.mk (nd 17) 1] [t] (markS L [59] s1)).trans (Leads.mk _ [t] 1 rfl _))))
    have A : Hid (k = 21 ∨ k = 26 → ∀ W, PS L g vt W s1 → Calls Tryz.prog 70 #[ptr g, .string (strOf [61])] W fun e w' => e = .returned (.bool false) ∧ Below W.heap.size W w') := Lib.hid (fun hk W hp => accept_no [61] hp (fun e => hyes ⟨e, hk⟩))
    have X := Lib.hid (fun W (hp : PS L g vt W s1) => expect_any [59] hp (by decide))
    have HAF : Hid (Aft s1 (markS L [59] s1)) := Lib.hid (Leads.mark (L := L) [59] s1).aft
    have HLE : Hid (nx L s ≤ nx L (markS L [59] s1)) := Lib.hid (Nat.le_trans HLE1.out (mark_le [59] H2.out.ps.le))
    have HST : Hid (∀ i j, s = .ok i → markS L [59] s1 = .ok j → i < j) := Lib.hid (fun i j hi hj => by
      have h1 := HLE1.out
      rw [hi] at h1
      exact strict_of rfl h1 i j rfl hj)
    have HBB := Lib.hid (SB.lt B2.out)
    generalize markS L [59] s1 = s9 at *
    clear hyes HL1
    by_cases k1 : k = 21
    · subst k1
      have A1 := Lib.hid (A.out (.inl rfl))
      go_wp2_with fail
      refine (A1.out _ H2.out.ps).mono ?_
      rintro e w3 ⟨rfl, hb⟩
      have H3 := Lib.hid (H2.out.below hb)
      have F3 := Lib.hid (SB.below F2.out hb)
      have hk3 := (World.cell?_of_block (a := ⟨b, 0, none⟩) (hb.block b HBB.out.1)).trans hk0
      clear hb hk0
      go_wp2_with fail
      refine (X.out _ H3.out.ps).mono ?_
      rintro e v9 ⟨rfl, hp, ho⟩
      have O9 := Lib.hid (H3.out.call hp ho)
      have S9 := Lib.hid (SB.aft (SB.call F3.out ho HLT.out) HAF.out)
      clear hp ho
      go_wp2
      go_ret
      exact ⟨bs, _, s9, ⟨rfl, HL6.out, O9.out.ps, O9.out.only, S9.out, HLE.out⟩, HST.out⟩
    · by_cases k2 : k = 26
      · subst k2
        have A1 := Lib.hid (A.out (.inr rfl))
        go_wp2_with fail
        refine (A1.out _ H2.out.ps).mono ?_
        rintro e w3 ⟨rfl, hb⟩
        have H3 := Lib.hid (H2.out.below hb)
        have F3 := Lib.hid (SB.below F2.out hb)
        clear hb hk0
        go_wp2_with fail
        refine (X.out _ H3.out.ps).mono ?_
        rintro e v9 ⟨rfl, hp, ho⟩
        have O9 := Lib.hid (H3.out.call hp ho)
        have S9 := Lib.hid (SB.aft (SB.call F3.out ho HLT.out) HAF.out)
        clear hp ho
        go_wp2
        go_ret
        exact ⟨bs, _, s9, ⟨rfl, HL6.out, O9.out.ps, O9.out.only, S9.out, HLE.out⟩, HST.out⟩
      · have z1 : (k == 21) = false := beq_false_of_ne k1
        have z2 : (k == 26) = false := beq_false_of_ne k2
        go_wp2_with fail
        refine (X.out _ H2.out.ps).mono ?_
        rintro e v9 ⟨rfl, hp, ho⟩
        have O9 := Lib.hid (H2.out.call hp ho)
        have S9 := Lib.hid (SB.aft (SB.call F2.out ho HLT.out) HAF.out)
        clear hp ho
        go_wp2
        go_ret
        exact ⟨bs, _, s9, ⟨rfl, HL6.out, O9.out.ps, O9.out.only, S9.out, HLE.out⟩, HST.out⟩

end Go.Proofs.YtemlceicmpcboaaGreatDoor.Pa
namespace Go.Proofs.YtemlceicmpcboaaGreatDoor.Pa
open Go.RowKit Dk Lx Tr

set_option maxHeartbeats 1000000 in
set_option maxRecDepth 100000 in
theorem kind_let (w : World) : Calls Tryz.prog 201 #[.string (strOf [108, 101, 116])] w fun e w' => e = .returned (.int .i64 6) ∧ w = w' := by
  have q0 : ((strOf [108, 101, 116]).toList == ([108, 101, 116] : List UInt8)) = true := (str_beq' _ _).trans (by decide)
  generalize strOf [108, 101, 116] = o at *
  go_enter Tryz.func201, Tryz.ntmps201
  go_wp2
  go_ret
  exact ⟨rfl, rfl⟩

set_option maxHeartbeats 1000000 in
set_option maxRecDepth 100000 in
theorem kind_if (w : World) : Calls Tryz.prog 201 #[.string (strOf [105, 102])] w fun e w' => e = .returned (.int .i64 9) ∧ w = w' := by
  have q0 : ((strOf [105, 102]).toList == ([108, 101, 116] : List UInt8)) = false := (str_beq' _ _).trans (by decide)
  have q1 : ((strOf [105, 102]).toList == ([105, 102] : List UInt8)) = true := (str_beq' _ _).trans (by decide)
  generalize strOf [105, 102] = o at *
  go_enter Tryz.func201, Tryz.ntmps201
  go_wp2
  go_ret
  exact ⟨rfl, rfl⟩

set_option maxHeartbeats 1000000 in
set_option maxRecDepth 100000 in
theorem kind_while (w : World) : Calls Tryz.prog 201 #[.string (strOf [119, 104, 105, 108, 101])] w fun e w' => e = .returned (.int .i64 10) ∧ w = w' := by
  have q0 : ((strOf [119, 104, 105, 108, 101]).toList == ([108, 101, 116] : List UInt8)) = false := (str_beq' _ _).trans (by decide)
  have q1 : ((strOf [119, 104, 105, 108, 101]).toList == ([105, 102] : List UInt8)) = false := (str_beq' _ _).trans (by decide)
  have q2 : ((strOf [119, 104, 105, 108, 101]).toList == ([119, 104, 105, 108, 101] : List UInt8)) = true := (str_beq' _ _).trans (by decide)
  generalize strOf [119, 104, 105, 108, 101] = o at *
  go_enter Tryz.func201, Tryz.ntmps201
  go_wp2
  go_ret
  exact ⟨rfl, rfl⟩

set_option maxHeartbeats 1000000 in
set_option maxRecDepth 100000 in
theorem kind_break (w : World) : Calls Tryz.prog 201 #[.string (strOf [98, 114, 101, 97, 107])] w fun e w' => e = .returned (.int .i64 11) ∧ w = w' := by
  have q0 : ((strOf [98, 114, 101, 97, 107]).toList == ([108, 101, 116] : List UInt8)) = false := (str_beq' _ _).trans (by decide)
  have q1 : ((strOf [98, 114, 101, 97, 107]).toList == ([105, 102] : List UInt8)) = false := (str_beq' _ _).trans (by decide)
  have q2 : ((strOf [98, 114, 101, 97, 107]).toList == ([119, 104, 105, 108, 101] : List UInt8)) = false := (str_beq' _ _).trans (by decide)
  have q3 : ((strOf [98, 114, 101, 97, 107]).toList == ([98, 114, 101, 97, 107] : List UInt8)) = true := (str_beq' _ _).trans (by decide)
  generalize strOf [98, 114, 101, 97, 107] = o at *
  go_enter Tryz.func201, Tryz.ntmps201
  go_wp2
  go_ret
  exact ⟨rfl, rfl⟩

set_option maxHeartbeats 1000000 in
set_option maxRecDepth 100000 in
theorem kind_continue (w : World) : Calls Tryz.prog 201 #[.string (strOf [99, 111, 110, 116, 105, 110, 117, 101])] w fun e w' => e = .returned (.int .i64 12) ∧ w = w' := by
  have q0 : ((strOf [99, 111, 110, 116, 105, 110, 117, 101]).toList == ([108, 101, 116] : List UInt8)) = false := (str_beq' _ _).trans (by decide)
  have q1 : ((strOf [99, 111, 110, 116, 105, 110, 117, 101]).toList == ([105, 102] : List UInt8)) = false := (str_beq' _ _).trans (by decide)
  have q2 : ((strOf [99, 111, 110, 116, 105, 110, 117, 101]).toList == ([119, 104, 105, 108, 101] : List UInt8)) = false := (str_beq' _ _).trans (by decide)
  have q3 : ((strOf [99, 111, 110, 116, 105, 110, 117, 101]).toList == ([98, 114, 101, 97, 107] : List UInt8)) = false := (str_beq' _ _).trans (by decide)
  have q4 : ((strOf [99, 111, 110, 116, 105, 110, 117, 101]).toList == ([99, 111, 110, 116, 105, 110, 117, 101] : List UInt8)) = true := (str_beq' _ _).trans (by decide)
  generalize strOf [99, 111, 110, 116, 105, 110, 117, 101] = o at *
  go_enter Tryz.func201, Tryz.ntmps201
  go_wp2
  go_ret
  exact ⟨rfl, rfl⟩

set_option maxHeartbeats 1000000 in
set_option maxRecDepth 100000 in
theorem kind_yield (w : World) : Calls Tryz.prog 201 #[.string (strOf [121, 105, 101, 108, 100])] w fun e w' => e = .returned (.int .i64 16) ∧ w = w' := by
  have q0 : ((strOf [121, 105, 101, 108, 100]).toList == ([108, 101, 116] : List UInt8)) = false := (str_beq' _ _).trans (by decide)
  have q1 : ((strOf [121, 105, 101, 108, 100]).toList == ([105, 102] : List UInt8)) = false := (str_beq' _ _).trans (by decide)
  have q2 : ((strOf [121, 105, 101, 108, 100]).toList == ([119, 104, 105, 108, 101] : List UInt8)) = false := (str_beq' _ _).trans (by decide)
  have q3 : ((strOf [121, 105, 101, 108, 100]).toList == ([98, 114, 101, 97, 107] : List UInt8)) = false := (str_beq' _ _).trans (by decide)
  have q4 : ((strOf [121, 105, 101, 108, 100]).toList == ([99, 111, 110, 116, 105, 110, 117, 101] : List UInt8)) = false := (str_beq' _ _).trans (by decide)
  have q5 : ((strOf [121, 105, 101, 108, 100]).toList == ([121, 105, 101, 108, 100] : List UInt8)) = true := (str_beq' _ _).trans (by decide)
  generalize strOf [121, 105, 101, 108, 100] = o at *
  go_enter Tryz.func201, Tryz.ntmps201
  go_wp2
  go_ret
  exact ⟨rfl, rfl⟩

set_option maxHeartbeats 1000000 in
set_option maxRecDepth 100000 in
theorem kind_return (w : World) : Calls Tryz.prog 201 #[.string (strOf [114, 101, 116, 117, 114, 110])] w fun e w' => e = .returned (.int .i64 13) ∧ w = w' := by
  have q0 : ((strOf [114, 101, 116, 117, 114, 110]).toList == ([108, 101, 116] : List UInt8)) = false := (str_beq' _ _).trans (by decide)
  have q1 : ((strOf [114, 101, 116, 117, 114, 110]).toList == ([105, 102] : List UInt8)) = false := (str_beq' _ _).trans (by decide)
  have q2 : ((strOf [114, 101, 116, 117, 114, 110]).toList == ([119, 104, 105, 108, 101] : List UInt8)) = false := (str_beq' _ _).trans (by decide)
  have q3 : ((strOf [114, 101, 116, 117, 114, 110]).toList == ([98, 114, 101, 97, 107] : List UInt8)) = false := (str_beq' _ _).trans (by decide)
  have q4 : ((strOf [114, 101, 116, 117, 114, 110]).toList == ([99, 111, 110, 116, 105, 110, 117, 101] : List UInt8)) = false := (str_beq' _ _).trans (by decide)
  have q5 : ((strOf [114, 101, 116, 117, 114, 110]).toList == ([121, 105, 101, 108, 100] : List UInt8)) = false := (str_beq' _ _).trans (by decide)
  have q6 : ((strOf [114, 101, 116, 117, 114, 110]).toList == ([114, 101, 116, 117, 114, 110] : List UInt8)) = true := (str_beq' _ _).trans (by decide)
  generalize strOf [114, 101, 116, 117, 114, 110] = o at *
  go_enter Tryz.func201, Tryz.ntmps201
  go_wp2
  go_ret
  exact ⟨rfl, rfl⟩

set_option maxHeartbeats 1000000 in
set_option maxRecDepth 100000 in
theorem kind_put (w : World) : Calls Tryz.prog 201 #[.string (strOf [112, 117, 116])] w fun e w' => e = .returned (.int .i64 14) ∧ w = w' := by
  have q0 : ((strOf [112, 117, 116]).toList == ([108, 101, 116] : List UInt8)) = false := (str_beq' _ _).trans (by decide)
  have q1 : ((strOf [112, 117, 116]).toList == ([105, 102] : List UInt8)) = false := (str_beq' _ _).trans (by decide)
  have q2 : ((strOf [112, 117, 116]).toList == ([119, 104, 105, 108, 101] : List UInt8)) = false := (str_beq' _ _).trans (by decide)
  have q3 : ((strOf [112, 117, 116]).toList == ([98, 114, 101, 97, 107] : List UInt8)) = false := (str_beq' _ _).trans (by decide)
  have q4 : ((strOf [112, 117, 116]).toList == ([99, 111, 110, 116, 105, 110, 117, 101] : List UInt8)) = false := (str_beq' _ _).trans (by decide)
  have q5 : ((strOf [112, 117, 116]).toList == ([121, 105, 101, 108, 100] : List UInt8)) = false := (str_beq' _ _).trans (by decide)
  have q6 : ((strOf [112, 117, 116]).toList == ([114, 101, 116, 117, 114, 110] : List UInt8)) = false := (str_beq' _ _).trans (by decide)
  have q7 : ((strOf [112, 117, 116]).toList == ([112, 117, 116] : List UInt8)) = true := (str_beq' _ _).trans (by decide)
  generalize strOf [112, 117, 116] = o at *
  go_enter Tryz.func201, Tryz.ntmps201
  go_wp2
  go_ret
  exact ⟨rfl, rfl⟩

set_option maxHeartbeats 1000000 in
set_option maxRecDepth 100000 in
theorem kind_emit (w : World) : Calls Tryz.prog 201 #[.string (strOf [101, 109, 105, 116])] w fun e w' => e = .returned (.int .i64 15) ∧ w = w' := by
  have q0 : ((strOf [101, 109, 105, 116]).toList == ([108, 101, 116] : List UInt8)) = false := (str_beq' _ _).trans (by decide)
  have q1 : ((strOf [101, 109, 105, 116]).toList == ([105, 102] : List UInt8)) = false := (str_beq' _ _).trans (by decide)
  have q2 : ((strOf [101, 109, 105, 116]).toList == ([119, 104, 105, 108, 101] : List UInt8)) = false := (str_beq' _ _).trans (by decide)
  have q3 : ((strOf [101, 109, 105, 116]).toList == ([98, 114, 101, 97, 107] : List UInt8)) = false := (str_beq' _ _).trans (by decide)
  have q4 : ((strOf [101, 109, 105, 116]).toList == ([99, 111, 110, 116, 105, 110, 117, 101] : List UInt8)) = false := (str_beq' _ _).trans (by decide)
  have q5 : ((strOf [101, 109, 105, 116]).toList == ([121, 105, 101, 108, 100] : List UInt8)) = false := (str_beq' _ _).trans (by decide)
  have q6 : ((strOf [101, 109, 105, 116]).toList == ([114, 101, 116, 117, 114, 110] : List UInt8)) = false := (str_beq' _ _).trans (by decide)
  have q7 : ((strOf [101, 109, 105, 116]).toList == ([112, 117, 116] : List UInt8)) = false := (str_beq' _ _).trans (by decide)
  have q8 : ((strOf [101, 109, 105, 116]).toList == ([101, 109, 105, 116] : List UInt8)) = true := (str_beq' _ _).trans (by decide)
  generalize strOf [101, 109, 105, 116] = o at *
  go_enter Tryz.func201, Tryz.ntmps201
  go_wp2
  go_ret
  exact ⟨rfl, rfl⟩

set_option maxHeartbeats 1000000 in
set_option maxRecDepth 100000 in
theorem kind_else (q : List UInt8) (hq : stmtA q = none) (w : World) : Calls Tryz.prog 201 #[.string (strOf q)] w fun e w' => e = .returned (.int .i64 17) ∧ w = w' := by
  have q0 : ((strOf q).toList == ([108, 101, 116] : List UInt8)) = false := (str_beq' _ _).trans (decide_eq_false (fun e => by rw [e] at hq; exact absurd hq (by simp [stmtA])))
  have q1 : ((strOf q).toList == ([105, 102] : List UInt8)) = false := (str_beq' _ _).trans (decide_eq_false (fun e => by rw [e] at hq; exact absurd hq (by simp [stmtA])))
  have q2 : ((strOf q).toList == ([119, 104, 105, 108, 101] : List UInt8)) = false := (str_beq' _ _).trans (decide_eq_false (fun e => by rw [e] at hq; exact absurd hq (by simp [stmtA])))
  have q3 : ((strOf q).toList == ([98, 114, 101, 97, 107] : List UInt8)) = false := (str_beq' _ _).trans (decide_eq_false (fun e => by rw [e] at hq; exact absurd hq (by simp [stmtA])))
  have q4 : ((strOf q).toList == ([99, 111, 110, 116, 105, 110, 117, 101] : List UInt8)) = false := (str_beq' _ _).trans (decide_eq_false (fun e => by rw [e] at hq; exact absurd hq (by simp [stmtA])))
  have q5 : ((strOf q).toList == ([121, 105, 101, 108, 100] : List UInt8)) = false := (str_beq' _ _).trans (decide_eq_false (fun e => by rw [e] at hq; exact absurd hq (by simp [stmtA])))
  have q6 : ((strOf q).toList == ([114, 101, 116, 117, 114, 110] : List UInt8)) = false := (str_beq' _ _).trans (decide_eq_false (fun e => by rw [e] at hq; exact absurd hq (by simp [stmtA])))
  have q7 : ((strOf q).toList == ([112, 117, 116] : List UInt8)) = false := (str_beq' _ _).trans (decide_eq_false (fun e => by rw [e] at hq; exact absurd hq (by simp [stmtA])))
  have q8 : ((strOf q).toList == ([101, 109, 105, 116] : List UInt8)) = false := (str_beq' _ _).trans (decide_eq_false (fun e => by rw [e] at hq; exact absurd hq (by simp [stmtA])))
  generalize strOf q = o at *
  clear hq
  go_enter Tryz.func201, Tryz.ntmps201
  go_wp2
  go_ret
  exact ⟨rfl, rfl⟩

theorem stmt_key {L : List Tk} {j : Nat} {A : List Sy} (h : stmtA (sg L j) = some A) : Leads L [.stmt] [] (.ok j) A [] (.ok (j + 1)) := .yes (fun V => by
  change (match stmtA (sg L j) with | some A => some (A, V, j + 1) | none => some ([Sy.e 0, .asg], V, j)) = _
  rw [h]; rfl)
theorem stmt_else {L : List Tk} {s : St} (h : stmtA (sgS L s) = none) : Leads L [.stmt] [] s [.e 0, .asg] [] s := by
  cases s with
  | bad k => exact rfl
  | ok j => exact .yes (fun V => by
      change (match stmtA (sg L j) with | some A => some (A, V, j + 1) | none => some ([Sy.e 0, .asg], V, j)) = _
      rw [show stmtA (sg L j) = none from h]; rfl)

/-- What stmt's call leaves. -/
def StOk (L : List Tk) (g : Nat) (vt : Value) (s : St) (w : World) (e : Ending) (w' : World) : Prop := ∃ b t s', RdOk L g vt [.stmt] s w e w' b t s' ∧ ∀ i j, s = .ok i → s' = .ok j → i < j

end Go.Proofs.YtemlceicmpcboaaGreatDoor.Pa
