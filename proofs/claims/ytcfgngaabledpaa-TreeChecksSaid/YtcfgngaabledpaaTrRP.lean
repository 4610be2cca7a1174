/- What a module's tree that is right says of each of its nodes: plain facts. No condition but those that each states. -/
import Derived.Test.YtcfgngaabledpaaTrN
namespace Go.Proofs.Ytcfgngaabledpaa.Tr
open Go.RowKit Dk Lx

/-- A node within a tree is a kid of one that is ahead of it. -/
theorem parent {ks : List Int} {i : Nat} : ∀ (f p n : Nat), i - p ≤ f → p < i → endW 1 (ks.drop p) = some n → i < p + n → ∃ (a c m j : Nat), a < i ∧ endW 1 (ks.drop a) = some m ∧ ks[a]? = some (c : Int) ∧ j < c ∧ pos ks (a + 1) j = i
  | 0, p, n, hf, hp, _, _ => by omega
  | f + 1, p, n, hf, hp, h, hi => by
    obtain ⟨k, hk, hk0, hF, hn1⟩ := endW_node h
    obtain ⟨c, rfl⟩ : ∃ c : Nat, k = (c : Int) := ⟨k.toNat, by omega⟩
    rw [Int.toNat_natCast] at hF
    have hend : pos ks (p + 1) c = p + n := by rw [pos_end hF]; omega
    -- the kid in whose tree it lies
    have key : ∀ t, t ≤ c → i < pos ks (p + 1) t → ∃ j, j < t ∧ pos ks (p + 1) j ≤ i ∧ i < pos ks (p + 1) (j + 1) := by
      intro t
      induction t with
      | zero => intro _ h0; have : pos ks (p + 1) 0 = p + 1 := rfl; omega
      | succ t ih =>
        intro ht hlt
        by_cases hle : pos ks (p + 1) t ≤ i
        · exact ⟨t, by omega, hle, hlt⟩
        · obtain ⟨j, h1, h2, h3⟩ := ih (by omega) (by omega)
          exact ⟨j, by omega, h2, h3⟩
    obtain ⟨j, hj, h1, h2⟩ := key c (Nat.le_refl _) (by omega)
    by_cases he : pos ks (p + 1) j = i
    · exact ⟨p, c, n, j, hp, h, hk, hj, he⟩
    · obtain ⟨m, t1, t2, t3, t4⟩ := pos_tree hF hj
      have hge := (pos_at hF j (by omega)).2.2
      exact parent f _ m (by omega) (by omega) t1 (by omega)

theorem cntG_pr (pr : Int → Bool) : ∀ (h : Nat) (l : List Int) (x : Int), x ∈ l.take (cntG pr h l) → pr x = true
  | 0, l, x, hx => by rw [cntG_zero] at hx; simp at hx
  | h + 1, [], x, hx => by simp at hx
  | h + 1, y :: r, x, hx => by
    rw [cntG] at hx
    split at hx
    · rename_i hy
      rw [List.take_succ_cons] at hx
      rcases List.mem_cons.1 hx with rfl | hx
      · exact hy
      · exact cntG_pr pr h r x hx
    · simp at hx

theorem matchG_mem : ∀ (gs : List Gp) (K : List Int), matchG gs K = true → ∀ x ∈ K, ∃ g ∈ gs, g.f.pr x = true
  | [], K, h, x, hx => by
    have h' : decide (K.length = 0) = true := h
    have := of_decide_eq_true h'
    rw [List.eq_nil_of_length_eq_zero this] at hx
    cases hx
  | g :: gs, K, h, x, hx => by
    rw [matchG_cons] at h
    split at h
    · cases h
    · rw [← List.take_append_drop (cntG g.f.pr g.hi.toNat K) K] at hx
      rcases List.mem_append.1 hx with hx | hx
      · exact ⟨g, by simp, cntG_pr _ _ _ _ hx⟩
      · obtain ⟨g', h1, h2⟩ := matchG_mem gs _ h x hx
        exact ⟨g', by simp [h1], h2⟩

theorem pr_range {f : FK} {x : Int} (hf : f = .e ∨ f = .s ∨ ∃ c, f = .k c ∧ 2 ≤ c ∧ c ≤ 5) (h : f.pr x = true) : 2 ≤ x ∧ x ≤ 30 := by
  rcases hf with rfl | rfl | ⟨c, rfl, h1, h2⟩
  · have h' : isExpr x = true := h
    unfold isExpr at h'; simp at h'; omega
  · have h' : isStmt x = true := h
    unfold isStmt at h'; simp at h'; omega
  · have h' : (x == c) = true := h
    have := eq_of_beq h'
    omega

theorem groups_range (k : Int) : ∀ g ∈ groupsL k, g.f = .e ∨ g.f = .s ∨ ∃ c, g.f = .k c ∧ 2 ≤ c ∧ c ≤ 5 := by
  intro g hg
  unfold groupsL at hg
  repeat' split at hg
  all_goals
    simp only [List.mem_cons, List.not_mem_nil, or_false] at hg
  all_goals
    first
    | exact hg.elim
    | (rcases hg with rfl | rfl <;> first | exact .inl rfl | exact .inr (.inl rfl) | exact .inr (.inr ⟨_, rfl, by decide, by decide⟩))
    | (subst hg; first | exact .inl rfl | exact .inr (.inl rfl) | exact .inr (.inr ⟨_, rfl, by decide, by decide⟩))

/-- What Check's yes says. -/
theorem check_ok {ts : List Nd} (h : (checkL ts).1 = 0) : ts.length ≤ 2000 ∧ 0 < ts.length ∧ endW 1 ((kidsOf ts).drop 0) = some ts.length ∧ kindAt ts 0 = 1 ∧ ∀ i, i < ts.length → goodAt ts i = true := by
  unfold checkL at h
  split at h
  · cases h
  · rename_i h1
    split at h
    · cases h
    · rename_i h2
      split at h
      · cases h
      · split at h
        · cases h
        · rename_i h4
          split at h
          · cases h
          · rename_i h5
            have h2' : endI (kidsOf ts) 0 = (ts.length : Int) := Decidable.of_not_not h2
            have hw : ∃ n, endW 1 ((kidsOf ts).drop 0) = some n ∧ 1 ≤ n ∧ n = ts.length := by
              rcases endI_cases (kidsOf ts) 0 with e | ⟨k, n, e0, e1, e2, e3, e4⟩
              · omega
              · obtain rfl : k = 0 := by omega
                exact ⟨n, e1, e2, by omega⟩
            obtain ⟨n, e1, e2, e3⟩ := hw
            exact ⟨by omega, by omega, by rw [e1, e3], Decidable.of_not_not h4, fun i hi => scanG_none _ _ _ h5 i (Nat.zero_le _) (by omega)⟩

theorem whole_all {ks : List Int} (h : endW 1 (ks.drop 0) = some ks.length) : ∀ j, j < ks.length → ∃ n, endW 1 (ks.drop j) = some n := by
  intro j hj
  rw [List.drop_zero] at h
  obtain ⟨d, -, hd, -⟩ := tree_depth h
  cases hq : endW 1 (ks.drop j) with
  | none => exact absurd hq ((depP_some _ _ _ _ hd).2 j hj)
  | some n => exact ⟨n, rfl⟩

theorem right_node {ts : List Nd} (h : (checkL ts).1 = 0) {i : Nat} (hi : i < ts.length) : ∃ n : Nat, endI (kidsOf ts) (i : Int) = (i : Int) + n ∧ (i = 0 → ts[i].kind = 1) ∧ (0 < i → 2 ≤ ts[i].kind ∧ ts[i].kind ≤ 30) := by
  obtain ⟨h1, h2, h3, h4, h5⟩ := check_ok h
  have h3' := h3
  rw [← kidsOf_len] at h3'
  obtain ⟨n, hn⟩ := whole_all h3' i (by rw [kidsOf_len]; exact hi)
  refine ⟨n, endI_some hn, fun h0 => ?_, fun h0 => ?_⟩
  · subst h0
    unfold kindAt at h4
    simpa [hi] using h4
  · obtain ⟨a, c, m, j, ha, hm, hc, hj, hp⟩ := parent (ks := kidsOf ts) (i := i) i 0 ts.length (by omega) h0 h3 (by omega)
    have hal : a < ts.length := by omega
    have hg := h5 a hal
    unfold goodAt at hg
    rw [Bool.and_eq_true] at hg
    have hK : ts[i].kind ∈ kindsL ts (a : Int) := by
      unfold kindsL
      rw [kidsZ_some hm hc, Int.toNat_natCast]
      refine List.mem_map.2 ⟨(i : Int), ?_, ?_⟩
      · unfold posZ
        exact List.mem_map.2 ⟨i, List.mem_map.2 ⟨j, List.mem_range.2 hj, hp⟩, rfl⟩
      · unfold kindAt; simp [hi]
    obtain ⟨g, hg1, hg2⟩ := matchG_mem _ _ hg.2 _ hK
    exact pr_range (groups_range _ g hg1) hg2

/-- A node less, or one more, makes it wrong. -/
theorem check_less {ts : List Nd} (h : (checkL ts).1 = 0) : (checkL (ts.take (ts.length - 1))).1 ≠ 0 := by
  obtain ⟨h1, h2, h3, h4, h5⟩ := check_ok h
  intro h0
  obtain ⟨g1, g2, g3, -, -⟩ := check_ok h0
  rw [List.drop_zero] at h3 g3
  have hl : (ts.take (ts.length - 1)).length = ts.length - 1 := by rw [List.length_take]; omega
  rw [hl] at g3
  have := endW_cut h3 (m := ts.length - 1) (by omega) (by rw [kidsOf_len]; omega)
  have e : kidsOf (ts.take (ts.length - 1)) = (kidsOf ts).take (ts.length - 1) := by unfold kidsOf; rw [List.map_take]
  rw [e, this] at g3
  cases g3
theorem check_more {ts : List Nd} (h : (checkL ts).1 = 0) (x : Nd) : (checkL (ts ++ [x])).1 ≠ 0 := by
  obtain ⟨h1, h2, h3, h4, h5⟩ := check_ok h
  intro h0
  obtain ⟨g1, g2, g3, -, -⟩ := check_ok h0
  rw [List.drop_zero] at h3 g3
  have e : kidsOf (ts ++ [x]) = kidsOf ts ++ kidsOf [x] := by unfold kidsOf; rw [List.map_append]
  have := endW_app _ (kidsOf [x]) _ _ h3
  rw [e, this, List.length_append] at g3
  have := Option.some.inj g3
  simp at this

end Go.Proofs.Ytcfgngaabledpaa.Tr
