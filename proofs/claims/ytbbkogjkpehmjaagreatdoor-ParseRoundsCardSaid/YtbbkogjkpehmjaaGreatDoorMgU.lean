/- The texts of the law ParseRounds. What comes of an expression in brackets: the law ParseRounds, in plain. The walk of the law ParseRounds. No condition but those that each states. -/
import Derived.Test.YtbbkogjkpehmjaaGreatDoorMgQ
import Derived.Test.YtbbkogjkpehmjaaGreatDoorPdN
namespace Go.Proofs.YtbbkogjkpehmjaaGreatDoor.Pa
open Go.RowKit Go.Shelf Dk Lx Tr

def hrB : List UInt8 := [109, 111, 100, 117, 108, 101, 32, 109, 32, 49, 59, 32, 102, 110, 32, 102, 40, 41, 32, 123, 32, 114, 101, 116, 117, 114, 110]
def endB : List UInt8 := [59, 32, 125]
def endT : List Tk := [⟨4, [59], 0, 0⟩, ⟨4, [125], 0, 2⟩]
theorem hr_scan : scanL 0 hrB = .toks (toksOf hrB) := by decide +kernel
theorem hr_len : (toksOf hrB).length = 10 := by decide +kernel
theorem hr_free : ∀ c ∈ hrB, c.toNat ≠ 35 := by decide
theorem end_scan : scanL 0 endB = .toks endT := by decide +kernel
theorem end_at (q : Nat) : scanL q endB = .toks (endT.map (moved ((q : Int) - ((0 : Nat) : Int)))) := scans_iff.2 ((scans_iff.1 end_scan).move q)

def segB (L : List Tk) (q : Nat) : Nat → List Sy → List (List Nd) → Nat → Option (List Sy × List (List Nd) × Nat)
  | 0, A, V, i => some (A, V, i)
  | _ + 1, [], _, _ => none
  | n + 1, a :: A, V, i => if i < q then match one L a V i with
    | some (B, V', j) => segB L q n (B ++ A) V' j
    | none => none else none
theorem segB_seg {L : List Tk} {q : Nat} : ∀ (n : Nat) {A A1 : List Sy} {V V1 : List (List Nd)} {i j : Nat}, segB L q n A V i = some (A1, V1, j) → Seg L q A V i A1 V1 j
  | 0, A, A1, V, V1, i, j, h => by cases h; exact .here _ _ _
  | n + 1, [], A1, V, V1, i, j, h => by cases h
  | n + 1, a :: A, A1, V, V1, i, j, h => by
    have h' : (if i < q then match one L a V i with
      | some (B, V', j) => segB L q n (B ++ A) V' j
      | none => none else none) = some (A1, V1, j) := h
    split at h'
    · rename_i hq
      cases ho : one L a V i with
      | none => rw [ho] at h'; cases h'
      | some x =>
        obtain ⟨B, V', k⟩ := x
        rw [ho] at h'
        exact .more hq ho (segB_seg n h')
    · cases h'
def isEM : Option (List Sy × List (List Nd) × Nat) → Bool
  | some (.e n :: .mark s :: _, _, j) => decide (n = 0) && decide (s = [59]) && decide (j = 10)
  | _ => false
theorem hr_run : isEM (segB (toksOf hrB) 10 16 [.mod] [] 0) = true := by decide +kernel
theorem hr_seg : ∃ K V, Seg (toksOf hrB) 10 [.mod] [] 0 (.e 0 :: .mark [59] :: K) V 10 := by
  have h := hr_run
  generalize hx : segB (toksOf hrB) 10 16 [.mod] [] 0 = x at h
  match x, h with
  | some (.e n :: .mark s :: K, V, j), h =>
    have h' : (decide (n = 0) && decide (s = [59]) && decide (j = 10)) = true := h
    simp only [Bool.and_eq_true, decide_eq_true_eq] at h'
    obtain ⟨⟨rfl, rfl⟩, rfl⟩ := h'
    exact ⟨K, V, segB_seg 16 hx⟩

/-! the depth of brackets, as the law counts it -/
theorem one_key {l : List UInt8} {t : List UInt8} {n len : Nat} (h : oneL l = .tok 5 t n len) : isKey t = true := by
  cases l with
  | nil => cases h
  | cons c r =>
    rw [oneL] at h
    split at h
    · unfold wordOf at h
      split at h
      · rename_i hk; cases h; exact hk
      · split at h <;> cases h
    · split at h
      · unfold intOf' at h; split at h <;> cases h
      · split at h
        · unfold textOf at h; split at h <;> cases h
        · unfold markOne at h; split at h <;> cases h
theorem scans_key {p : Nat} {l : List UInt8} {ts : List Tk} (h : Scans p l ts) : ∀ t ∈ ts, t.kind = 5 → isKey t.text = true := by
  induction h with
  | done => intro t ht; cases ht
  | more p l c r k t n len ts hd ho _ ih =>
    intro u hu hk
    rcases List.mem_cons.1 hu with rfl | hu
    · have hk' : k = 5 := by have : ((k : Nat) : Int) = 5 := hk; omega
      subst hk'
      exact one_key ho
    · exact ih u hu hk
theorem key_flat {s : List UInt8} (h : isKey s = true) : shut s = 0 := by
  have h1 : s ∈ keyList := List.contains_iff_mem.1 h
  have h2 : (keyList.all fun s => decide (shut s = 0)) = true := by decide
  exact of_decide_eq_true (List.all_eq_true.1 h2 s h1)

end Go.Proofs.YtbbkogjkpehmjaaGreatDoor.Pa
namespace Go.Proofs.YtbbkogjkpehmjaaGreatDoor.Pa
open Go.RowKit Go.Shelf Dk Lx Tr

def dS (S : List Tk) : Nat → Int
  | 0 => 0
  | j + 1 => dS S j + shut (sgT (lk S j))
theorem dS_cons (t : Tk) (ts : List Tk) : ∀ j, dS (t :: ts) (j + 1) = shut (sgT t) + dS ts j
  | 0 => by show 0 + shut (sgT t) = shut (sgT t) + 0; omega
  | j + 1 => by
    show dS (t :: ts) (j + 1) + shut (sgT (lk ts j)) = shut (sgT t) + (dS ts j + shut (sgT (lk ts j)))
    rw [dS_cons t ts j]; omega
theorem deepT_shut {t : Tk} (hk : t.kind = 5 → isKey t.text = true) (d : Int) : deepT d t = d - shut (sgT t) := by
  unfold deepT
  by_cases h4 : t.kind = 4
  · have hsg : sgT t = t.text := if_pos (.inr h4)
    rw [if_pos h4, hsg]
    split
    · rename_i h
      have h' : t.text = [40] ∨ t.text = [123] ∨ t.text = [91] := by
        simp only [isOpen, Bool.or_eq_true, beq_iff_eq] at h
        rcases h with (h | h) | h
        · exact .inl h
        · exact .inr (.inl h)
        · exact .inr (.inr h)
      have : shut t.text = -1 := by rcases h' with h | h | h <;> rw [h] <;> decide
      omega
    · rename_i h
      have h1 : ¬(t.text = [40] ∨ t.text = [91] ∨ t.text = [123]) := by
        intro h'
        apply h
        simp only [isOpen, Bool.or_eq_true, beq_iff_eq]
        rcases h' with h | h | h
        · exact .inl (.inl h)
        · exact .inr h
        · exact .inl (.inr h)
      split
      · rename_i h2
        have h' : t.text = [41] ∨ t.text = [125] ∨ t.text = [93] := by
          simp only [isShut, Bool.or_eq_true, beq_iff_eq] at h2
          rcases h2 with (h | h) | h
          · exact .inl h
          · exact .inr (.inl h)
          · exact .inr (.inr h)
        have : shut t.text = 1 := by rcases h' with h | h | h <;> rw [h] <;> decide
        omega
      · rename_i h2
        have h3 : ¬(t.text = [41] ∨ t.text = [93] ∨ t.text = [125]) := by
          intro h'
          apply h2
          simp only [isShut, Bool.or_eq_true, beq_iff_eq]
          rcases h' with h | h | h
          · exact .inl (.inl h)
          · exact .inr h
          · exact .inl (.inr h)
        have : shut t.text = 0 := by unfold shut; rw [if_neg h3, if_neg h1]
        omega
  · rw [if_neg h4]
    by_cases h5 : t.kind = 5
    · have hsg : sgT t = t.text := if_pos (.inl h5)
      rw [hsg, key_flat (hk h5)]; omega
    · have hsg : sgT t = [] := if_neg (by omega)
      rw [hsg, shut_nil]; omega
theorem loneF_hit : ∀ (S : List Tk) (d : Int) (j : Nat) (h : j < S.length), (∀ t ∈ S, t.kind = 5 → isKey t.text = true) → S[j].kind = 4 → S[j].text = [59] → d - dS S j = 0 → loneF d S = none
  | [], d, j, h, _, _, _, _ => by simp at h
  | t :: ts, d, 0, h, hK, hk, ht, hd => by
    have hk' : t.kind = 4 := hk
    have ht' : t.text = [59] := ht
    have hd' : d - 0 = 0 := hd
    apply loneF_none
    have : deepT d t = d := by
      rw [deepT_shut (hK t (List.mem_cons_self ..))]
      unfold sgT
      rw [if_pos (.inr hk'), ht', show shut [59] = 0 by decide]; omega
    unfold stopT
    rw [this]
    simp [hk', ht']
    omega
  | t :: ts, d, j + 1, h, hK, hk, ht, hd => by
    by_cases hs : stopT d t = true
    · exact loneF_none hs
    · rw [loneF_some (by simpa using hs)]
      refine loneF_hit ts _ j (by rw [List.length_cons] at h; omega) (fun u hu => hK u (List.mem_cons_of_mem _ hu)) hk ht ?_
      rw [deepT_shut (hK t (List.mem_cons_self ..))]
      rw [dS_cons] at hd
      omega
theorem deepL_mid {L S : List Tk} {h : Nat} : ∀ j, j ≤ S.length → (∀ u, u < S.length → Alk (lk S u) (lk L (h + u))) → deepL L (h + j) = deepL L h - dS S j
  | 0, _, _ => by show deepL L h = deepL L h - 0; omega
  | j + 1, hj, ha => by
    show deepL L (h + j) - shut (sg L (h + j)) = deepL L h - (dS S j + shut (sgT (lk S j)))
    rw [deepL_mid j (by omega) ha, sg_lk]
    have := ha j (by omega)
    unfold sgT
    rw [this.1, this.2.1]; omega

/-- The text with brackets. -/
def rnd (s : List UInt8) (n : Nat) : List UInt8 := hrB ++ 32 :: (List.replicate n 40 ++ (s ++ (List.replicate n 41 ++ endB)))
theorem hr_at (r : List UInt8) : ∃ H : List Tk, H = (toksOf hrB).map (moved (((0 : Nat) : Int) - ((0 : Nat) : Int))) ∧ scanL 0 (hrB ++ 32 :: r) = ahead H (scanL 28 r) := by
  refine ⟨_, rfl, ?_⟩
  obtain ⟨o, h1, h2⟩ := scans_app (scans_iff.1 hr_scan)
  have := h2 32 r 0 sep32
  rw [h1 hr_free, scanR_false, scan_blank] at this
  exact this
theorem shut_first (n : Nat) : ∃ d r, List.replicate n 41 ++ endB = d :: r ∧ Sep d ∧ (∀ c ∈ d :: r, c.toNat ≠ 10) ∧ (∀ c ∈ d :: r, c.toNat ≠ 34) := by
  have hall : ∀ c ∈ List.replicate n 41 ++ endB, c.toNat ≠ 10 ∧ c.toNat ≠ 34 := by
    intro c hc
    rcases List.mem_append.1 hc with h | h
    · rw [(List.mem_replicate.1 h).2]; decide
    · simp only [endB, List.mem_cons, List.not_mem_nil, or_false] at h
      rcases h with rfl | rfl | rfl <;> decide
  cases n with
  | zero => exact ⟨59, [32, 125], rfl, sep59, fun c hc => (hall c hc).1, fun c hc => (hall c hc).2⟩
  | succ n =>
    rw [List.replicate_succ, List.cons_append] at hall ⊢
    exact ⟨41, List.replicate n 41 ++ endB, rfl, sep41, fun c hc => (hall c hc).1, fun c hc => (hall c hc).2⟩

theorem rounds_text (s : List UInt8) (hs : s.length ≤ 1000) (n : Nat) (hn : n < 20) {L : List Tk} {t : List Nd} (hX : Goods (rnd s 0) L t) :
    (∃ L', Goods (rnd s n) L' t) ∨ ((¬∃ L' t', Goods (rnd s n) L' t') ∧ loneL s = false) := by
  cases n with
  | zero => exact .inl ⟨L, hX⟩
  | succ n =>
  obtain ⟨H, hH, s1⟩ := hr_at (List.replicate 0 40 ++ (s ++ (List.replicate 0 41 ++ endB)))
  obtain ⟨H2, hH2, s2⟩ := hr_at (List.replicate (n + 1) 40 ++ (s ++ (List.replicate (n + 1) 41 ++ endB)))
  obtain rfl : H2 = H := hH2.trans hH.symm
  have hHl : H2.length = 10 := by rw [hH, List.length_map]; exact hr_len
  have x1 := hX.scan
  change scanL 0 (hrB ++ 32 :: (List.replicate 0 40 ++ (s ++ (List.replicate 0 41 ++ endB)))) = _ at x1
  rw [s1, scan_opens, show marksOf 40 28 0 = [] from rfl, ahead_nil] at x1
  rw [scan_opens] at s2
  obtain ⟨d0, r0, e0, sp0, n10, n34⟩ := shut_first 0
  obtain ⟨d1, r1, e1, sp1, m10, m34⟩ := shut_first (n + 1)
  cases hsc : scanL 28 s with
  | bad e a =>
    exfalso
    have := scan_bad_app (rest := r0) sp0 (fun l h => text_none34 _ n34 l h) (s.length + 1) s 28 28 (Nat.lt_succ_self _) (by rw [hsc]; rfl)
    rw [← e0] at this
    rw [Nat.add_zero] at x1
    cases hb : scanL 28 (s ++ (List.replicate 0 41 ++ endB)) with
    | bad e a => rw [hb] at x1; cases x1
    | toks S => rw [hb] at this; cases this
  | toks S =>
    have hSc := scans_iff.1 hsc
    have hkeys := scans_key hSc
    obtain ⟨o, ho, happ⟩ := scans_app hSc
    have a1 := happ d0 r0 28 sp0
    have a2 := happ d1 r1 (28 + (n + 1)) sp1
    rw [← e0] at a1
    rw [← e1] at a2
    rw [Nat.add_zero, a1] at x1
    rw [a2] at s2
    -- the tokens of the text by itself, for the law's own count
    have hlone : ∀ (b : Bool), (o = true ∨ ∃ j, ∃ h : j < S.length, S[j].kind = 4 ∧ S[j].text = [59] ∧ dS S j = 0) → loneL s = false := by
      intro _ hcase
      have hS0 := scans_iff.2 (hSc.move 0)
      unfold loneL
      rw [hS0]
      show (match loneF 0 (S.map _) with | none => false | some d => s.all (fun c => !(c == 35)) && decide (d = 0)) = false
      rcases hcase with h | ⟨j, hj, h4, h59, hd⟩
      · have hex : s.all (fun c => !(c == 35)) = false := by
          rw [List.all_eq_false]
          by_cases hh : ∃ c ∈ s, c.toNat = 35
          · obtain ⟨c, hc, h35⟩ := hh
            exact ⟨c, hc, by rw [byte_eq h35 (by decide)]; decide⟩
          · exfalso
            have := ho (fun c hc h35 => hh ⟨c, hc, h35⟩)
            rw [h] at this; cases this
        rw [hex]
        cases loneF 0 (S.map _) <;> rfl
      · have hm : ∀ (dd : Int), loneF 0 (S.map (moved dd)) = none := by
          intro dd
          refine loneF_hit _ 0 j (by rw [List.length_map]; exact hj) ?_ (by rw [List.getElem_map]; exact h4) (by rw [List.getElem_map]; exact h59) ?_
          · intro u hu hk
            obtain ⟨v, hv, rfl⟩ := List.mem_map.1 hu
            exact hkeys v hv hk
          · have : ∀ k, dS (S.map (moved dd)) k = dS S k := by
              intro k
              induction k with
              | zero => rfl
              | succ k ih =>
                show dS _ k + _ = dS _ k + _
                rw [ih]
                have := lk_moved dd S k
                unfold sgT
                rw [this.1, this.2.1]
            rw [this]; omega
        rw [hm]
    obtain ⟨K0, V0, hfr⟩ := hr_seg
    generalize hS0 : S.map (moved (((28 : Nat) : Int) - ((28 : Nat) : Int))) = S0 at x1
    generalize hS1 : S.map (moved (((28 + (n + 1) : Nat) : Int) - ((28 : Nat) : Int))) = S1 at s2
    have hl0 : S0.length = S.length := by rw [← hS0, List.length_map]
    have hl1 : S1.length = S.length := by rw [← hS1, List.length_map]
    have al0 : ∀ u, Alk (lk S u) (lk S0 u) := fun u => by rw [← hS0]; exact lk_moved _ S u
    have al1 : ∀ u, Alk (lk S u) (lk S1 u) := fun u => by rw [← hS1]; exact lk_moved _ S u
    -- what is common
    have hcom : ∀ (R0 R1 : List Tk), Rnd (H2 ++ (S0 ++ R0)) (H2 ++ (marksOf 40 28 (n + 1) ++ (S1 ++ R1))) 10 (10 + S.length) (n + 1) := by
      intro R0 R1
      refine ⟨by omega, fun u hu => ?_, fun u hu => ?_, fun u h1 h2 => ?_⟩
      · rw [lk_app_left (by omega), lk_app_left (by omega)]; exact Alk.refl _
      · have e : lk (H2 ++ (marksOf 40 28 (n + 1) ++ (S1 ++ R1))) (10 + u) = lk (marksOf 40 28 (n + 1)) u := by
          rw [lk_app_right (by omega), hHl, show 10 + u - 10 = u by omega, lk_app_left (by rw [marksOf_len]; exact hu)]
        obtain ⟨h1, h2⟩ := lk_marks (c := 40) (p := 28) hu
        refine ⟨by rw [sg_lk, e]; exact h2, ?_⟩
        rw [kd_lk, e, h1]; decide
      · have e1 : lk (H2 ++ (S0 ++ R0)) u = lk S0 (u - 10) := by rw [lk_app_right (by omega), hHl, lk_app_left (by omega)]
        have e2 : lk (H2 ++ (marksOf 40 28 (n + 1) ++ (S1 ++ R1))) (u + (n + 1)) = lk S1 (u - 10) := by
          rw [lk_app_right (by omega), hHl, lk_app_right (by rw [marksOf_len]; omega), marksOf_len, show u + (n + 1) - 10 - (n + 1) = u - 10 by omega, lk_app_left (by omega)]
        rw [e1, e2]
        exact (al0 _).symm.trans (al1 _)
    have hfr' : ∀ (R0 : List Tk), Seg (H2 ++ (S0 ++ R0)) 10 [.mod] [] 0 (.e 0 :: .mark [59] :: K0) V0 10 := fun R0 =>
      hfr.move (d := 0) (L' := H2 ++ (S0 ++ R0)) (fun u _ h2 _ => by
        rw [Nat.add_zero, lk_app_left (by omega), hH]; exact lk_moved _ _ u)
    have hdeep : ∀ (R0 : List Tk) (q0 : Nat), 10 ≤ q0 → q0 < 10 + S.length → sg (H2 ++ (S0 ++ R0)) q0 = [59] → deepL (H2 ++ (S0 ++ R0)) 10 = deepL (H2 ++ (S0 ++ R0)) q0 → ∃ j, ∃ h : j < S.length, S[j].kind = 4 ∧ S[j].text = [59] ∧ dS S j = 0 := by
      intro R0 q0 h1 h2 hsg hd
      have hj : q0 - 10 < S.length := by omega
      have e1 : lk (H2 ++ (S0 ++ R0)) q0 = lk S0 (q0 - 10) := by rw [lk_app_right (by omega), hHl, lk_app_left (by omega)]
      have hm := deepL_mid (L := H2 ++ (S0 ++ R0)) (S := S) (h := 10) (q0 - 10) (by omega) (fun u hu => by
        rw [lk_app_right (by omega), hHl, show 10 + u - 10 = u by omega, lk_app_left (by omega)]; exact al0 u)
      rw [show 10 + (q0 - 10) = q0 by omega] at hm
      have hlk : lk S (q0 - 10) = S[q0 - 10] := by unfold lk; rw [List.getElem?_eq_getElem hj]; rfl
      have ha := al0 (q0 - 10)
      rw [hlk, ← e1] at ha
      rw [sg_lk] at hsg
      unfold sgT at hsg
      rw [← ha.1, ← ha.2.1] at hsg
      refine ⟨q0 - 10, hj, ?_⟩
      split at hsg
      · rename_i hk
        refine ⟨?_, hsg, by omega⟩
        rcases hk with hk | hk
        · have := hkeys _ (List.getElem_mem hj) hk
          rw [hsg] at this
          exact absurd this (by decide)
        · exact hk
      · cases hsg
    have hlen' : (rnd s (n + 1)).length ≤ 8192 := by simp [rnd, hrB, endB]; omega
    cases o with
    | true =>
      rw [scanR_true _ (List.replicate 0 41 ++ endB) (by rw [e0]; exact n10), ahead_toks, ahead_toks] at x1
      rw [scanR_true _ (List.replicate (n + 1) 41 ++ endB) (by rw [e1]; exact m10), ahead_toks, ahead_toks, ahead_toks] at s2
      cases x1
      have hf := hX.run
      obtain ⟨V1, q0, b1, b2, b3, b4, b5, b6⟩ := rnd_front (hcom [] []) (hfr' []) hf
      rw [List.append_nil] at b2 b3
      refine .inr ⟨?_, hlone true (.inl rfl)⟩
      rintro ⟨L', t', hG⟩
      have hsc' := hG.scan
      change scanL 0 (hrB ++ 32 :: _) = _ at hsc'
      rw [s2] at hsc'
      cases hsc'
      refine rnd_bad (hcom [] []) b6 b1 (by rw [List.append_nil]; exact b2) ?_ hG.run
      rw [List.length_append] at b3
      omega
    | false =>
      rw [scanR_false, show List.replicate 0 (41 : UInt8) ++ endB = endB from rfl, end_at, ahead_toks, ahead_toks] at x1
      rw [scanR_false, scan_shuts, end_at, ahead_toks, ahead_toks, ahead_toks, ahead_toks] at s2
      generalize hq0 : 28 + s.length = z0 at x1
      generalize hq1 : 28 + (n + 1) + s.length = z1 at s2
      generalize hT0 : endT.map (moved ((z0 : Int) - ((0 : Nat) : Int))) = T0 at x1
      generalize hT1 : endT.map (moved (((z1 + (n + 1) : Nat) : Int) - ((0 : Nat) : Int))) = T1 at s2
      have lT0 : T0.length = 2 := by rw [← hT0]; rfl
      have lT1 : T1.length = 2 := by rw [← hT1]; rfl
      have alT0 : ∀ u, Alk (lk endT u) (lk T0 u) := fun u => by rw [← hT0]; exact lk_moved _ endT u
      have alT1 : ∀ u, Alk (lk endT u) (lk T1 u) := fun u => by rw [← hT1]; exact lk_moved _ endT u
      cases x1
      have hf := hX.run
      have hlenL : (H2 ++ (S0 ++ T0)).length = 10 + S.length + 2 := by simp only [List.length_append]; omega
      have hend : ∀ u, 10 + S.length ≤ u → lk (H2 ++ (S0 ++ T0)) u = lk T0 (u - (10 + S.length)) := fun u hu => by
        rw [lk_app_right (by omega), lk_app_right (by omega)]
        congr 1; omega
      have hsT : ∀ u, sgT (lk T0 u) = sgT (lk endT u) := fun u => by have := alT0 u; unfold sgT; rw [this.1, this.2.1]
      have hRT : RndT (H2 ++ (S0 ++ T0)) (H2 ++ (marksOf 40 28 (n + 1) ++ (S1 ++ (marksOf 41 z1 (n + 1) ++ T1)))) (10 + S.length) (n + 1) := by
        refine ⟨fun u hu => ?_, fun u hu => ?_, ?_, fun u hu => ?_, ?_⟩
        · rw [sg_lk, lk_app_right (by omega), lk_app_right (by rw [marksOf_len]; omega), lk_app_right (by rw [marksOf_len]; omega), marksOf_len,
            show 10 + S.length + (n + 1) + u - H2.length - (n + 1) - S1.length = u by omega, lk_app_left (by rw [marksOf_len]; exact hu)]
          exact (lk_marks hu).2
        · rw [hend u hu, lk_app_right (by omega), lk_app_right (by rw [marksOf_len]; omega), lk_app_right (by rw [marksOf_len]; omega), lk_app_right (by rw [marksOf_len, marksOf_len]; omega), marksOf_len, marksOf_len,
            show u + 2 * (n + 1) - H2.length - (n + 1) - S1.length - (n + 1) = u - (10 + S.length) by omega]
          exact (alT0 _).symm.trans (alT1 _)
        · rw [sg_lk, hend _ (Nat.le_refl _), hsT, Nat.sub_self]; rfl
        · rw [sg_lk, hend u (by omega), hsT]
          rcases (show u - (10 + S.length) = 1 ∨ 2 ≤ u - (10 + S.length) by omega) with h | h
          · rw [h]; decide
          · rw [lk_end (L := endT) (by show 2 ≤ _; exact h)]; decide
        · simp only [List.length_append, marksOf_len]; omega
      obtain ⟨V1, q0, b1, b2, b3, b4, b5, b6⟩ := rnd_front (hcom T0 (marksOf 41 z1 (n + 1) ++ T1)) (hfr' T0) hf
      have hle := b1.le
      by_cases hlt : q0 < 10 + S.length
      · refine .inr ⟨?_, hlone false (.inr (hdeep T0 q0 hle hlt b2 b5))⟩
        rintro ⟨L', t', hG⟩
        have hsc' := hG.scan
        change scanL 0 (hrB ++ 32 :: _) = _ at hsc'
        rw [s2] at hsc'
        cases hsc'
        exact rnd_bad (hcom T0 _) b6 b1 b2 hlt hG.run
      · by_cases heq : q0 = 10 + S.length
        · subst heq
          exact .inl ⟨_, hlen', by rw [← s2]; rfl, rnd_good (hcom T0 _) hRT b6 b1 b4, hX.right⟩
        · exact absurd b2 (hRT.no q0 (by omega))

end Go.Proofs.YtbbkogjkpehmjaaGreatDoor.Pa
namespace Go.Proofs.YtbbkogjkpehmjaaGreatDoor.Pa
open Go.RowKit Go.Shelf Dk Lx Tr

def hrS : List UInt8 := [109, 111, 100, 117, 108, 101, 32, 109, 32, 49, 59, 32, 102, 110, 32, 102, 40, 41, 32, 123, 32, 114, 101, 116, 117, 114, 110, 32]
theorem rnd_eq (s : List UInt8) (n : Nat) : hrS ++ List.replicate n 40 ++ s ++ List.replicate n 41 ++ endB = rnd s n := by
  unfold rnd
  rw [show hrS = hrB ++ [32] from rfl]
  simp
theorem rnd_eq0 (s : List UInt8) : hrS ++ s ++ endB = rnd s 0 := by
  have := rnd_eq s 0
  simpa using this

/-- What Text answers of it. -/
def YOk (s : List UInt8) (t : List Nd) (W : World) (e : Ending) (w' : World) : Prop := Below W.heap.size W w' ∧
  ((∃ v, e = .returned (.tuple #[v, .int .i64 0, .int .i64 0]) ∧ Nds w' v t) ∨ (∃ k a : Int, e = .returned (.tuple #[.slice none 0 0, .int .i64 k, .int .i64 a]) ∧ k ≠ 0 ∧ loneL s = false))
theorem y_any (s : List UInt8) (hs : s.length ≤ 1000) (n : Nat) (hn : n < 20) {L : List Tk} {t : List Nd} (hX : Goods (rnd s 0) L t) (W : World) (HE : HasE W) :
    Calls Tryz.prog 13 #[.string (strOf (rnd s n))] W fun e w' => YOk s t W e w' := by
  rcases rounds_text s hs n hn hX with ⟨L', h⟩ | ⟨h, hl⟩
  · exact (text_good h W HE).mono fun e w' ⟨v, he, hr, hf⟩ => ⟨hr.below, .inl ⟨v, he, hr.nds hf⟩⟩
  · exact (text_none h W HE).mono fun e w' ⟨⟨k, a, he, hk⟩, hb⟩ => ⟨hb, .inr ⟨k, a, he, hk, hl⟩⟩

set_option maxHeartbeats 4000000 in
set_option maxRecDepth 100000 in
theorem rounds_main (s : List UInt8) (hs : s.length ≤ 1000) (n : Int) (hn0 : 0 ≤ n) (hn1 : n ≤ 255) (L : List Tk) (t : List Nd) (hX : Goods (rnd s 0) L t) (w : World) (HE : HasE w) :
    Calls Tryz.prog 6 #[.string (strOf s), .int .u8 n] w fun e w' => e = .returned (.bool true) ∧ Below w.heap.size w w' := by
  have HHE := Lib.hid HE
  have KN := Lib.hid (fun W h => known10 W h)
  have h1 : ¬((strOf s).size : Int) > 1000 := by rw [strOf_size]; omega
  obtain ⟨k, hk⟩ : ∃ k : Nat, k = (n % 20).toNat := ⟨_, rfl⟩
  have hk1 : n % 20 = (k : Int) := by omega
  have hk2 : k < 20 := by omega
  have S1 := Lib.hid (text_good hX)
  have S2 := Lib.hid (y_any s hs k hk2 hX)
  have S3 := Lib.hid (lone_any s hs)
  have HLEN := Lib.hid hX.len
  have p1 : ∀ W : World, (Op.stringOp .add (strOf hrS) (strOf s)).run Tryz.prog W = .ok (.string (strOf (hrS ++ s))) W := fun W => add_run hrS s (by simp [hrS]; omega) W
  have p2 : ∀ W : World, (Op.stringOp .add (strOf (hrS ++ s)) ⟨#[59, 32, 125]⟩).run Tryz.prog W = .ok (.string (strOf (rnd s 0))) W := fun W => by
    have := add_run (hrS ++ s) endB (by simp [hrS, endB]; omega) W
    rw [rnd_eq0] at this; exact this
  have HP : Hid ((∀ W : World, (Op.stringOp .add (strOf hrS) (strOf (List.replicate k 40))).run Tryz.prog W = .ok (.string (strOf (hrS ++ List.replicate k 40))) W) ∧
      (∀ W : World, (Op.stringOp .add (strOf (hrS ++ List.replicate k 40)) (strOf s)).run Tryz.prog W = .ok (.string (strOf (hrS ++ List.replicate k 40 ++ s))) W) ∧
      (∀ W : World, (Op.stringOp .add (strOf (hrS ++ List.replicate k 40 ++ s)) (strOf (List.replicate k 41))).run Tryz.prog W = .ok (.string (strOf (hrS ++ List.replicate k 40 ++ s ++ List.replicate k 41))) W) ∧
      (∀ W : World, (Op.stringOp .add (strOf (hrS ++ List.replicate k 40 ++ s ++ List.replicate k 41)) ⟨#[59, 32, 125]⟩).run Tryz.prog W = .ok (.string (strOf (rnd s k))) W)) := Lib.hid
    ⟨fun W => add_run _ _ (by simp [hrS]; omega) W, fun W => add_run _ _ (by simp [hrS]; omega) W, fun W => add_run _ _ (by simp [hrS]; omega) W, fun W => by
      have := add_run (hrS ++ List.replicate k 40 ++ s ++ List.replicate k 41) endB (by simp [hrS, endB]; omega) W
      rw [rnd_eq] at this; exact this⟩
  have HO : Hid (∀ i, i < k → (∀ W : World, (Op.stringOp .add (strOf (List.replicate i 40)) ⟨#[40]⟩).run Tryz.prog W = .ok (.string (strOf (List.replicate (i + 1) 40))) W) ∧ (∀ W : World, (Op.stringOp .add (strOf (List.replicate i 41)) ⟨#[41]⟩).run Tryz.prog W = .ok (.string (strOf (List.replicate (i + 1) 41))) W)) := Lib.hid (fun i hi => ⟨fun W => by
      have := add_run (List.replicate i 40) [40] (by simp; omega) W
      rw [show List.replicate i (40 : UInt8) ++ [40] = List.replicate (i + 1) 40 by rw [List.replicate_succ']] at this
      exact this, fun W => by
      have := add_run (List.replicate i 41) [41] (by simp; omega) W
      rw [show List.replicate i (41 : UInt8) ++ [41] = List.replicate (i + 1) 41 by rw [List.replicate_succ']] at this
      exact this⟩)
  change ∀ W : World, (Op.stringOp .add ⟨#[109, 111, 100, 117, 108, 101, 32, 109, 32, 49, 59, 32, 102, 110, 32, 102, 40, 41, 32, 123, 32, 114, 101, 116, 117, 114, 110, 32]⟩ (strOf s)).run Tryz.prog W = _ at p1
  generalize strOf (hrS ++ s) = z1 at *
  generalize strOf (rnd s 0) = z2 at *
  generalize strOf s = sA at *
  have w1 : IntKind.i64.wrap n = n := IntWalk.i64_in _ (by omega)
  clear hs hX HE hk
  go_enter Tryz.func6, Tryz.ntmps6
  go_wp2_with fail
  refine (S1.out w HHE.out).mono ?_
  rintro e w1 ⟨v1, rfl, hr1, hf1⟩
  have HB1 := Lib.hid hr1.below
  have HV1 := Lib.hid (hr1.nds hf1)
  clear hr1 hf1 S1 p1 p2
  go_wp2_with fail
  go_loopw [9, 10, 11] (fun va vb vi wr => ∃ i : Nat, i ≤ k ∧ vi = .int .i64 (i : Int) ∧ va = .string (strOf (List.replicate i 40)) ∧ vb = .string (strOf (List.replicate i 41)) ∧ wr = w1) (fun _ _ vi _ => k - (intOf vi).toNat)
  case atStart => exact ⟨0, Nat.zero_le _, rfl, rfl, rfl, rfl⟩
  case round =>
    obtain ⟨i, hi, rfl, rfl, rfl, rfl⟩ := hrel
    by_cases hlt : i < k
    · obtain ⟨q1, q2⟩ := HO.out i hlt
      have z0 : (i : Int) < (k : Int) := by omega
      generalize ha : strOf (List.replicate (i + 1) 40) = a1 at *
      generalize hb : strOf (List.replicate (i + 1) 41) = b1 at *
      generalize strOf (List.replicate i 40) = a0 at *
      generalize strOf (List.replicate i 41) = b0 at *
      have HA := Lib.hid ha
      have HBb := Lib.hid hb
      clear ha hb
      go_wp2
      go_roundw
      case rel => exact ⟨i + 1, by omega, by go_num, by rw [HA.out], by rw [HBb.out], by first | rfl | trivial⟩
      case measure => simp [intOf]; omega
    · obtain rfl : k = i := by omega
      have z0 : ¬(k : Int) < (k : Int) := by omega
      obtain ⟨q1, q2, q3, q4⟩ := HP.out
      change ∀ W : World, (Op.stringOp .add ⟨#[109, 111, 100, 117, 108, 101, 32, 109, 32, 49, 59, 32, 102, 110, 32, 102, 40, 41, 32, 123, 32, 114, 101, 116, 117, 114, 110, 32]⟩ (strOf (List.replicate k 40))).run Tryz.prog W = _ at q1
      generalize strOf (rnd s k) = y5 at *
      generalize strOf (hrS ++ List.replicate k 40 ++ s ++ List.replicate k 41) = y4 at *
      generalize strOf (hrS ++ List.replicate k 40 ++ s) = y3 at *
      generalize strOf (hrS ++ List.replicate k 40) = y2 at *
      generalize strOf (List.replicate k 40) = a0 at *
      generalize strOf (List.replicate k 41) = b0 at *
      clear HO hlt hi HP
      go_wp2_with fail
      refine (S2.out _ (HHE.out.later HB1.out)).mono ?_
      rintro e w2 ⟨hb2, ⟨v2, rfl, hn2⟩ | ⟨k2, a2, rfl, hk2', hlf⟩⟩
      · have HB2 := Lib.hid (chain2 HB1.out hb2)
        have C1 := Lib.hid (same_nodes t v1 v2 w2 (HV1.out.later hb2) hn2 (by have := HLEN.out.2; omega))
        clear hb2 hn2 S2 S3
        go_wp2_with (first
          | (go_at_call 15; refine C1.out.mono ?_; rintro e w5 ⟨rfl, hb5⟩; have HB5 := Lib.hid (chain2 HB2.out hb5); clear hb5)
          | (go_at_call 12; refine (KN.out _ (HHE.out.later HB5.out)).mono ?_; rintro e w6 ⟨rfl, hb6⟩; have HB6 := Lib.hid (chain2 HB5.out hb6); clear hb6))
        go_ret
        exact ⟨rfl, HB6.out⟩
      · have HB2 := Lib.hid (chain2 HB1.out hb2)
        have e1 : (k2 != 0) = true := by simpa using hk2'
        rw [hlf] at S3
        clear hb2 hk2' hlf S2
        go_wp2_with (first
          | (go_at_call 21; refine (S3.out _).mono ?_; rintro e w5 ⟨rfl, hb5⟩; have HB5 := Lib.hid (chain2 HB2.out hb5); clear hb5)
          | (go_at_call 12; refine (KN.out _ (HHE.out.later HB5.out)).mono ?_; rintro e w6 ⟨rfl, hb6⟩; have HB6 := Lib.hid (chain2 HB5.out hb6); clear hb6))
        go_ret
        exact ⟨rfl, HB6.out⟩

set_option maxHeartbeats 4000000 in
set_option maxRecDepth 100000 in
theorem rounds_none (s : List UInt8) (hs : s.length ≤ 1000) (n : Int) (hN : ¬∃ L t, Goods (rnd s 0) L t) (w : World) (HE : HasE w) :
    Calls Tryz.prog 6 #[.string (strOf s), .int .u8 n] w fun e w' => e = .returned (.bool true) ∧ Below w.heap.size w w' := by
  have HHE := Lib.hid HE
  have KN := Lib.hid (fun W h => known10 W h)
  have h1 : ¬((strOf s).size : Int) > 1000 := by rw [strOf_size]; omega
  have S1 := Lib.hid (text_none hN)
  have p1 : ∀ W : World, (Op.stringOp .add (strOf hrS) (strOf s)).run Tryz.prog W = .ok (.string (strOf (hrS ++ s))) W := fun W => add_run hrS s (by simp [hrS]; omega) W
  have p2 : ∀ W : World, (Op.stringOp .add (strOf (hrS ++ s)) ⟨#[59, 32, 125]⟩).run Tryz.prog W = .ok (.string (strOf (rnd s 0))) W := fun W => by
    have := add_run (hrS ++ s) endB (by simp [hrS, endB]; omega) W
    rw [rnd_eq0] at this; exact this
  change ∀ W : World, (Op.stringOp .add ⟨#[109, 111, 100, 117, 108, 101, 32, 109, 32, 49, 59, 32, 102, 110, 32, 102, 40, 41, 32, 123, 32, 114, 101, 116, 117, 114, 110, 32]⟩ (strOf s)).run Tryz.prog W = _ at p1
  generalize strOf (hrS ++ s) = z1 at *
  generalize strOf (rnd s 0) = z2 at *
  generalize strOf s = sA at *
  clear hs hN HE
  go_enter Tryz.func6, Tryz.ntmps6
  go_wp2_with fail
  refine (S1.out w HHE.out).mono ?_
  rintro e w1 ⟨⟨k1, a1, rfl, hk1⟩, hb1⟩
  have HB1 := Lib.hid hb1
  have e1 : (k1 != 0) = true := by simpa using hk1
  clear hb1 hk1 S1 p1 p2
  go_wp2_with (go_at_call 12; refine (KN.out _ (HHE.out.later HB1.out)).mono ?_; rintro e w6 ⟨rfl, hb6⟩; have HB6 := Lib.hid (chain2 HB1.out hb6); clear hb6)
  go_ret
  exact ⟨rfl, HB6.out⟩

set_option maxHeartbeats 4000000 in
set_option maxRecDepth 100000 in
theorem parseRounds_law (a : ByteArray) (_ha : a.size ≤ maxLen) (n : Int) (hn : (Lit.int .u8 n).wf = true) (w : World) (HE : HasE w) :
    Calls Tryz.prog 6 #[.string a, .int .u8 n] w fun e w' => e = .returned (.bool true) ∧ Below w.heap.size w w' := by
  have KN := Lib.hid (fun W h => known10 W h)
  by_cases hs : a.size ≤ 1000
  case neg =>
    have HHE := Lib.hid HE
    have g1 : (a.size : Int) > 1000 := by omega
    clear hs HE
    go_enter Tryz.func6, Tryz.ntmps6
    go_wp2_with (go_at_call 12; refine (KN.out _ HHE.out).mono ?_; rintro e w3 ⟨rfl, hb3⟩; have HB3 := Lib.hid hb3; clear hb3)
    go_ret
    exact ⟨rfl, HB3.out⟩
  obtain ⟨l, rfl, hA⟩ := toS a
  rw [strOf_size] at hs
  have hb : 0 ≤ n ∧ n ≤ 255 := by
    simp [Lit.wf, IntKind.min, IntKind.max, IntKind.signed, IntKind.bits] at hn; omega
  by_cases hX : ∃ L t, Goods (rnd l 0) L t
  · obtain ⟨L, t, hX⟩ := hX
    exact rounds_main l hs n hb.1 hb.2 L t hX w HE
  · exact rounds_none l hs n hX w HE

end Go.Proofs.YtbbkogjkpehmjaaGreatDoor.Pa
