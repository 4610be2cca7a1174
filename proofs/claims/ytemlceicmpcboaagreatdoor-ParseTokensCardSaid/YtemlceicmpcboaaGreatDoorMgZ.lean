/- The walks of the document's Tree and Text: their contracts. The walk of the document's Text: its contract. What both trees of a row of tokens, and of a text, are: one row of nodes, one fault, one place. No condition but those that each states. -/
import Derived.Test.YtemlceicmpcboaaGreatDoorMgT
import Derived.Test.YtemlceicmpcboaaGreatDoorMgO
import Derived.Test.YtemlceicmpcboaaGreatDoorMgY
import Derived.Test.YtemlceicmpcboaaGreatDoorMgU
namespace Go.Proofs.YtemlceicmpcboaaGreatDoor.Pa
open Go.RowKit Go.Shelf Dk Lx Tr

/-- What the document's Tree answers. -/
def TreeRf (L : List Tk) (w : World) (e : Ending) (w' : World) (t : List Nd) : St → Prop
  | .bad k => e = .returned (.tuple #[.slice none 0 0, .int .i64 10, .int .i64 (offK L k)])
  | .ok _ => if (checkL t).1 = 0 then ∃ v, e = .returned (.tuple #[v, .int .i64 0, .int .i64 0]) ∧ NdX w' (fun k => k < w.heap.size) v t ∧ Fit t ∧ t.length ≤ 4000
      else e = .returned (.tuple #[.slice none 0 0, .int .i64 (checkL t).1, .int .i64 0])

theorem mod_bad {L : List Tk} {t : List Nd} {s : St} (h : Leads L [.mod] [] (.ok 0) [] [t] s) (hs : isBad s = true ∨ atS s < L.length) : ModRun L t (.bad (atS s)) := by
  cases s with
  | bad k => exact h [] []
  | ok i =>
    have hi : i < L.length := hs.resolve_left (by intro h; cases h)
    exact To.trans (h [] []) (To.head ⟨0, by
      show (if i = L.length then Cfg.fin [t] else Cfg.bad i) = _
      rw [if_neg (by omega)]; rfl⟩)
theorem mod_well {L : List Tk} {t : List Nd} {i : Nat} (h : Leads L [.mod] [] (.ok 0) [] [t] (.ok i)) (hi : i = L.length) : ModRun L t (.ok i) :=
  To.trans (h [] []) (To.head ⟨0, by
    show (if i = L.length then Cfg.fin [t] else Cfg.bad i) = _
    rw [if_pos hi]⟩)

set_option maxHeartbeats 4000000 in
set_option maxRecDepth 100000 in
theorem rtree_any (L : List Tk) (v : Value) (w : World) (h : ToksW w v L) (hL : L.length ≤ 4000) (hp : Places L) (hS : TkS 9000 L) :
    Calls Tryz.prog 19 #[v] w fun e w' => ∃ t s', ModRun L t s' ∧ Below w.heap.size w w' ∧ TreeRf L w e w' t s' := by
  obtain ⟨p, c, rfl, hc, hx⟩ := h
  have hl := lies_new w #[.slice p L.length c, .int .i64 0, .bool false] 81
  have hps : RS L w.heap.size (.slice p L.length c) (w.alloc (.cells #[.slice p L.length c, .int .i64 0, .bool false] 81)) (.ok 0) := by
    refine ⟨hl.1, hl.2, by simp, ⟨p, c, rfl, hc, hx.imp id ?_⟩, Nat.zero_le _, by omega⟩
    rintro ⟨r, o, hp', hr, hq⟩
    exact ⟨r, o, hp', by simp; omega, by omega, rangeAt_block hq (Below.heap_alloc w _ r hr)⟩
  have HM := Lib.hid (module_rf 9000 L hS hL w.heap.size _ _ hps)
  have HP := Lib.hid hp
  have HS := Lib.hid hS
  have HL4 := Lib.hid hL
  obtain ⟨n, hn⟩ : ∃ n, n = L.length := ⟨_, rfl⟩
  have HN := Lib.hid hn
  rw [← hn] at HM hc ⊢
  clear hps hl hp hS hx hL hn
  go_enter Tryz.func19, Tryz.ntmps19
  go_wp2_with fail
  refine HM.out.mono ?_
  rintro e w1 ⟨tv, t, s', rfl, hk⟩
  obtain ⟨q1, q2, q3, rfl⟩ := hk.row.form
  obtain ⟨c0, c1, c2⟩ := hk.on.ps.at
  have HK := Lib.hid hk
  have HB1 : Hid (Below w.heap.size w w1) := Lib.hid (hk.on.only.below ((Below.refl _ w).alloc (Nat.le_refl _) _) (fun i e => by omega) (Nat.le_refl _))
  have HTK := Lib.hid (fun i hi => hk.on.ps.toks.tok i hi)
  have hkn : atS s' ≤ n := by rw [HN.out]; exact hk.on.ps.le
  have hfew := HL4.out
  rw [← HN.out] at hfew
  clear hk HM c0
  by_cases hbad : isBad s' = true ∨ atS s' < n
  · have HR : Hid (ModRun L t (.bad (atS s'))) := Lib.hid (mod_bad HK.out.leads (by rw [← HN.out]; exact hbad))
    obtain ⟨off, hoff⟩ : ∃ off, off = offK L (atS s') := ⟨_, rfl⟩
    have HOFF := Lib.hid hoff
    have HANS : Hid (∀ e w', Below w.heap.size w w' → e = .returned (.tuple #[.slice none 0 0, .int .i64 10, .int .i64 off]) → ∃ t s', ModRun L t s' ∧ Below w.heap.size w w' ∧ TreeRf L w e w' t s') := Lib.hid (fun e w' hb he => ⟨t, .bad (atS s'), HR.out, hb, by rw [he, hoff]; rfl⟩)
    have HLAST : Hid (n ≤ atS s' → 0 < n → ∃ r o pl, p = some ⟨r, o, none⟩ ∧ w1.cell? ⟨r, o + (n - 1) * 4 + 3, none⟩ = some (.int .i64 pl) ∧ IntKind.i64.wrap (pl + 1) = off) := Lib.hid (fun h1 h2 => by
      obtain ⟨r, o, hp', -, -, -, t3, -⟩ := HTK.out (n - 1) (by rw [← HN.out]; omega)
      refine ⟨r, o, _, hp', t3, ?_⟩
      have h3 := offK_end (L := L) (i := atS s') (by rw [← HN.out]; exact h1) (by rw [← HN.out]; exact h2)
      have h4 := HP.out _ (List.getElem_mem (show n - 1 < L.length by rw [← HN.out]; omega))
      rw [hoff, h3]
      simp only [← HN.out]
      exact wrap_in _ (by omega))
    have HNIL : Hid (n = 0 → off = 0) := Lib.hid (fun h => by rw [hoff]; exact offK_nil (by rw [← HN.out]; exact h))
    have HAT : Hid (atS s' < n → ∃ r o, p = some ⟨r, o, none⟩ ∧ w1.cell? ⟨r, o + atS s' * 4 + 3, none⟩ = some (.int .i64 off)) := Lib.hid (fun h1 => by
      obtain ⟨r, o, hp', -, -, -, t3, -⟩ := HTK.out (atS s') (by rw [← HN.out]; exact h1)
      exact ⟨r, o, hp', by rw [hoff, offK_at (by rw [← HN.out]; exact h1)]; exact t3⟩)
    clear hoff HR HOFF HK HTK
    generalize atS s' = k at *
    cases hb : isBad s' with
    | true =>
      rw [hb] at c2
      clear hb hbad
      by_cases h1 : k < n
      · obtain ⟨r, o, rfl, t3⟩ := HAT.out h1
        have z0 : (0 : Int) ≤ (k : Int) := by omega
        have z1 : (k : Int) < (n : Int) := by omega
        clear h1 hkn hfew hc HLAST HNIL HAT
        go_wp2
        go_ret3
        exact HANS.out _ _ HB1.out rfl
      · have z1 : ¬(k : Int) < (n : Int) := by omega
        by_cases h2 : n = 0
        · have HO := HNIL.out h2
          have z2 : ¬(n : Int) > 0 := by omega
          clear h1 h2 hkn hfew hc HLAST HNIL HAT
          go_wp2
          go_ret3
          exact HANS.out _ _ HB1.out (by rw [HO]; rfl)
        · obtain ⟨r, o, pl, rfl, t3, e1⟩ := HLAST.out (by omega) (by omega)
          obtain ⟨m, hm⟩ : ∃ m, m = n - 1 := ⟨_, rfl⟩
          rw [← hm] at t3
          have z2 : (n : Int) > 0 := by omega
          have e2 : IntKind.i64.wrap ((n : Int) - 1) = (m : Int) := by rw [wrap_in _ (by omega)]; omega
          have z3 : (0 : Int) ≤ (m : Int) := by omega
          have z4 : (m : Int) < (n : Int) := by omega
          clear hm
          clear h1 h2 hkn hfew hc HLAST HNIL HAT
          go_wp2
          go_ret3
          exact HANS.out _ _ HB1.out rfl
    | false =>
      rw [hb] at c2
      have h1 : k < n := hbad.resolve_left (by rw [hb]; decide)
      obtain ⟨r, o, rfl, t3⟩ := HAT.out h1
      have z0 : (0 : Int) ≤ (k : Int) := by omega
      have z1 : (k : Int) < (n : Int) := by omega
      clear h1 hkn hfew hc HLAST HNIL HAT hb hbad
      go_wp2
      go_ret3
      exact HANS.out _ _ HB1.out rfl
  · cases s' with
    | bad k => exact absurd (Or.inl rfl) hbad
    | ok i =>
      have hi : i = L.length := by
        rw [← HN.out]
        have h1 : ¬i < n := fun h => hbad (.inr h)
        have h2 : i ≤ n := hkn
        omega
      have HR := Lib.hid (mod_well HK.out.leads hi)
      have z1 : ¬(i : Int) < (n : Int) := by rw [HN.out]; omega
      rw [show isBad (.ok i) = false from rfl] at c2
      rw [show atS (.ok i) = i from rfl] at c1
      have hlen : t.length ≤ L.length := mod_few HR.out
      have htok : Tok 9000 t := mod_tok HS.out HR.out
      have HFIT := Lib.hid (whole_fit htok.whole (by have := HL4.out; omega))
      have HLT := Lib.hid (show t.length ≤ 4000 by have := HL4.out; omega)
      have CK := Lib.hid (rcheck_any t _ w1 (HK.out.row.nds HFIT.out) HLT.out (fun x hx => (htok.nodes x hx).2))
      have HROW := Lib.hid HK.out.row
      have HANS : Hid (∀ e w', Below w1.heap.size w1 w' → ((checkL t).1 = 0 ∧ e = .returned (.tuple #[.slice q1 q2 q3, .int .i64 0, .int .i64 0]) ∨ (checkL t).1 ≠ 0 ∧ e = .returned (.tuple #[.slice none 0 0, .int .i64 (checkL t).1, .int .i64 0])) → ∃ t s', ModRun L t s' ∧ Below w.heap.size w w' ∧ TreeRf L w e w' t s') := Lib.hid (fun e w' hb he => by
        refine ⟨t, .ok i, HR.out, chain2 HB1.out hb, ?_⟩
        show if (checkL t).1 = 0 then _ else _
        rcases he with ⟨hz, he⟩ | ⟨hz, he⟩
        · rw [if_pos hz]
          exact ⟨_, he, (HROW.out.only (Only.of_below (F := fun _ => False) hb) (fun _ _ h => h.elim)).weaken (fun i _ hi => by simp; omega), HFIT.out, HLT.out⟩
        · rw [if_neg hz]
          exact he)
      unfold pairV at CK
      clear hlen htok hi hbad hkn hfew hc HK HTK
      generalize (checkL t).2 = cz at *
      generalize (checkL t).1 = ce at *
      by_cases hz : ce = 0
      · subst hz
        go_wp2_with (go_at_call 41; refine CK.out.mono ?_; rintro e w2 ⟨rfl, hb2⟩; have HB2 := Lib.hid hb2; clear hb2)
        go_ret3
        exact HANS.out _ _ HB2.out (.inl ⟨trivial, rfl⟩)
      · have z2 : (ce != 0) = true := by simpa using hz
        have HZ := Lib.hid hz
        clear hz
        go_wp2_with (go_at_call 41; refine CK.out.mono ?_; rintro e w2 ⟨rfl, hb2⟩; have HB2 := Lib.hid hb2; clear hb2)
        go_ret3
        exact HANS.out _ _ HB2.out (.inr ⟨HZ.out, rfl⟩)

theorem rtree_form {L : List Tk} {w w' : World} {e : Ending} {t : List Nd} {s : St} (h : TreeRf L w e w' t s) : ∃ v a b, e = .returned (.tuple #[v, .int .i64 a, .int .i64 b]) := by
  cases s with
  | bad k => exact ⟨_, _, _, h⟩
  | ok i =>
    have h' : if (checkL t).1 = 0 then _ else _ := h
    by_cases hc : (checkL t).1 = 0
    · rw [if_pos hc] at h'
      obtain ⟨v, he, hr⟩ := h'
      exact ⟨_, _, _, he⟩
    · rw [if_neg hc] at h'
      exact ⟨_, _, _, h'⟩
theorem TreeRf.base {L : List Tk} {w w1 w' : World} {e : Ending} {t : List Nd} {s : St} (h : TreeRf L w1 e w' t s) (hw : w.heap.size ≤ w1.heap.size) : TreeRf L w e w' t s := by
  cases s with
  | bad k => exact h
  | ok i =>
    have h' : if (checkL t).1 = 0 then _ else _ := h
    show if (checkL t).1 = 0 then _ else _
    by_cases hc : (checkL t).1 = 0
    · rw [if_pos hc] at h' ⊢
      obtain ⟨v, he, hr, hf⟩ := h'
      exact ⟨v, he, hr.weaken (fun i _ hi => by omega), hf⟩
    · rw [if_neg hc] at h' ⊢
      exact h'

/-- What the document's Text answers. -/
structure TextRf (l : List UInt8) (w : World) (e : Ending) (w' : World) : Prop where
  yes : ∀ L, scanL 0 l = .toks L → ∃ t s', ModRun L t s' ∧ TreeRf L w e w' t s'
  bad : ∀ k a, scanL 0 l = .bad k a → e = .returned (.tuple #[.slice none 0 0, .int .i64 (k : Int), .int .i64 (a : Int)])
  below : Below w.heap.size w w'

end Go.Proofs.YtemlceicmpcboaaGreatDoor.Pa
namespace Go.Proofs.YtemlceicmpcboaaGreatDoor.Pa
open Go.RowKit Go.Shelf Dk Lx Tr

set_option maxHeartbeats 4000000 in
set_option maxRecDepth 100000 in
theorem rtext_any (s : ByteArray) (hs : s.size ≤ 4000) (w : World) : Calls Tryz.prog 15 #[.string s] w fun e w' => TextRf s.data.toList w e w' := by
  have HS := Lib.hid (rscan_any s w)
  have hl : s.data.toList.length ≤ 4000 := by simpa using hs
  have HL : Hid (s.data.toList.length ≤ 8192) := Lib.hid (by omega)
  cases hsc : scanL 0 s.data.toList with
  | bad k a =>
    have hka := scan_bad_at _ 0 _ k a (Nat.lt_succ_self _) hsc
    have HC := Lib.hid hsc
    have hk0 : ¬(k : Int) = 0 := by omega
    clear hl hsc hka hs
    go_enter Tryz.func15, Tryz.ntmps15
    go_wp2_with (go_at_call 37; refine HS.out.mono ?_; rintro e w1 ⟨-, hbad, -, hb⟩; obtain rfl := hbad _ _ HL.out HC.out)
    go_ret3
    exact ⟨fun _ h => (by rw [HC.out] at h; cases h), fun k' a' h => (by rw [HC.out] at h; cases h; rfl), hb⟩
  | toks L =>
    obtain ⟨a1, a2, a3⟩ := toks_any hsc HL.out
    have a4 : L.length ≤ 4000 := by have := (scans_few (scans_iff.1 hsc)).1; omega
    have HT := Lib.hid (fun (v : Value) (w1 : World) (h : TR w w1 v L) => rtree_any L v w1 h.toks a4 a2 a3)
    have HC := Lib.hid hsc
    clear hl hsc a1 a2 a3 a4 hs
    go_enter Tryz.func15, Tryz.ntmps15
    go_wp2_with (first
      | (go_at_call 37; refine HS.out.mono ?_; rintro e w1 ⟨hyes, -, -, hb⟩; obtain ⟨v1, rfl, hv1⟩ := hyes _ HL.out HC.out; clear hyes)
      | (go_at_call 19; refine (HT.out _ _ hv1).mono ?_; rintro e w2 ⟨t, s', hrun, hb2, hok⟩; obtain ⟨v2, ea, eb, rfl⟩ := rtree_form hok))
    go_ret3
    exact ⟨fun _ h => (by rw [HC.out] at h; cases h; exact ⟨t, s', hrun, hok.base hb.size⟩), fun _ _ h => (by rw [HC.out] at h; cases h), chain2 hb hb2⟩

end Go.Proofs.YtemlceicmpcboaaGreatDoor.Pa
namespace Go.Proofs.YtemlceicmpcboaaGreatDoor.Pa
open Go.RowKit Go.Shelf Dk Lx Tr

/-- A fault and its place, and the tree. -/
structure Outs (E P : Int) (T : List Nd) : Prop where
  few : T.length ≤ 4000
  fit : Fit T
  good : E = 0 → checkL T = (0, 0) ∧ Tok 9000 T
  bad : E ≠ 0 → T = []
/-- The program's answer. -/
def PrA (w w' : World) (e : Ending) (E P : Int) (T : List Nd) : Prop := ∃ v, e = .returned (.tuple #[v, .int .i64 E, .int .i64 P]) ∧ NR w w' v T
/-- The document's answer. -/
def RfAn (w w' : World) (e : Ending) (E P : Int) (T : List Nd) : Prop := ∃ v, e = .returned (.tuple #[v, .int .i64 E, .int .i64 P]) ∧ NdX w' (fun k => k < w.heap.size) v T ∧ Below w.heap.size w w'

theorem tree_outs (L : List Tk) (hL : L.length ≤ 4000) (hS : TkS 9000 L) : ∃ E P T, Outs E P T ∧ (∀ t s' w e w', ModRun L t s' → Below w.heap.size w w' → TreeOk L w e w' t s' → PrA w w' e E P T) ∧ (∀ t s' w e w', ModRun L t s' → Below w.heap.size w w' → TreeRf L w e w' t s' → RfAn w w' e E P T) := by
  by_cases h : ∃ t s', ModRun L t s'
  · obtain ⟨t, s, hr⟩ := h
    cases s with
    | bad k =>
      refine ⟨10, offK L k, [], ⟨Nat.zero_le _, (fun x hx => by cases hx), (fun h => absurd h (by decide)), fun _ => rfl⟩, fun t' s' w e w' h1 hb h2 => ?_, fun t' s' w e w' h1 hb h2 => ?_⟩
      · rcases run_one hr h1 with ⟨k', h3, rfl⟩ | ⟨i, j, h3, -, -⟩
        · cases h3
          exact ⟨_, h2, (NR.first w).later hb⟩
        · cases h3
      · rcases run_one hr h1 with ⟨k', h3, rfl⟩ | ⟨i, j, h3, -, -⟩
        · cases h3
          exact ⟨_, h2, NdX.nil _ _, hb⟩
        · cases h3
    | ok i =>
      have hlen : t.length ≤ L.length := mod_few hr
      have htok : Tok 9000 t := mod_tok hS hr
      have hfit : Fit t := whole_fit htok.whole (by omega)
      by_cases hc : (checkL t).1 = 0
      · refine ⟨0, 0, t, ⟨by omega, hfit, (fun _ => ⟨checkL_zero hc, htok⟩), fun h => absurd rfl h⟩, fun t' s' w e w' h1 hb h2 => ?_, fun t' s' w e w' h1 hb h2 => ?_⟩
        · rcases run_one hr h1 with ⟨k', h3, -⟩ | ⟨i, j, -, rfl, rfl⟩
          · cases h3
          · have h' : if (checkL t).1 = 0 then _ else _ := h2
            rw [if_pos hc] at h'
            obtain ⟨v, he, hrow, -⟩ := h'
            exact ⟨v, he, hrow, hb⟩
        · rcases run_one hr h1 with ⟨k', h3, -⟩ | ⟨i, j, -, rfl, rfl⟩
          · cases h3
          · have h' : if (checkL t).1 = 0 then _ else _ := h2
            rw [if_pos hc] at h'
            obtain ⟨v, he, hrow, -⟩ := h'
            exact ⟨v, he, hrow, hb⟩
      · refine ⟨(checkL t).1, 0, [], ⟨Nat.zero_le _, (fun x hx => by cases hx), (fun h => absurd h hc), fun _ => rfl⟩, fun t' s' w e w' h1 hb h2 => ?_, fun t' s' w e w' h1 hb h2 => ?_⟩
        · rcases run_one hr h1 with ⟨k', h3, -⟩ | ⟨i, j, -, rfl, rfl⟩
          · cases h3
          · have h' : if (checkL t).1 = 0 then _ else _ := h2
            rw [if_neg hc] at h'
            exact ⟨_, h', (NR.first w).later hb⟩
        · rcases run_one hr h1 with ⟨k', h3, -⟩ | ⟨i, j, -, rfl, rfl⟩
          · cases h3
          · have h' : if (checkL t).1 = 0 then _ else _ := h2
            rw [if_neg hc] at h'
            exact ⟨_, h', NdX.nil _ _, hb⟩
  · exact ⟨1, 0, [], ⟨Nat.zero_le _, (fun x hx => by cases hx), (fun h => absurd h (by decide)), fun _ => rfl⟩, fun t s' _ _ _ h1 => absurd ⟨t, s', h1⟩ h, fun t s' _ _ _ h1 => absurd ⟨t, s', h1⟩ h⟩

/-- Both at a row of tokens. -/
theorem tree_both (L : List Tk) (hL : L.length ≤ 4000) (hp : Places L) (hS : TkS 9000 L) : ∃ E P T, Outs E P T ∧
    (∀ v w, ToksW w v L → Calls Tryz.prog 18 #[v] w fun e w' => PrA w w' e E P T) ∧
    (∀ v w, ToksW w v L → Calls Tryz.prog 19 #[v] w fun e w' => RfAn w w' e E P T) := by
  obtain ⟨E, P, T, ho, h1, h2⟩ := tree_outs L hL hS
  exact ⟨E, P, T, ho, fun v w hv => (tree_any L v w hv (by omega) hp hS).mono fun e w' ⟨t, s', hr, hb, hok⟩ => h1 t s' w e w' hr hb hok,
    fun v w hv => (rtree_any L v w hv hL hp hS).mono fun e w' ⟨t, s', hr, hb, hok⟩ => h2 t s' w e w' hr hb hok⟩

/-- Both at a text. -/
theorem text_both (s : ByteArray) (hs : s.size ≤ 4000) : ∃ E P T, Outs E P T ∧
    (∀ w, HasE w → Calls Tryz.prog 14 #[.string s] w fun e w' => PrA w w' e E P T) ∧
    (∀ w, Calls Tryz.prog 15 #[.string s] w fun e w' => RfAn w w' e E P T) := by
  have hl : s.data.toList.length ≤ 4000 := by simpa using hs
  cases hsc : scanL 0 s.data.toList with
  | bad k a =>
    have hka := scan_bad_at _ 0 _ k a (Nat.lt_succ_self _) hsc
    refine ⟨(k : Int), (a : Int), [], ⟨Nat.zero_le _, (fun x hx => by cases hx), (fun h => absurd h (by omega)), fun _ => rfl⟩, fun w HE => ?_, fun w => ?_⟩
    · exact (text_any s w HE).mono fun e w' hk => ⟨_, hk.bad k a (by omega) hsc, (NR.first w).later hk.below⟩
    · exact (rtext_any s hs w).mono fun e w' hk => ⟨_, hk.bad k a hsc, NdX.nil _ _, hk.below⟩
  | toks L =>
    obtain ⟨a1, a2, a3⟩ := toks_any hsc (by omega)
    have a4 : L.length ≤ 4000 := by have := (scans_few (scans_iff.1 hsc)).1; omega
    obtain ⟨E, P, T, ho, h1, h2⟩ := tree_outs L a4 a3
    refine ⟨E, P, T, ho, fun w HE => ?_, fun w => ?_⟩
    · exact (text_any s w HE).mono fun e w' hk => by
        obtain ⟨t, s', hr, hok⟩ := hk.yes L (by omega) hsc
        exact h1 t s' w e w' hr hk.below hok
    · exact (rtext_any s hs w).mono fun e w' hk => by
        obtain ⟨t, s', hr, hok⟩ := hk.yes L hsc
        exact h2 t s' w e w' hr hk.below hok

end Go.Proofs.YtemlceicmpcboaaGreatDoor.Pa
