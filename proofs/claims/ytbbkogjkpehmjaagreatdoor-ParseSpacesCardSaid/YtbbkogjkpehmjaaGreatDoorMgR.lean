/- Parts of a slice of tokens. The walk of the law ParseFirst. No condition but those that each states. -/
import Derived.Test.YtbbkogjkpehmjaaGreatDoorMgC
import Derived.Test.YtbbkogjkpehmjaaGreatDoorPdJ
namespace Go.Proofs.YtbbkogjkpehmjaaGreatDoor.Lx
open Go.RowKit Dk

/-! parts of a slice of tokens -/
theorem tok_size (W : World) : (sizeOf (Tryz.prog.elem 31)).run Tryz.prog W = .ok 4 W := by kernel_rfl
theorem slice_to (p : Option Addr) (n c k : Nat) (hk : k ≤ c) (hp : p = none ∨ ∃ g o, p = some ⟨g, o, none⟩) (W : World) :
    (Instr.slice 31 (.slice p n c) none (some (.int .i64 (k : Int))) none).run Tryz.prog W = .ok (.slice p k c) W := by
  rw [run_slice_h W 31 p n c (by kernel_rfl) .i64 (k : Int) (by omega) (by omega), tok_size]
  show Result.ok (sliced p 0 (k : Int).toNat c 4) W = _
  unfold sliced
  rcases hp with rfl | ⟨g, o, rfl⟩
  · simp
  · simp [Addr.add_mid]
theorem slice_from (p : Option Addr) (n c k : Nat) (hk : k ≤ n) (W : World) :
    (Instr.slice 31 (.slice p n c) (some (.int .i64 (k : Int))) none none).run Tryz.prog W = .ok (.slice (if c = k then p else p.map (·.add (k * 4))) (n - k) (c - k)) W := by
  rw [run_slice_l W 31 p n c (by kernel_rfl) .i64 (k : Int) (by omega) (by omega), tok_size]
  rfl

theorem tcells_split (ts : List Tk) (k : Nat) (hk : k ≤ ts.length) : tcells ts = tcells (ts.take k) ++ tcells (ts.drop k) ∧ (tcells (ts.take k)).length = k * 4 := by
  constructor
  · rw [← tcells_app, List.take_append_drop]
  · rw [tcells_length, List.length_take, Nat.min_eq_left hk]

/-- The first tokens of a slice, and the others. -/
theorem Toks.parts {W : World} {p : Option Addr} {c : Nat} {ts : List Tk} (h : Toks W (.slice p ts.length c) ts) (k : Nat) (hk : k ≤ ts.length) :
    (∀ W', (Instr.slice 31 (.slice p ts.length c) none (some (.int .i64 (k : Int))) none).run Tryz.prog W' = .ok (.slice p k c) W') ∧ Toks W (.slice p k c) (ts.take k) ∧
    ∃ q, (∀ W', (Instr.slice 31 (.slice p ts.length c) (some (.int .i64 (k : Int))) none none).run Tryz.prog W' = .ok (.slice q (ts.length - k) (c - k)) W') ∧ Toks W (.slice q (ts.length - k) (c - k)) (ts.drop k) := by
  obtain ⟨p', c', e, hc, hp⟩ := h
  cases e
  have hkc : k ≤ c := by omega
  have hform : ts = [] ∨ ∃ g o, p = some ⟨g, o, none⟩ ∧ g < W.heap.size ∧ W.rangeAt g o (tcells ts) := hp
  have hl1 : (ts.take k).length = k := by rw [List.length_take, Nat.min_eq_left hk]
  have hl2 : (ts.drop k).length = ts.length - k := List.length_drop
  have hz : ts = [] → k = 0 := fun h => by subst h; simpa using hk
  refine ⟨?_, ?_, ?_⟩
  · intro W'
    rcases hform with rfl | ⟨g, o, rfl, -, -⟩
    · have := hz rfl
      subst this
      rw [show (([] : List Tk).length) = 0 from rfl, run_slice_h W' 31 p 0 c (by kernel_rfl) .i64 ((0 : Nat) : Int) (by omega) (by omega), tok_size]
      show Result.ok (sliced p 0 0 c 4) W' = _
      unfold sliced
      cases p with
      | none => simp
      | some a => cases a; simp [Addr.add]
    · exact slice_to _ _ _ _ hkc (.inr ⟨g, o, rfl⟩) W'
  · refine ⟨p, c, by rw [hl1], by rw [hl1]; exact hkc, ?_⟩
    rcases hform with rfl | ⟨g, o, rfl, hg, hr⟩
    · exact .inl (by simp)
    · refine .inr ⟨g, o, rfl, hg, ?_⟩
      rw [(tcells_split ts k hk).1] at hr
      exact rangeAt_left hr
  · refine ⟨_, fun W' => slice_from p _ c k hk W', _, _, by rw [hl2], by rw [hl2]; omega, ?_⟩
    by_cases hck : c = k
    · exact .inl (List.drop_eq_nil_of_le (by omega))
    · rw [if_neg hck]
      rcases hform with rfl | ⟨g, o, rfl, hg, hr⟩
      · exact .inl (by simp)
      · refine .inr ⟨g, o + k * 4, by simp [Addr.add_mid], hg, ?_⟩
        rw [(tcells_split ts k hk).1] at hr
        exact rangeAt_right hr (tcells_split ts k hk).2.symm

end Go.Proofs.YtbbkogjkpehmjaaGreatDoor.Lx
namespace Go.Proofs.YtbbkogjkpehmjaaGreatDoor.Pa
open Go.RowKit Go.Shelf Dk Lx Tr

theorem wf_i64 {n : Int} (h : (Lit.int .i64 n).wf = true) : -9223372036854775808 ≤ n ∧ n ≤ 9223372036854775807 := by
  simp [Lit.wf, IntKind.min, IntKind.max, IntKind.signed, IntKind.bits] at h; omega
def cntI (n : Int) (m : Nat) : Int := if n < 0 then (-(n + 1)) % (m : Int) else n % (m : Int)
set_option maxHeartbeats 1000000 in
theorem cntI_any (n : Int) (m : Nat) (w : World) (hn : (Lit.int .i64 n).wf = true) (hm : 0 < m) (hm2 : m ≤ 100000) :
    Calls Tryz.prog 22 #[.int .i64 n, .int .i64 (m : Int)] w fun e w' => e = .returned (.int .i64 (cntI n m)) ∧ w = w' := by
  obtain ⟨h1, h2⟩ := wf_i64 hn
  have g0 : (0 : Int) < (m : Int) := by omega
  have g1 : (m : Int) ≤ 100000 := by omega
  by_cases h0 : n < 0
  · have e : Hid (cntI n m = (-(n + 1)) % (m : Int)) := Lib.hid (by unfold cntI; rw [if_pos h0])
    have t0 : decide (n < 0) = true := decide_eq_true h0
    go_enter Tryz.func22, Tryz.ntmps22
    go_wp2
    go_ret
    exact ⟨by rw [e.out, ← Int.tmod_eq_emod_of_nonneg (by omega), Int.neg_tmod]; rfl, rfl⟩
  · have e : Hid (cntI n m = n % (m : Int)) := Lib.hid (by unfold cntI; rw [if_neg h0])
    have t0 : decide (n < 0) = false := decide_eq_false h0
    have h3 : 0 ≤ n := by omega
    go_enter Tryz.func22, Tryz.ntmps22
    go_wp2
    go_ret
    exact ⟨by rw [e.out]; rfl, rfl⟩
theorem cntI_nat (n : Int) (m : Nat) (hm : 0 < m) : ∃ k : Nat, cntI n m = (k : Int) ∧ k < m := by
  have h1 := Int.emod_nonneg n (show (m : Int) ≠ 0 by omega)
  have h2 := Int.emod_lt_of_pos n (show (0 : Int) < (m : Int) by omega)
  have h3 := Int.emod_nonneg (-(n + 1)) (show (m : Int) ≠ 0 by omega)
  have h4 := Int.emod_lt_of_pos (-(n + 1)) (show (0 : Int) < (m : Int) by omega)
  unfold cntI
  split
  · exact ⟨((-(n + 1)) % (m : Int)).toNat, by omega, by omega⟩
  · exact ⟨(n % (m : Int)).toNat, by omega, by omega⟩

theorem scan_some' (s : ByteArray) (w : World) (HE : HasE w) : Calls Tryz.prog 19 #[.string s] w fun x w' => Below w.heap.size w w' ∧ ∃ v e a, x = .returned (.tuple #[v, .int .i64 e, .int .i64 a]) :=
  (scan_any s w HE).mono fun x w' h => by
    refine ⟨h.below, ?_⟩
    by_cases hl : s.data.toList.length ≤ 8192
    · cases hs : scanL 0 s.data.toList with
      | bad e a => exact ⟨_, _, _, h.bad e a hl hs⟩
      | toks ts => obtain ⟨v, h1, _⟩ := h.yes ts hl hs; exact ⟨_, _, _, h1⟩
    · exact ⟨_, _, _, h.big hl⟩
theorem scan_good {l : List UInt8} {L : List Tk} (hl : l.length ≤ 8192) (h : scanL 0 l = .toks L) (W : World) (HE : HasE W) : Calls Tryz.prog 19 #[.string (strOf l)] W fun x w' => ∃ v, x = .returned (.tuple #[v, .int .i64 0, .int .i64 0]) ∧ TR W w' v L :=
  (scan_any (strOf l) W HE).mono fun x w' hk => by
    have := hk.yes L (by rw [strOf_toList]; exact hl) (by rw [strOf_toList]; exact h)
    exact this

/-- What Tree answers of a row that is cut. -/
theorem tree_first {l : List UInt8} {L : List Tk} {t : List Nd} (hG : Goods l L t) {k : Nat} (h0 : 0 < k) (hk : k ≤ L.length) {x : Tk} (hx : L[k - 1]? = some x) (v : Value) (W : World) (hv : ToksW W v (L.take k)) :
    Calls Tryz.prog 17 #[v] W fun e w' => Below W.heap.size W w' ∧ ((∃ v' n c : Nat, ∃ p, e = .returned (.tuple #[.slice p n c, .int .i64 0, .int .i64 0]) ∧ 0 < n ∧ v' = n) ∨ e = .returned (.tuple #[.slice none 0 0, .int .i64 10, .int .i64 (x.place + 1)])) := by
  obtain ⟨a1, a2, a3⟩ := toks_any hG.scan hG.small
  have hl : (L.take k).length = k := by rw [List.length_take]; omega
  refine (tree_any (L.take k) v W hv (by omega) (fun u hu => a2 u (List.mem_of_mem_take hu)) (fun u hu => a3 u (List.mem_of_mem_take hu))).mono ?_
  rintro e w' ⟨t', s', hr, hb, hok⟩
  refine ⟨hb, ?_⟩
  have hp := first_pure a3 hG.run hG.right hk (t' := t') (s' := s') (by cases s' <;> exact hr)
  cases s' with
  | bad b =>
    have hp' : b = k := hp
    subst hp'
    refine .inr ?_
    have h' : e = .returned (.tuple #[.slice none 0 0, .int .i64 10, .int .i64 (offK (L.take b) b)]) := hok
    rw [h']
    have : offK (L.take b) b = x.place + 1 := by
      unfold offK
      rw [List.getElem?_eq_none (by omega), List.getLast?_eq_getElem?, hl, List.getElem?_take, if_pos (by omega), hx]
    rw [this]
  | ok j =>
    have hp' : checkL t' = (0, 0) := hp
    have h' : if (checkL t').1 = 0 then _ else _ := hok
    rw [if_pos (by rw [hp'])] at h'
    obtain ⟨v', he, hrow, hf⟩ := h'
    have hpos : 0 < t'.length := (check_ok (by rw [hp'])).2.1
    refine .inl ?_
    rcases hrow.2 with ⟨-, h0'⟩ | ⟨g, cap, cur, hv', -⟩
    · omega
    · exact ⟨t'.length, t'.length, cap, _, by rw [he, hv'], hpos, rfl⟩

theorem Goods.four {l : List UInt8} {L : List Tk} {t : List Nd} (h : Goods l L t) : 4 ≤ L.length := by
  obtain ⟨a, z, -, -, h4⟩ := head_of h.run.seg
  exact h4

set_option maxHeartbeats 4000000 in
set_option maxRecDepth 100000 in
theorem first_main (l : List UInt8) (hl : l.length ≤ 2000) (cut : Int) (hcut : (Lit.int .i64 cut).wf = true) (L : List Tk) (t : List Nd) (hG : Goods l L t) (w : World) (HE : HasE w) :
    Calls Tryz.prog 7 #[.string (strOf l), .int .i64 cut] w fun e w' => e = .returned (.bool true) ∧ Below w.heap.size w w' := by
  have HHE := Lib.hid HE
  have KN := Lib.hid (fun W h => known10 W h)
  have h1 : ¬((strOf l).size : Int) > 2000 := by rw [strOf_size]; omega
  have S1 := Lib.hid (text_good hG)
  have S2 := Lib.hid (scan_good hG.small hG.scan)
  have h4 := hG.four
  have hfew := hG.few
  obtain ⟨k, hk1, hk2⟩ := cntI_nat cut (L.length - 1) (by omega)
  have CC : Hid (∀ W, Calls Tryz.prog 22 #[.int .i64 cut, .int .i64 ((L.length : Int) - 1)] W fun e w' => e = .returned (.int .i64 (k : Int)) ∧ W = w') := Lib.hid (fun W => by
    have := cntI_any cut (L.length - 1) W hcut (by omega) (by omega)
    rw [hk1, show ((L.length - 1 : Nat) : Int) = (L.length : Int) - 1 by omega] at this
    exact this)
  have hxl : L[k]? = some L[k] := List.getElem?_eq_getElem (by omega)
  have CT := Lib.hid (fun v W hv => tree_first hG (k := k + 1) (by omega) (by omega) (x := L[k]) (by rw [Nat.add_sub_cancel]; exact hxl) v W hv)
  have hpl := (toks_any hG.scan hG.small).2.1 L[k] (List.getElem_mem (by omega))
  have HCE : Hid (∀ (W : World) (g o : Nat), W.rangeAt g o (tcells L) → W.cell? ⟨g, o + k * 4 + 3, none⟩ = some (.int .i64 L[k].place)) := Lib.hid (fun W g o h => by
    have hj := tcells_at (ts := L) (i := k) (by omega) 3 (by decide)
    have := h (k * 4 + 3) (.int .i64 L[k].place) (by rw [hj]; rfl)
    rw [← Nat.add_assoc] at this
    exact this)
  obtain ⟨n, hn⟩ : ∃ n, n = L.length := ⟨_, rfl⟩
  have HN := Lib.hid hn
  have HN2 := Lib.hid (show 4 ≤ n ∧ n ≤ 2000 ∧ k + 1 < n by omega)
  generalize L[k] = X at *
  generalize strOf l = sA at *
  clear HE hG hl hxl hfew hk1 hk2 h4 hn
  go_enter Tryz.func7, Tryz.ntmps7
  go_wp2_with fail
  refine (S1.out w HHE.out).mono ?_
  rintro e w1 ⟨v1, rfl, hr1, hf1⟩
  have HB1 := Lib.hid hr1.below
  clear hr1 hf1 S1
  go_wp2_with fail
  refine (S2.out w1 (HHE.out.later HB1.out)).mono ?_
  rintro e w2 ⟨v2, rfl, hr2⟩
  have HB2 := Lib.hid (chain2 HB1.out hr2.below)
  obtain ⟨g, o, c, rfl, hc, hg, hq⟩ : ∃ g o c, v2 = .slice (some ⟨g, o, none⟩) L.length c ∧ L.length ≤ c ∧ g < w2.heap.size ∧ w2.rangeAt g o (tcells L) := by
    obtain ⟨p, c, rfl, hc, h | ⟨g, o, rfl, hg, hq⟩⟩ := hr2.toks
    · exfalso; have := HN2.out; have := HN.out; subst h; simp at this; omega
    · exact ⟨g, o, c, rfl, hc, hg, hq⟩
  have HQ := Lib.hid (show L.length ≤ c ∧ g < w2.heap.size ∧ w2.rangeAt g o (tcells L) from ⟨hc, hg, hq⟩)
  obtain ⟨hs1, ht1, -⟩ := Toks.parts (W := w2) (p := some ⟨g, o, none⟩) (c := c) (ts := L) ⟨_, _, rfl, hc, .inr ⟨g, o, rfl, hg, hq⟩⟩ (k + 1) (by have := HN2.out; have := HN.out; omega)
  have HT := Lib.hid ht1
  rw [show ((k + 1 : Nat) : Int) = 1 + (k : Int) by omega] at hs1
  rw [← HN.out] at CC hs1 ⊢
  have b1 : (n : Int) ≤ 2000 := by have := HN2.out; omega
  have b2 : ¬(n : Int) < 2 := by have := HN2.out; omega
  have b3 : IntKind.i64.wrap ((n : Int) - 1) = (n : Int) - 1 := IntWalk.i64_in _ (by omega)
  have b4 : (k : Int) + 1 < (n : Int) := by have := HN2.out; omega
  have b5 : IntKind.i64.wrap (1 + (k : Int)) = 1 + (k : Int) := IntWalk.i64_in _ (by omega)
  have b6 : (0 : Int) ≤ (k : Int) := by omega
  clear hr2 hc hg hq ht1 S2
  go_wp2_with (go_at_call 22; refine (CC.out _).mono ?_; rintro e w9 ⟨rfl, rfl⟩)
  go_wp2_with fail
  have hw : Below w2.heap.size w2 w2 := Below.refl _ _
  refine (CT.out _ w2 HT.out).mono ?_
  rintro e w3 ⟨hb3, ⟨-, nn, cc, pp, rfl, hpos, -⟩ | rfl⟩
  · have HB3 := Lib.hid (chain2 HB2.out hb3)
    have e1 : (nn : Int) > 0 := by omega
    clear hb3 hpos CT HT
    go_wp2_with (go_at_call 12; refine (KN.out _ (HHE.out.later HB3.out)).mono ?_; rintro e w6 ⟨rfl, hb6⟩; have HB6 := Lib.hid (chain2 HB3.out hb6); clear hb6)
    go_ret
    exact ⟨rfl, HB6.out⟩
  · have HB3 := Lib.hid (chain2 HB2.out hb3)
    have hc3 : w3.cell? ⟨g, o + k * 4 + 3, none⟩ = some (.int .i64 X.place) := HCE.out _ _ _ (rangeAt_block HQ.out.2.2 (hb3.block g HQ.out.2.1))
    have f1 : IntKind.i64.wrap (X.place + 1) = X.place + 1 := IntWalk.i64_in _ (by omega)
    have f2 : IntKind.i64.wrap (1 + (k : Int) - 1) = (k : Int) := by rw [show 1 + (k : Int) - 1 = (k : Int) by omega]; exact IntWalk.i64_in _ (by omega)
    have f3 : (X.place + 1 == X.place + 1) = true := by simp
    have f4 : (k : Int) < (n : Int) := by omega
    clear hb3 CT HT
    go_wp2_with (go_at_call 12; refine (KN.out _ (HHE.out.later HB3.out)).mono ?_; rintro e w6 ⟨rfl, hb6⟩; have HB6 := Lib.hid (chain2 HB3.out hb6); clear hb6)
    go_ret
    exact ⟨rfl, HB6.out⟩

set_option maxHeartbeats 4000000 in
set_option maxRecDepth 100000 in
theorem first_none (l : List UInt8) (hl : l.length ≤ 2000) (cut : Int) (hN : ¬∃ L t, Goods l L t) (w : World) (HE : HasE w) :
    Calls Tryz.prog 7 #[.string (strOf l), .int .i64 cut] w fun e w' => e = .returned (.bool true) ∧ Below w.heap.size w w' := by
  have HHE := Lib.hid HE
  have KN := Lib.hid (fun W h => known10 W h)
  have h1 : ¬((strOf l).size : Int) > 2000 := by rw [strOf_size]; omega
  have S1 := Lib.hid (text_none hN)
  have S2 := Lib.hid (fun W h => scan_some' (strOf l) W h)
  generalize strOf l = sA at *
  clear HE hN hl
  go_enter Tryz.func7, Tryz.ntmps7
  go_wp2_with fail
  refine (S1.out w HHE.out).mono ?_
  rintro e w1 ⟨⟨k1, a1, rfl, hk1⟩, hb1⟩
  have HB1 := Lib.hid hb1
  have e1 : (k1 != 0) = true := by simpa using hk1
  clear hb1 hk1 S1
  go_wp2_with fail
  refine (S2.out w1 (HHE.out.later HB1.out)).mono ?_
  rintro e w2 ⟨hb2, v2, k2, a2, rfl⟩
  have HB2 := Lib.hid (chain2 HB1.out hb2)
  clear hb2 S2
  go_wp2_with (go_at_call 12; refine (KN.out _ (HHE.out.later HB2.out)).mono ?_; rintro e w6 ⟨rfl, hb6⟩; have HB6 := Lib.hid (chain2 HB2.out hb6); clear hb6)
  go_ret
  exact ⟨rfl, HB6.out⟩

set_option maxHeartbeats 4000000 in
set_option maxRecDepth 100000 in
theorem parseFirst_law (a : ByteArray) (_ha : a.size ≤ maxLen) (cut : Int) (hcut : (Lit.int .i64 cut).wf = true) (w : World) (HE : HasE w) :
    Calls Tryz.prog 7 #[.string a, .int .i64 cut] w fun e w' => e = .returned (.bool true) ∧ Below w.heap.size w w' := by
  have KN := Lib.hid (fun W h => known10 W h)
  by_cases hs : a.size ≤ 2000
  case neg =>
    have HHE := Lib.hid HE
    have g1 : (a.size : Int) > 2000 := by omega
    clear hs HE
    go_enter Tryz.func7, Tryz.ntmps7
    go_wp2_with (go_at_call 12; refine (KN.out _ HHE.out).mono ?_; rintro e w3 ⟨rfl, hb3⟩; have HB3 := Lib.hid hb3; clear hb3)
    go_ret
    exact ⟨rfl, HB3.out⟩
  obtain ⟨l, rfl, hA⟩ := toS a
  rw [strOf_size] at hs
  by_cases hX : ∃ L t, Goods l L t
  · obtain ⟨L, t, hX⟩ := hX
    exact first_main l hs cut hcut L t hX w HE
  · exact first_none l hs cut hX w HE

end Go.Proofs.YtbbkogjkpehmjaaGreatDoor.Pa
