/- What Text answers, by what its text is. Parts of slices of nodes; the texts of the law ParseMore. No condition but those that each states. -/
import Derived.Test.YtbbkogjkpehmjaaGreatDoorMgO
import Derived.Test.YtbbkogjkpehmjaaGreatDoorMgP
namespace Go.Proofs.YtbbkogjkpehmjaaGreatDoor.Pa
open Go.RowKit Go.Shelf Dk Lx Tr

/-- A text that is a module's. -/
structure Goods (l : List UInt8) (L : List Tk) (t : List Nd) : Prop where
  small : l.length ≤ 8192
  scan : scanL 0 l = .toks L
  run : To L (.run [.mod] [] 0) (.fin [t])
  right : (checkL t).1 = 0
theorem Goods.len {l : List UInt8} {L : List Tk} {t : List Nd} (h : Goods l L t) : 0 < t.length ∧ t.length ≤ 2000 := by
  obtain ⟨h1, h2, -⟩ := check_ok h.right
  exact ⟨h2, h1⟩
theorem Goods.few {l : List UInt8} {L : List Tk} {t : List Nd} (h : Goods l L t) : L.length ≤ l.length := (scans_few (scans_iff.1 h.scan)).1
theorem Goods.short {l : List UInt8} {L : List Tk} {t : List Nd} (h : Goods l L t) : TkS 9000 L := (toks_any h.scan h.small).2.2
theorem Goods.same {l : List UInt8} {L L' : List Tk} {t t' : List Nd} (h : Goods l L t) (h' : Goods l L' t') : L = L' ∧ t = t' := by
  have h1 := h.scan
  rw [h'.scan] at h1
  cases h1
  have := To.one_end h.run h'.run rfl rfl
  cases this
  exact ⟨rfl, rfl⟩

theorem strOf_len (l : List UInt8) : (strOf l).data.toList = l := strOf_toList l
/-- A module's text: its nodes. -/
theorem text_good {l : List UInt8} {L : List Tk} {t : List Nd} (h : Goods l L t) (W : World) (HE : HasE W) :
    Calls Tryz.prog 13 #[.string (strOf l)] W fun e w' => ∃ v, e = .returned (.tuple #[v, .int .i64 0, .int .i64 0]) ∧ NR W w' v t ∧ Fit t :=
  (text_any (strOf l) W HE).mono fun e w' hk => by
    rw [strOf_toList] at hk
    obtain ⟨t', s', hr, hok⟩ := hk.yes L h.small h.scan
    rcases run_one (s := .ok 0) (show ModRun L t (.ok 0) from h.run) hr with ⟨k, h1, -⟩ | ⟨i, j, -, rfl, rfl⟩
    · cases h1
    · have h' : if (checkL t).1 = 0 then _ else _ := hok
      rw [if_pos h.right] at h'
      obtain ⟨v, he, hrow, hf⟩ := h'
      exact ⟨v, he, ⟨hrow, hk.below⟩, hf⟩
/-- One that is read, but whose tree is not right. -/
theorem text_odd {l : List UInt8} {L : List Tk} {t : List Nd} (hl : l.length ≤ 8192) (hs : scanL 0 l = .toks L) (hrun : To L (.run [.mod] [] 0) (.fin [t])) (hc : (checkL t).1 ≠ 0) (W : World) (HE : HasE W) :
    Calls Tryz.prog 13 #[.string (strOf l)] W fun e w' => e = .returned (.tuple #[.slice none 0 0, .int .i64 (checkL t).1, .int .i64 0]) ∧ Below W.heap.size W w' :=
  (text_any (strOf l) W HE).mono fun e w' hk => by
    rw [strOf_toList] at hk
    obtain ⟨t', s', hr, hok⟩ := hk.yes L hl hs
    rcases run_one (s := .ok 0) (show ModRun L t (.ok 0) from hrun) hr with ⟨k, h1, -⟩ | ⟨i, j, -, rfl, rfl⟩
    · cases h1
    · have h' : if (checkL t).1 = 0 then _ else _ := hok
      rw [if_neg hc] at h'
      exact ⟨h', hk.below⟩
/-- One that is none. -/
theorem text_none {l : List UInt8} (h : ¬∃ L t, Goods l L t) (W : World) (HE : HasE W) :
    Calls Tryz.prog 13 #[.string (strOf l)] W fun e w' => (∃ k a : Int, e = .returned (.tuple #[.slice none 0 0, .int .i64 k, .int .i64 a]) ∧ k ≠ 0) ∧ Below W.heap.size W w' :=
  (text_any (strOf l) W HE).mono fun e w' hk => by
    rw [strOf_toList] at hk
    refine ⟨?_, hk.below⟩
    by_cases hl : l.length ≤ 8192
    case neg => exact ⟨3, 0, hk.big hl, by decide⟩
    cases hsc : scanL 0 l with
    | bad k a =>
      have hka := scan_bad_at _ 0 _ k a (Nat.lt_succ_self _) hsc
      exact ⟨k, a, hk.bad k a hl hsc, by omega⟩
    | toks L =>
      obtain ⟨t, s', hr, hok⟩ := hk.yes L hl hsc
      cases s' with
      | bad k => exact ⟨10, _, hok, by decide⟩
      | ok i =>
        have h' : if (checkL t).1 = 0 then _ else _ := hok
        by_cases hc : (checkL t).1 = 0
        · exact absurd ⟨L, t, hl, hsc, hr, hc⟩ h
        · rw [if_neg hc] at h'
          exact ⟨_, 0, h', hc⟩
/-- Whatever the text. -/
theorem text_some (l : List UInt8) (W : World) (HE : HasE W) :
    Calls Tryz.prog 13 #[.string (strOf l)] W fun e w' => (∃ v k a, e = .returned (.tuple #[v, .int .i64 k, .int .i64 a])) ∧ Below W.heap.size W w' := by
  by_cases h : ∃ L t, Goods l L t
  · obtain ⟨L, t, h⟩ := h
    exact (text_good h W HE).mono fun e w' ⟨v, he, hr, _⟩ => ⟨⟨v, 0, 0, he⟩, hr.below⟩
  · exact (text_none h W HE).mono fun e w' ⟨⟨k, a, he, _⟩, hb⟩ => ⟨⟨_, k, a, he⟩, hb⟩
/-- Two rows alike in whatever blocks. -/
theorem same_nodes (T : List Nd) (v u : Value) (w : World) (ha : Nds w v T) (hb : Nds w u T) (hl : T.length ≤ 4000) :
    Calls Tryz.prog 15 #[v, u] w fun e w' => e = .returned (.bool true) ∧ Below w.heap.size w w' :=
  (rsame_any T T v u w ha hb hl hl).mono fun e w' ⟨he, hb⟩ => ⟨by rw [he]; simp, hb⟩

end Go.Proofs.YtbbkogjkpehmjaaGreatDoor.Pa
namespace Go.Proofs.YtbbkogjkpehmjaaGreatDoor.Pa
open Go.RowKit Go.Shelf Dk Lx Tr

theorem nd_size' (W : World) : (sizeOf (Tryz.prog.elem 23)).run Tryz.prog W = .ok 5 W := by kernel_rfl
/-- The nodes from a place on. -/
theorem nd_from {T : List Nd} {W : World} {g o c k : Nat} (hg : g < W.heap.size) (hr : W.rangeAt g o (ncells T)) (hk : k ≤ T.length) (hc : T.length ≤ c) (hf : Fit T) :
    ∃ q, (∀ W', (Instr.slice 23 (.slice (some ⟨g, o, none⟩) T.length c) (some (.int .i64 (k : Int))) none none).run Tryz.prog W' = .ok (.slice q (T.length - k) (c - k)) W') ∧ Nds W (.slice q (T.length - k) (c - k)) (T.drop k) := by
  have hl : (T.drop k).length = T.length - k := List.length_drop
  refine ⟨if c = k then some ⟨g, o, none⟩ else some ⟨g, o + k * 5, none⟩, fun W' => ?_, ?_⟩
  · rw [run_slice_l W' 23 _ T.length c (by kernel_rfl) .i64 (k : Int) (by omega) (by omega), nd_size']
    show Result.ok (Value.slice (if c = k then some ⟨g, o, none⟩ else (some (⟨g, o, none⟩ : Addr)).map (·.add (k * 5))) (T.length - k) (c - k)) W' = _
    simp [Addr.add_mid]
  · by_cases hck : c = k
    · refine ⟨_, _, by rw [hl], by rw [hl]; omega, fun x hx => hf x (List.mem_of_mem_drop hx), .inl (List.drop_eq_nil_of_le (by omega))⟩
    · rw [if_neg hck]
      refine ⟨_, _, by rw [hl], by rw [hl]; omega, fun x hx => hf x (List.mem_of_mem_drop hx), .inr ⟨g, o + k * 5, rfl, hg, ?_⟩⟩
      have := ncells_part (ts := T) (i := k) (n := T.length - k) (by omega) hr
      rwa [List.take_of_length_le (by rw [hl]; exact Nat.le_refl _)] at this
/-- The nodes between two places. -/
theorem nd_mid {T : List Nd} {W : World} {g o c k m : Nat} (hg : g < W.heap.size) (hr : W.rangeAt g o (ncells T)) (hk : k ≤ m) (hm : m ≤ T.length) (hc : T.length ≤ c) (hf : Fit T) :
    ∃ q, (∀ W', (Instr.slice 23 (.slice (some ⟨g, o, none⟩) T.length c) (some (.int .i64 (k : Int))) (some (.int .i64 (m : Int))) none).run Tryz.prog W' = .ok (.slice q (m - k) (c - k)) W') ∧ Nds W (.slice q (m - k) (c - k)) ((T.drop k).take (m - k)) := by
  have hl : ((T.drop k).take (m - k)).length = m - k := by rw [List.length_take, List.length_drop]; omega
  have hff : Fit ((T.drop k).take (m - k)) := fun x hx => hf x (List.mem_of_mem_drop (List.mem_of_mem_take hx))
  refine ⟨if c = k then some ⟨g, o, none⟩ else some ⟨g, o + k * 5, none⟩, fun W' => ?_, ?_⟩
  · rw [run_slice_lh W' 23 _ T.length c (by kernel_rfl) .i64 .i64 (k : Int) (m : Int) (by omega) (by omega) (by omega), nd_size']
    show Result.ok (sliced _ (k : Int).toNat ((m : Int)).toNat c 5) W' = _
    rw [Int.toNat_natCast, Int.toNat_natCast]
    unfold sliced
    simp [Addr.add_mid]
  · refine ⟨_, _, by rw [hl], by rw [hl]; omega, hff, ?_⟩
    by_cases hck : c = k
    · exact .inl (List.eq_nil_of_length_eq_zero (by rw [hl]; omega))
    · exact .inr ⟨g, o + k * 5, if_neg hck, hg, ncells_part (ts := T) (i := k) (n := m - k) (by omega) hr⟩

/-! the texts of ParseMore -/
def hmB : List UInt8 := [109, 111, 100, 117, 108, 101, 32, 109, 32, 49, 59]
def hdB : List UInt8 := [109, 111, 100, 117, 108, 101, 32, 109, 32, 49, 59, 32]
theorem hm_scan : scanL 0 hmB = .toks (toksOf hmB) := by decide +kernel
theorem hm_len : (toksOf hmB).length = 4 := by decide +kernel
theorem hm_free : ∀ c ∈ hmB, c.toNat ≠ 35 := by decide
theorem hd_scan (r : List UInt8) : ∃ H : List Tk, H = (toksOf hmB).map (moved ((0 : Nat) - (0 : Nat) : Int)) ∧ H.length = 4 ∧ scanL 0 (hdB ++ r) = ahead H (scanL 12 r) := by
  refine ⟨_, rfl, by rw [List.length_map]; exact hm_len, ?_⟩
  obtain ⟨o, h1, h2⟩ := scans_app (scans_iff.1 hm_scan)
  have := h2 32 r 0 sep32
  rw [h1 hm_free, scanR_false, scan_blank] at this
  exact this
theorem shuts10 (rest : List UInt8) : Shuts (10 :: rest) := fun l h => text_none10 rest l h

theorem line_scan {p : Nat} {A : List UInt8} {x : List Tk} (h : scanL p (A ++ [10]) = .toks x) : Scans p A x := by
  cases hs : scanL p A with
  | bad e a =>
    have := scan_bad_app sep10 (shuts10 []) (A.length + 1) A p p (Nat.lt_succ_self _) (by rw [hs]; rfl)
    rw [h] at this; cases this
  | toks y =>
    have hy := scans_iff.1 hs
    obtain ⟨d, hj⟩ := scans_join hy (Scans.done 0 [] rfl)
    have := scans_iff.2 hj
    rw [h] at this
    rw [List.map_nil, List.append_nil] at this
    cases this
    exact hy

theorem more_text {A B : List UInt8} {L1 L2 : List Tk} {t1 t2 : List Nd} (hX : Goods (hdB ++ A ++ [10]) L1 t1) (hY : Goods (hdB ++ B ++ [10]) L2 t2) (hu : ∀ y ∈ t2, y.kind ≠ 2) :
    ∃ x x2 ks ks2 L3, t1 = join x ks ∧ t2 = join x2 ks2 ∧ scanL 0 (hdB ++ A ++ [10] ++ B ++ [10]) = .toks L3 ∧ To L3 (.run [.mod] [] 0) (.fin [join x (ks ++ ks2)]) ∧
      checkL (join x (ks ++ ks2)) = (if 2000 < (join x (ks ++ ks2)).length then (3, 0) else (0, 0)) ∧ ks.length ≤ ks.flatten.length ∧ ks2.length ≤ ks2.flatten.length := by
  obtain ⟨H, hH, hHl, s1⟩ := hd_scan (A ++ [10])
  obtain ⟨H2, hH2, -, s2⟩ := hd_scan (B ++ [10])
  obtain ⟨H3, hH3, -, s3⟩ := hd_scan (A ++ 10 :: (B ++ [10]))
  obtain rfl : H2 = H := hH2.trans hH.symm
  obtain rfl : H3 = H2 := hH3.trans hH.symm
  have x1 := hX.scan
  have x2 := hY.scan
  rw [List.append_assoc, s1] at x1
  rw [List.append_assoc, s2] at x2
  cases a1 : scanL 12 (A ++ [10]) with
  | bad e a => rw [a1] at x1; cases x1
  | toks LA =>
  cases a2 : scanL 12 (B ++ [10]) with
  | bad e a => rw [a2] at x2; cases x2
  | toks LB =>
  rw [a1] at x1
  rw [a2] at x2
  cases x1
  cases x2
  obtain ⟨d, hj⟩ := scans_join (line_scan a1) (scans_iff.1 a2)
  have a3 := scans_iff.2 hj
  rw [a3] at s3
  have e3 : hdB ++ A ++ [10] ++ B ++ [10] = hdB ++ (A ++ 10 :: (B ++ [10])) := by simp
  obtain ⟨x, x', ks, ks2, h1, h2, h3, h4⟩ := more_pure (L3 := H3 ++ (LA ++ LB.map (moved d))) hX.short hY.short hX.run hY.run hX.right hY.right
    (fun u hu => by rw [← List.append_assoc, lk_app_left hu]; exact Alk.refl _)
    (fun u => by
      rw [lk_app_right (A := H3) (by omega), hHl, show 4 + u - 4 = u by omega, ← List.append_assoc, lk_app_right (A := H3 ++ LA) (by omega), show (H3 ++ LA).length + u - (H3 ++ LA).length = u by omega]
      exact lk_moved d LB u)
    (by simp only [List.length_append, List.length_map]; omega) hu
  exact ⟨x, x', ks, ks2, _, h1, h2, by rw [e3, s3]; rfl, h3, h4⟩

end Go.Proofs.YtbbkogjkpehmjaaGreatDoor.Pa
