/- The walk of the law LexKeys. No condition but that the library's error lies where its variable is. -/
import Derived.Test.YtcfmjnhagpmnpaaDoorLxM
namespace Go.Proofs.YtcfmjnhagpmnpaaDoor.Lx
open Go.RowKit Dk

set_option maxHeartbeats 4000000 in
set_option maxRecDepth 100000 in
theorem lexKeys_key (T : List UInt8) (hb : T.length ≤ 100) (hk : isKey T = true) (w : World) (HE : HasE w) :
    Calls Tryd.prog 9 #[.string (strOf T)] w fun e w' => e = .returned (.bool true) ∧ Below w.heap.size w w' := by
  have HHE := Lib.hid HE
  have KN := Lib.hid (fun W h => known8 W h)
  obtain ⟨hn, hsc⟩ := key_scan hk
  have h1 : ¬((strOf T).size : Int) > 100 := by rw [strOf_size]; omega
  have S := Lib.hid (scan_toks _ _ hsc (by omega))
  have CK := Lib.hid (fun W => key_any T W)
  have CN := Lib.hid (fun W => name_any T W (by omega))
  rw [hk] at CK
  rw [hn] at CN
  have heq : ((strOf T).toList == (strOf T).toList) = true := by simp
  clear hb hk hn hsc HE
  go_enter Tryd.func9, Tryd.ntmps9
  go_wp2_with fail
  refine (S.out w HHE.out).mono ?_
  rintro e w2 ⟨v, rfl, hr⟩
  obtain ⟨g, cap, hv⟩ := own_form hr.row (by simp)
  have HB2 := Lib.hid hr.below
  rw [hv] at hr ⊢
  have c0 : w2.cell? ⟨g, 0, none⟩ = some (.int .i64 5) := hr.row.cellAt 0 (by simp)
  have c1 : w2.cell? ⟨g, 1, none⟩ = some (.string (strOf T)) := hr.row.cellAt 1 (by simp)
  have HC0 := Lib.hid (hr.row)
  clear hr hv S
  rw [show ([(⟨5, T, 0, 0⟩ : Tk)]).length = 1 from rfl] at HC0 ⊢
  go_wp2_with (first
    | (go_at_call 18; refine (CK.out _).mono ?_; rintro e w' ⟨rfl, rfl⟩)
    | (go_at_call 20; refine (CN.out _).mono ?_; rintro e w3 ⟨rfl, hb3⟩; have HB3 := Lib.hid (chain2 HB2.out hb3); have c3 : w3.cell? ⟨g, 0, none⟩ = some (.int .i64 5) := (hb3.cell (p := ⟨g, 0, none⟩) (own_lo HC0.out g rfl).2).trans c0; clear hb3)
    | (go_at_call 10; refine (KN.out _ (HHE.out.later HB3.out)).mono ?_; rintro e w4 ⟨rfl, hb4⟩; have HB4 := Lib.hid (chain2 HB3.out hb4); clear hb4))
  go_ret
  exact ⟨rfl, HB4.out⟩

set_option maxHeartbeats 4000000 in
set_option maxRecDepth 100000 in
theorem lexKeys_name (T : List UInt8) (hb : T.length ≤ 100) (hn : isName T = true) (w : World) (HE : HasE w) :
    Calls Tryd.prog 9 #[.string (strOf T)] w fun e w' => e = .returned (.bool true) ∧ Below w.heap.size w w' := by
  have HHE := Lib.hid HE
  have KN := Lib.hid (fun W h => known8 W h)
  have hsc := name_scan hn
  obtain ⟨c', r', -, h16, -, -, hk⟩ := isName_parts hn
  have hsz := strOf_size T
  have h1 : ¬((strOf T).size : Int) > 100 := by omega
  have h2 : ((strOf T).size : Int) ≤ 16 := by omega
  have S := Lib.hid (scan_toks _ _ hsc (by omega))
  have CK := Lib.hid (fun W => key_any T W)
  have CN := Lib.hid (fun W => name_any T W (by omega))
  rw [hk] at CK
  rw [hn] at CN
  have heq : ((strOf T).toList == (strOf T).toList) = true := by simp
  clear hb hk hn hsc HE h16 hsz
  go_enter Tryd.func9, Tryd.ntmps9
  go_wp2_with fail
  refine (S.out w HHE.out).mono ?_
  rintro e w2 ⟨v, rfl, hr⟩
  obtain ⟨g, cap, hv⟩ := own_form hr.row (by simp)
  have HB2 := Lib.hid hr.below
  rw [hv] at hr ⊢
  have c0 : w2.cell? ⟨g, 0, none⟩ = some (.int .i64 1) := hr.row.cellAt 0 (by simp)
  have c1 : w2.cell? ⟨g, 1, none⟩ = some (.string (strOf T)) := hr.row.cellAt 1 (by simp)
  have HC0 := Lib.hid (hr.row)
  clear hr hv S
  rw [show ([(⟨1, T, 0, 0⟩ : Tk)]).length = 1 from rfl] at HC0 ⊢
  go_wp2_with (first
    | (go_at_call 18; refine (CK.out _).mono ?_; rintro e w' ⟨rfl, rfl⟩)
    | (go_at_call 20; refine (CN.out _).mono ?_; rintro e w3 ⟨rfl, hb3⟩; have HB3 := Lib.hid (chain2 HB2.out hb3); have c3 : w3.cell? ⟨g, 0, none⟩ = some (.int .i64 1) := (hb3.cell (p := ⟨g, 0, none⟩) (own_lo HC0.out g rfl).2).trans c0; clear hb3)
    | (go_at_call 10; refine (KN.out _ (HHE.out.later HB3.out)).mono ?_; rintro e w4 ⟨rfl, hb4⟩; have HB4 := Lib.hid (chain2 HB3.out hb4); clear hb4))
  go_ret
  exact ⟨rfl, HB4.out⟩

/-- What Scan answers, way by way. -/
theorem scan_ways (T : List UInt8) (hl : T.length ≤ 8192) (w : World) (HE : HasE w) : Calls Tryd.prog 11 #[.string (strOf T)] w fun x w' => Below w.heap.size w w' ∧
    ((∃ ts v, Scans 0 T ts ∧ x = .returned (.tuple #[v, .int .i64 0, .int .i64 0]) ∧ TR w w' v ts) ∨ (∃ e a, scanL 0 T = .bad e a ∧ e ≠ 0 ∧ a < T.length ∧ x = .returned (.tuple #[.slice none 0 0, .int .i64 (e : Int), .int .i64 (a : Int)]))) := by
  cases h : scanL 0 T with
  | bad e a =>
    refine (scan_bad T e a h hl w HE).mono fun x w' ⟨h1, h2⟩ => ⟨h2, .inr ⟨e, a, rfl, ?_, ?_, h1⟩⟩
    · have := (scan_bad_at _ 0 T e a (Nat.lt_succ_self _) h).1; omega
    · have := (scan_bad_at _ 0 T e a (Nat.lt_succ_self _) h).2.2; omega
  | toks ts => exact (scan_toks T ts h hl w HE).mono fun x w' ⟨v, h1, h2⟩ => ⟨h2.below, .inl ⟨ts, v, scans_iff.1 h, h1, h2⟩⟩

theorem own_forms {w : World} {base size n : Nat} {e : TypeId} {v : Value} {xs : List Value} (h : w.ownsRow base e size v n xs) : ∃ p c, v = .slice p n c := by
  rcases h.2 with ⟨rfl, h0⟩ | ⟨g, cap, cur, rfl, _⟩
  · exact ⟨none, 0, by rw [h0]⟩
  · exact ⟨_, _, rfl⟩

set_option maxHeartbeats 4000000 in
set_option maxRecDepth 100000 in
theorem lexKeys_other (T : List UInt8) (hb : T.length ≤ 100) (hk : isKey T = false) (hn : isName T = false) (w : World) (HE : HasE w) :
    Calls Tryd.prog 9 #[.string (strOf T)] w fun e w' => e = .returned (.bool true) ∧ Below w.heap.size w w' := by
  have HHE := Lib.hid HE
  have KN := Lib.hid (fun W h => known8 W h)
  have h1 : ¬((strOf T).size : Int) > 100 := by rw [strOf_size]; omega
  have S := Lib.hid (scan_ways T (by omega))
  have CK := Lib.hid (fun W => key_any T W)
  have CN := Lib.hid (fun W => name_any T W (by omega))
  have HT := Lib.hid (show isKey T = false ∧ isName T = false from ⟨hk, hn⟩)
  rw [hk] at CK
  rw [hn] at CN
  clear hb hk hn HE
  go_enter Tryd.func9, Tryd.ntmps9
  go_wp2_with fail
  refine (S.out w HHE.out).mono ?_
  rintro x w2 ⟨hb2, ⟨ts, v, hs, rfl, hr⟩ | ⟨e, a, -, he, -, rfl⟩⟩
  · have HB2 := Lib.hid hb2
    clear hb2 S
    by_cases hl1 : ts.length = 1
    · obtain ⟨t, rfl⟩ := List.length_eq_one_iff.1 hl1
      obtain ⟨g, cap, hv⟩ := own_form hr.row (by simp)
      rw [hv] at hr ⊢
      have c0 : w2.cell? ⟨g, 0, none⟩ = some (.int .i64 t.kind) := hr.row.cellAt 0 (by simp)
      have c1 : w2.cell? ⟨g, 1, none⟩ = some (.string (strOf t.text)) := hr.row.cellAt 1 (by simp)
      have HC0 := Lib.hid (hr.row)
      clear hr hv
      rw [show ([t]).length = 1 from rfl] at HC0 ⊢
      have hbq := str_beq t.text T
      by_cases ht : t.text = T
      · have hkk := one_scan (scans_iff.2 hs) ht HT.out.1 HT.out.2
        rw [decide_eq_true ht] at hbq
        have n1 := hkk.1
        have n2 := hkk.2
        generalize t.kind = k at *
        generalize strOf t.text = y at *
        generalize strOf T = s at *
        clear hkk hs ht hl1
        go_wp2_with (first
          | (go_at_call 18; refine (CK.out _).mono ?_; rintro e w' ⟨rfl, rfl⟩)
          | (go_at_call 20; refine (CN.out _).mono ?_; rintro e w3 ⟨rfl, hb3⟩; have HB3 := Lib.hid (chain2 HB2.out hb3); have c3 : w3.cell? ⟨g, 0, none⟩ = some (.int .i64 k) := (hb3.cell (p := ⟨g, 0, none⟩) (own_lo HC0.out g rfl).2).trans c0; clear hb3)
          | (go_at_call 10; refine (KN.out _ (HHE.out.later HB3.out)).mono ?_; rintro e w4 ⟨rfl, hb4⟩; have HB4 := Lib.hid (chain2 HB3.out hb4); clear hb4))
        go_ret
        have e : (k != 1 && k != 5) = true := by simp [n1, n2]
        exact ⟨congrArg (fun b => Ending.returned (Value.bool b)) e, HB4.out⟩
      · rw [decide_eq_false ht] at hbq
        generalize t.kind = k at *
        generalize strOf t.text = y at *
        generalize strOf T = s at *
        clear hs ht hl1
        go_wp2_with (first
          | (go_at_call 18; refine (CK.out _).mono ?_; rintro e w' ⟨rfl, rfl⟩)
          | (go_at_call 20; refine (CN.out _).mono ?_; rintro e w3 ⟨rfl, hb3⟩; have HB3 := Lib.hid (chain2 HB2.out hb3); have c3 : w3.cell? ⟨g, 0, none⟩ = some (.int .i64 k) := (hb3.cell (p := ⟨g, 0, none⟩) (own_lo HC0.out g rfl).2).trans c0; clear hb3)
          | (go_at_call 10; refine (KN.out _ (HHE.out.later HB3.out)).mono ?_; rintro e w4 ⟨rfl, hb4⟩; have HB4 := Lib.hid (chain2 HB3.out hb4); clear hb4))
        go_ret
        exact ⟨rfl, HB4.out⟩
    · obtain ⟨p, cc, hv⟩ := own_forms hr.row
      rw [hv]
      have hz : ((ts.length : Int) == 1) = false := by simp; omega
      generalize ts.length = n at *
      generalize strOf T = s at *
      clear hs hl1 hr hv
      go_wp2_with (first
        | (go_at_call 18; refine (CK.out _).mono ?_; rintro e w' ⟨rfl, rfl⟩)
        | (go_at_call 20; refine (CN.out _).mono ?_; rintro e w3 ⟨rfl, hb3⟩; have HB3 := Lib.hid (chain2 HB2.out hb3); clear hb3)
        | (go_at_call 10; refine (KN.out _ (HHE.out.later HB3.out)).mono ?_; rintro e w4 ⟨rfl, hb4⟩; have HB4 := Lib.hid (chain2 HB3.out hb4); clear hb4))
      go_ret
      exact ⟨rfl, HB4.out⟩
  · have HB2 := Lib.hid hb2
    have hz : ((e : Int) == 0) = false := by simp; omega
    clear hb2 S he
    go_wp2_with (first
      | (go_at_call 18; refine (CK.out _).mono ?_; rintro e w' ⟨rfl, rfl⟩)
      | (go_at_call 20; refine (CN.out _).mono ?_; rintro e w3 ⟨rfl, hb3⟩; have HB3 := Lib.hid (chain2 HB2.out hb3); clear hb3)
      | (go_at_call 10; refine (KN.out _ (HHE.out.later HB3.out)).mono ?_; rintro e w4 ⟨rfl, hb4⟩; have HB4 := Lib.hid (chain2 HB3.out hb4); clear hb4))
    go_ret
    exact ⟨rfl, HB4.out⟩

set_option maxHeartbeats 400000 in
theorem lexKeys_law (s : ByteArray) (_hs : s.size ≤ maxLen) (w : World) (HE : HasE w) :
    Calls Tryd.prog 9 #[.string s] w fun e w' => e = .returned (.bool true) ∧ Below w.heap.size w w' := by
  obtain ⟨T, rfl, hT⟩ := toS s
  by_cases hb : T.length ≤ 100
  · cases hk : isKey T with
    | true => exact lexKeys_key T hb hk w HE
    | false =>
      cases hn : isName T with
      | true => exact lexKeys_name T hb hn w HE
      | false => exact lexKeys_other T hb hk hn w HE
  · have KN := Lib.hid (known8 w HE)
    have h1 : ((strOf T).size : Int) > 100 := by omega
    clear hT HE
    go_enter Tryd.func9, Tryd.ntmps9
    go_wp2_with (go_at_call 10; refine KN.out.mono ?_; rintro e w3 ⟨rfl, hb3⟩; have HB3 := Lib.hid hb3; clear hb3)
    go_ret
    exact ⟨rfl, HB3.out⟩

end Go.Proofs.YtcfmjnhagpmnpaaDoor.Lx
