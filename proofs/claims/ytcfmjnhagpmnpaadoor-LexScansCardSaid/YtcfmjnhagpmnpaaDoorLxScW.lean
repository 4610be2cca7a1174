/- The walk of the law LexScans. No condition but that the library's error lies where its variable is. -/
import Derived.Test.YtcfmjnhagpmnpaaDoorLxRH
import Derived.Test.YtcfmjnhagpmnpaaDoorLxJoW
namespace Go.Proofs.YtcfmjnhagpmnpaaDoor.Lx
open Go.RowKit Dk

/-- What scanning answers: the tokens, the fault, where. -/
def outOf (l : List UInt8) : List Tk × Int × Int :=
  if l.length ≤ 8192 then (match scanL 0 l with
    | .toks ts => (ts, 0, 0)
    | .bad e a => ([], (e : Int), (a : Int))) else ([], 3, 0)

theorem outOf_len (l : List UInt8) : (outOf l).1.length ≤ l.length := by
  unfold outOf
  split
  · cases hs : scanL 0 l with
    | toks ts => exact (scans_iff.1 hs).len
    | bad e a => exact Nat.zero_le _
  · exact Nat.zero_le _

theorem ScanOk.all {w w' : World} {x : Ending} {l : List UInt8} (h : ScanOk w w' x l) : ∃ v, x = .returned (.tuple #[v, .int .i64 (outOf l).2.1, .int .i64 (outOf l).2.2]) ∧ TR w w' v (outOf l).1 := by
  unfold outOf
  by_cases hl : l.length ≤ 8192
  · rw [if_pos hl]
    cases hs : scanL 0 l with
    | toks ts => exact h.yes ts hl hs
    | bad e a => exact ⟨_, h.bad e a hl hs, (TR.first w).later h.below⟩
  · rw [if_neg hl]
    exact ⟨_, h.big hl, (TR.first w).later h.below⟩

theorem lex_out (l : List UInt8) (w : World) (HE : HasE w) : Calls Tryd.prog 11 #[.string (strOf l)] w fun x w' => ∃ v, x = .returned (.tuple #[v, .int .i64 (outOf l).2.1, .int .i64 (outOf l).2.2]) ∧ TR w w' v (outOf l).1 :=
  (scan_any (strOf l) w HE).mono fun x w' h => by rw [strOf_toList] at h; exact h.all
theorem ref_out (l : List UInt8) (w : World) : Calls Tryd.prog 12 #[.string (strOf l)] w fun x w' => ∃ v, x = .returned (.tuple #[v, .int .i64 (outOf l).2.1, .int .i64 (outOf l).2.2]) ∧ TR w w' v (outOf l).1 :=
  (rscan_any (strOf l) w).mono fun x w' h => by rw [strOf_toList] at h; exact h.all

theorem row_toks {W : World} {base : Nat} {v : Value} {ts : List Tk} (h : W.ownsRow base 29 4 v ts.length (tcells ts)) : Toks W v ts := by
  rcases h.2 with ⟨hv, h0⟩ | ⟨g, cap, cur, hv, hbg, hg, h3, h4, h5, h6⟩
  · exact ⟨none, 0, by rw [hv, h0], by omega, .inl (List.eq_nil_of_length_eq_zero h0)⟩
  · have hrow := h
    rw [hv] at hrow
    refine ⟨_, cap, hv, h3, .inr ⟨g, 0, rfl, ?_, ownsRow_range hrow⟩⟩
    rcases Nat.lt_or_ge g W.heap.size with h | h
    · exact h
    · rw [Array.getElem?_eq_none h] at hg; cases hg

set_option maxHeartbeats 4000000 in
set_option maxRecDepth 100000 in
theorem scans_main (A : List UInt8) (ha : A.length ≤ 20000) (w : World) (HE : HasE w) :
    Calls Tryd.prog 3 #[.string (strOf A)] w fun e w' => e = .returned (.bool true) ∧ Below w.heap.size w w' := by
  have HHE := Lib.hid HE
  have KN := Lib.hid (fun W h => known8 W h)
  have h1 : ¬((strOf A).size : Int) > 20000 := by rw [strOf_size]; omega
  have hl := outOf_len A
  have S1 := Lib.hid (fun W h => lex_out A W h)
  have S2 := Lib.hid (fun W => ref_out A W)
  generalize (outOf A).2.1 = E at *
  generalize (outOf A).2.2 = P at *
  generalize (outOf A).1 = ts at *
  have hn40 : ts.length ≤ 20000 := by omega
  have HN : Hid (ts.length ≤ 2 ^ 40) := Lib.hid (by omega)
  clear ha HE hl
  go_enter Tryd.func3, Tryd.ntmps3
  go_wp2_with fail
  refine (S1.out w HHE.out).mono ?_
  rintro e w1 ⟨v1, rfl, hr1⟩
  obtain ⟨q1, c1, hv1⟩ := own_forms hr1.row
  rw [hv1] at hr1 ⊢
  have HR1 := Lib.hid hr1
  clear hr1 hv1
  go_wp2_with fail
  refine (S2.out w1).mono ?_
  rintro e w2 ⟨v2, rfl, hr2⟩
  obtain ⟨q2, c2, hv2⟩ := own_forms hr2.row
  rw [hv2] at hr2 ⊢
  have HR2 := Lib.hid hr2
  have HR3 := Lib.hid (HR1.out.later hr2.below)
  have C1 := Lib.hid (same_any true ts ts _ _ w2 HR3.out.toks HR2.out.toks (alikeP_refl true ts) HN.out)
  have HLT : Hid (∀ g, q1 = some ⟨g, 0, none⟩ → g < w1.heap.size) := Lib.hid (fun g h => by subst h; exact (own_lo HR1.out.row g rfl).2)
  clear hr2 hv2 HR1
  obtain ⟨n, hn⟩ : ∃ n, n = ts.length := ⟨_, rfl⟩
  rw [← hn] at hn40 C1 ⊢
  have HNE := Lib.hid hn
  clear hn
  go_wp2_with fail
  refine C1.out.mono ?_
  rintro e w3 ⟨rfl, hb3⟩
  have HX : Hid (Below w.heap.size w w3 ∧ ∃ X, w3.ownsRow w.heap.size 29 4 (.slice q1 n c1) n X) := Lib.hid ⟨(HR3.out.later hb3).below, _, by have := (HR3.out.later hb3).row; rwa [← HNE.out] at this⟩
  have HY : Hid (w3.ownsRow w1.heap.size 29 4 (.slice q2 n c2) n (tcells ts)) := Lib.hid (by have := (HR2.out.later hb3).row; rwa [← HNE.out] at this)
  clear hb3 C1 HR2 HR3
  go_wp2
  go_loopw [10] (fun vi wr => ∃ i : Nat, i ≤ n ∧ vi = .int .i64 (i : Int) ∧ Hid (Below w.heap.size w wr ∧ ∃ X, wr.ownsRow w.heap.size 29 4 (.slice q1 n c1) n X) ∧ Hid (wr.ownsRow w1.heap.size 29 4 (.slice q2 n c2) n (tcells ts))) (fun vi _ => n - (intOf vi).toNat)
  case atStart => exact ⟨0, Nat.zero_le _, rfl, HX, HY⟩
  case round =>
    clear HX HY
    obtain ⟨i, hi, rfl, hI, hY⟩ := hrel
    by_cases hlt : i < n
    · obtain ⟨hB, X, hX⟩ := hI.out
      obtain ⟨g, cap, hq⟩ := own_form hX (by omega)
      cases hq
      have hlo := (own_lo hX g rfl).1
      have hxl := hX.1
      have z0 : (0 : Int) ≤ (i : Int) := by omega
      have z1 : (i : Int) < (n : Int) := by omega
      obtain ⟨u, f0⟩ : ∃ u, wr.cell? ⟨g, i * 4 + 1, none⟩ = some u := ⟨X[i * 4 + 1]'(by omega), by rw [hX.cellAt _ (by omega)]; exact List.getElem?_eq_getElem _⟩
      have f1 : wr.frozen? ⟨g, i * 4 + 1, none⟩ = false := hX.frozenAt _
      have HI : Hid (Below w.heap.size w (wr.setCell ⟨g, i * 4 + 1, none⟩ (.string ⟨#[115, 112, 111, 105, 108, 116]⟩)) ∧ ∃ X, (wr.setCell ⟨g, i * 4 + 1, none⟩ (.string ⟨#[115, 112, 111, 105, 108, 116]⟩)).ownsRow w.heap.size 29 4 (.slice (some ⟨g, 0, none⟩) n c1) n X) :=
        Lib.hid ⟨hB.setCell hlo _, _, (hX.stored _ _).1⟩
      have HY2 : Hid ((wr.setCell ⟨g, i * 4 + 1, none⟩ (.string ⟨#[115, 112, 111, 105, 108, 116]⟩)).ownsRow w1.heap.size 29 4 (.slice q2 n c2) n (tcells ts)) := Lib.hid (ownsRow_setCell_below hY.out (HLT.out g rfl) _)
      clear hB hX hxl hlo hI hY
      go_wp2
      go_roundw
      case rel => exact ⟨i + 1, by omega, by go_num, HI, HY2⟩
      case measure => simp [intOf]; omega
    · obtain rfl : i = n := by omega
      have HB := Lib.hid hI.out.1
      have HYT : Hid (Toks wr (.slice q2 i c2) ts) := Lib.hid (by have := hY.out; rw [HNE.out] at this ⊢; exact row_toks this)
      clear hI hY hlt hi
      go_wp2_with fail
      refine (S1.out wr (HHE.out.later HB.out)).mono ?_
      rintro e w4 ⟨v4, rfl, hr4⟩
      obtain ⟨q4, c4, hv4⟩ := own_forms hr4.row
      rw [hv4] at hr4 ⊢
      have HB4 := Lib.hid (chain2 HB.out hr4.below)
      have C2 := Lib.hid (same_any true ts ts _ _ w4 hr4.toks (HYT.out.later hr4.below) (alikeP_refl true ts) HN.out)
      rw [← HNE.out] at C2 ⊢
      clear hr4 hv4
      go_wp2_with (first
        | (go_at_call 13; refine C2.out.mono ?_; rintro e w5 ⟨rfl, hb5⟩; have HB5 := Lib.hid (chain2 HB4.out hb5); clear hb5)
        | (go_at_call 10; refine (KN.out _ (HHE.out.later HB5.out)).mono ?_; rintro e w6 ⟨rfl, hb6⟩; have HB6 := Lib.hid (chain2 HB5.out hb6); clear hb6))
      go_ret
      exact ⟨rfl, HB6.out⟩

set_option maxHeartbeats 400000 in
theorem lexScans_law (a : ByteArray) (_ha : a.size ≤ maxLen) (w : World) (HE : HasE w) :
    Calls Tryd.prog 3 #[.string a] w fun e w' => e = .returned (.bool true) ∧ Below w.heap.size w w' := by
  obtain ⟨A, rfl, hA⟩ := toS a
  have KN := Lib.hid (known8 w HE)
  by_cases h1 : A.length ≤ 20000
  · exact scans_main A h1 w HE
  · have g1 : ((strOf A).size : Int) > 20000 := by omega
    clear hA h1 HE
    go_enter Tryd.func3, Tryd.ntmps3
    go_wp2_with (go_at_call 10; refine KN.out.mono ?_; rintro e w3 ⟨rfl, hb3⟩; have HB3 := Lib.hid hb3; clear hb3)
    go_ret
    exact ⟨rfl, HB3.out⟩

end Go.Proofs.YtcfmjnhagpmnpaaDoor.Lx
