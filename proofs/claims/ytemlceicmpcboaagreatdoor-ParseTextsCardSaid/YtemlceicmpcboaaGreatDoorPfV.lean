/- The walk of the law ParseTexts. No condition but that the library's error lies where its variable is. -/
import Derived.Test.YtemlceicmpcboaaGreatDoorMgZ
import Derived.Test.YtemlceicmpcboaaGreatDoorMgO
namespace Go.Proofs.YtemlceicmpcboaaGreatDoor.Pa
open Go.RowKit Go.Shelf Dk Lx Tr

set_option maxHeartbeats 4000000 in
set_option maxRecDepth 100000 in
theorem parseTexts_law (a : ByteArray) (_ha : a.size ≤ maxLen) (w : World) (HE : HasE w) :
    Calls Tryz.prog 3 #[.string a] w fun e w' => e = .returned (.bool true) ∧ Below w.heap.size w w' := by
  have KN := Lib.hid (fun W h => known10 W h)
  have HHE := Lib.hid HE
  by_cases hs : a.size ≤ 3000
  case neg =>
    have g1 : (a.size : Int) > 3000 := by omega
    clear hs HE
    go_enter Tryz.func3, Tryz.ntmps3
    go_wp2_with (go_at_call 13; refine (KN.out _ HHE.out).mono ?_; rintro e w3 ⟨rfl, hb3⟩; have HB3 := Lib.hid hb3; clear hb3)
    go_ret
    exact ⟨rfl, HB3.out⟩
  have g1 : ¬(a.size : Int) > 3000 := by omega
  obtain ⟨E, P, T, ho, h1, h2⟩ := text_both a (by omega)
  have HO := Lib.hid ho
  have S1 := Lib.hid h1
  have S2 := Lib.hid h2
  clear hs HE ho h1 h2
  go_enter Tryz.func3, Tryz.ntmps3
  go_wp2_with fail
  refine (S1.out w HHE.out).mono ?_
  rintro e w1 ⟨v1, rfl, hnr⟩
  obtain ⟨n, hn⟩ : ∃ n, n = T.length := ⟨_, rfl⟩
  have HN := Lib.hid hn
  obtain ⟨q1, c1, hv1⟩ : ∃ q c, v1 = .slice q n c := by
    obtain ⟨p, c, hv, -⟩ := hnr.nds HO.out.fit
    exact ⟨p, c, by rw [hn]; exact hv⟩
  subst hv1
  have HNR := Lib.hid hnr
  clear hnr hn
  go_wp2_with fail
  refine (S2.out w1).mono ?_
  rintro e w2 ⟨v2, rfl, hnd, hb2⟩
  obtain ⟨q2, m2, c2, hv2⟩ := hnd.form
  subst hv2
  have HN3 := Lib.hid (HNR.out.later hb2)
  have HND := Lib.hid hnd
  have C1 := Lib.hid (rsame_any T T _ _ w2 (HN3.out.nds HO.out.fit) (hnd.nds HO.out.fit) HO.out.few HO.out.few)
  rw [show decide (T = T) = true from decide_eq_true rfl] at C1
  have HLT : Hid (∀ g, q1 = some ⟨g, 0, none⟩ → g < w1.heap.size) := Lib.hid (fun g h => by subst h; exact (Tr.own_lo HNR.out.row g rfl).2)
  have e1 : (E == E) = true := by simp
  have e2 : (P == P) = true := by simp
  clear hb2 hnd HNR
  go_wp2_with fail
  refine C1.out.mono ?_
  rintro e w3 ⟨rfl, hb3⟩
  have HX : Hid (Below w.heap.size w w3 ∧ ∃ X, w3.ownsRow w.heap.size 29 5 (.slice q1 n c1) n X) := Lib.hid ⟨(HN3.out.later hb3).below, _, by have := (HN3.out.later hb3).row; rwa [← HN.out] at this⟩
  have HY : Hid (NdX w3 (fun k => k < w1.heap.size) (.slice q2 m2 c2) T) := Lib.hid (HND.out.only (Only.of_below (F := fun _ => False) hb3) (fun _ _ h => h.elim))
  clear hb3 C1 HN3 HND
  have hn4 : n ≤ 4000 := by rw [HN.out]; exact HO.out.few
  go_wp2
  go_loopw [10] (fun vi wr => ∃ i : Nat, i ≤ n ∧ vi = .int .i64 (i : Int) ∧ Hid (Below w.heap.size w wr ∧ ∃ X, wr.ownsRow w.heap.size 29 5 (.slice q1 n c1) n X) ∧ Hid (NdX wr (fun k => k < w1.heap.size) (.slice q2 m2 c2) T)) (fun vi _ => n - (intOf vi).toNat)
  case atStart => exact ⟨0, Nat.zero_le _, rfl, HX, HY⟩
  case round =>
    clear HX HY
    obtain ⟨i, hi, rfl, hI, hY⟩ := hrel
    by_cases hlt : i < n
    · obtain ⟨hB, X, hX⟩ := hI.out
      obtain ⟨g, cap, hq⟩ := Tr.own_form hX (by omega)
      cases hq
      have hlo := (Tr.own_lo hX g rfl).1
      have hxl := hX.1
      have z0 : (0 : Int) ≤ (i : Int) := by omega
      have z1 : (i : Int) < (n : Int) := by omega
      obtain ⟨u, f0⟩ : ∃ u, wr.cell? ⟨g, i * 5, none⟩ = some u := ⟨X[i * 5]'(by omega), by rw [hX.cellAt _ (by omega)]; exact List.getElem?_eq_getElem _⟩
      have f1 : wr.frozen? ⟨g, i * 5, none⟩ = false := hX.frozenAt _
      have HI : Hid (Below w.heap.size w (wr.setCell ⟨g, i * 5, none⟩ (.int .i64 99)) ∧ ∃ X, (wr.setCell ⟨g, i * 5, none⟩ (.int .i64 99)).ownsRow w.heap.size 29 5 (.slice (some ⟨g, 0, none⟩) n c1) n X) :=
        Lib.hid ⟨hB.setCell hlo _, _, (hX.stored _ _).1⟩
      have HY2 : Hid (NdX (wr.setCell ⟨g, i * 5, none⟩ (.int .i64 99)) (fun k => k < w1.heap.size) (.slice q2 m2 c2) T) := Lib.hid (hY.out.only (Only.of_setCell _) (fun k _ e => by subst e; exact HLT.out _ rfl))
      clear hB hX hxl hlo hI hY
      go_wp2
      go_roundw
      case rel => exact ⟨i + 1, by omega, by go_num, HI, HY2⟩
      case measure => simp [intOf]; omega
    · obtain rfl : i = n := by omega
      have HB := Lib.hid hI.out.1
      have HYT := hY
      clear hI hlt hi
      go_wp2_with fail
      refine (S1.out wr (HHE.out.later HB.out)).mono ?_
      rintro e w4 ⟨v4, rfl, hr4⟩
      obtain ⟨q4, c4, m4, hv4⟩ : ∃ q c m, v4 = .slice q m c := by
        obtain ⟨p, c, hv, -⟩ := hr4.nds HO.out.fit
        exact ⟨p, c, _, hv⟩
      subst hv4
      have HB4 := Lib.hid (chain2 HB.out hr4.below)
      have C2 := Lib.hid (rsame_any T T _ _ w4 (hr4.nds HO.out.fit) ((HYT.out.nds HO.out.fit).later hr4.below) HO.out.few HO.out.few)
      rw [show decide (T = T) = true from decide_eq_true rfl] at C2
      clear hr4
      go_wp2_with (first
        | (go_at_call 16; refine C2.out.mono ?_; rintro e w5 ⟨rfl, hb5⟩; have HB5 := Lib.hid (chain2 HB4.out hb5); clear hb5)
        | (go_at_call 13; refine (KN.out _ (HHE.out.later HB5.out)).mono ?_; rintro e w6 ⟨rfl, hb6⟩; have HB6 := Lib.hid (chain2 HB5.out hb6); clear hb6))
      go_ret
      exact ⟨rfl, HB6.out⟩

end Go.Proofs.YtemlceicmpcboaaGreatDoor.Pa
