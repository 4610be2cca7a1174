/- The walk of the law LexJoins. No condition but that the library's error lies where its variable is. -/
import Derived.Test.YtcfmjnhagpmnpaaDoorLxRT
import Derived.Test.YtcfmjnhagpmnpaaDoorLxKeW
import Derived.Test.YtcfmjnhagpmnpaaDoorLxQuW
namespace Go.Proofs.YtcfmjnhagpmnpaaDoor.Lx
open Go.RowKit Dk

theorem scan_some (s : ByteArray) (w : World) (HE : HasE w) : Calls Tryd.prog 11 #[.string s] w fun x w' => Below w.heap.size w w' ∧ ∃ v e a, x = .returned (.tuple #[v, .int .i64 e, .int .i64 a]) :=
  (scan_any s w HE).mono fun x w' h => by
    refine ⟨h.below, ?_⟩
    by_cases hl : s.data.toList.length ≤ 8192
    · cases hs : scanL 0 s.data.toList with
      | bad e a => exact ⟨_, _, _, h.bad e a hl hs⟩
      | toks ts => obtain ⟨v, h1, _⟩ := h.yes ts hl hs; exact ⟨_, _, _, h1⟩
    · exact ⟨_, _, _, h.big hl⟩

theorem alike_moved (d : Int) (y : List Tk) : Alike (y.map (moved d)) y := by unfold Alike; rw [List.map_map]; rfl

theorem add_run (a b : List UInt8) (h : a.length + b.length ≤ 2 ^ 60) (W : World) : (Op.stringOp .add (strOf a) (strOf b)).run Tryd.prog W = .ok (.string (strOf (a ++ b))) W := by
  rw [run_string_add_sum (P := Tryd.prog) (w := W) (strOf a) (strOf b) (by rw [strOf_size, strOf_size]; omega), append_strOf]

set_option maxHeartbeats 4000000 in
set_option maxRecDepth 100000 in
theorem joins_main (A B : List UInt8) (ha : A.length ≤ 2000) (hb : B.length ≤ 2000) (w : World) (HE : HasE w) :
    Calls Tryd.prog 8 #[.string (strOf A), .string (strOf B)] w fun e w' => e = .returned (.bool true) ∧ Below w.heap.size w w' := by
  have HHE := Lib.hid HE
  have KN := Lib.hid (fun W h => known8 W h)
  have h1 : ¬((strOf A).size : Int) > 2000 := by rw [strOf_size]; omega
  have h2 : ¬((strOf B).size : Int) > 2000 := by rw [strOf_size]; omega
  have S1 := Lib.hid (scan_ways A (by omega))
  have S2 := Lib.hid (scan_ways B (by omega))
  have SO := Lib.hid (fun s W h => scan_some s W h)
  have S3 : Hid (∀ z, Scans 0 (A ++ 10 :: B) z → ∀ W, HasE W → Calls Tryd.prog 11 #[.string (strOf (A ++ 10 :: B))] W fun x w' => ∃ v, x = .returned (.tuple #[v, .int .i64 0, .int .i64 0]) ∧ TR W w' v z) :=
    Lib.hid (fun z hz => scan_toks _ z (scans_iff.2 hz) (by simp; omega))
  have p1 : ∀ W : World, (Op.stringOp .add (strOf A) ⟨#[10]⟩).run Tryd.prog W = .ok (.string (strOf (A ++ [10]))) W := fun W => add_run A [10] (by simp; omega) W
  have p2 : ∀ W : World, (Op.stringOp .add (strOf (A ++ [10])) (strOf B)).run Tryd.prog W = .ok (.string (strOf (A ++ 10 :: B))) W := fun W => by
    have := add_run (A ++ [10]) B (by simp; omega) W
    rwa [List.append_assoc] at this
  have HLEN := Lib.hid (show A.length ≤ 2000 ∧ B.length ≤ 2000 from ⟨ha, hb⟩)
  clear ha hb HE
  go_enter Tryd.func8, Tryd.ntmps8
  go_wp2_with fail
  refine (S1.out w HHE.out).mono ?_
  rintro e w1 ⟨hb1, ⟨x, v1, hs1, rfl, hr1⟩ | ⟨e1, a1, -, he1, -, rfl⟩⟩
  · have HB1 := Lib.hid hb1
    obtain ⟨q1, c1, hv1⟩ := own_forms hr1.row
    rw [hv1] at hr1 ⊢
    have HR1 := Lib.hid hr1
    have HS1 := Lib.hid hs1
    clear hb1 hr1 hs1 hv1
    go_wp2_with fail
    refine (S2.out w1 (HHE.out.later HB1.out)).mono ?_
    rintro e w2 ⟨hb2, ⟨y, v2, hs2, rfl, hr2⟩ | ⟨e2, a2, -, he2, -, rfl⟩⟩
    · have HB2 := Lib.hid (chain2 HB1.out hb2)
      obtain ⟨q2, c2, hv2⟩ := own_forms hr2.row
      rw [hv2] at hr2 ⊢
      have HT1 : Hid (Toks w2 (.slice q1 x.length c1) x) := Lib.hid (HR1.out.toks.later hr2.below)
      have HR2 := Lib.hid hr2
      obtain ⟨d, hs3⟩ := scans_join HS1.out hs2
      have S3' := Lib.hid (S3.out _ hs3)
      have HS2 := Lib.hid hs2
      clear hb2 hr2 hs2 hv2 hs3 S1 S2 S3 HB1
      go_wp2_with fail
      refine (S3'.out w2 (HHE.out.later HB2.out)).mono ?_
      rintro e w3 ⟨v3, rfl, hr3⟩
      obtain ⟨q3, c3, hv3⟩ := own_forms hr3.row
      rw [hv3] at hr3 ⊢
      have HB3 := Lib.hid (chain2 HB2.out hr3.below)
      have HX : Hid (Toks w3 (.slice q1 x.length c1) x) := Lib.hid (HT1.out.later hr3.below)
      have HY : Hid (Toks w3 (.slice q2 y.length c2) y) := Lib.hid (HR2.out.toks.later hr3.below)
      have hz := hr3.toks
      have hzl : (x ++ y.map (moved d)).length = x.length + y.length := by simp
      obtain ⟨hs1, ht1, q4, hs2, ht2⟩ := hz.parts x.length (by omega)
      rw [List.take_left] at ht1
      rw [List.drop_left] at ht2
      rw [hzl] at hs1 hs2 ht2
      rw [hzl]
      have hsum : (((x.length + y.length : Nat) : Int)) = (x.length : Int) + (y.length : Int) := by omega
      have hxl : x.length ≤ 2000 ∧ y.length ≤ 2000 := ⟨Nat.le_trans HS1.out.len HLEN.out.1, Nat.le_trans HS2.out.len HLEN.out.2⟩
      have e1 : IntKind.i64.wrap ((x.length : Int) + (y.length : Int)) = (x.length : Int) + (y.length : Int) := IntWalk.i64_in _ (by omega)
      have C1 := Lib.hid (fun W (hb : Below w3.heap.size w3 W) => same_any true x x _ _ W (ht1.later hb) (HX.out.later hb) (alikeP_refl true x) (by omega))
      have C2 := Lib.hid (fun W (hb : Below w3.heap.size w3 W) => same_any false (y.map (moved d)) y _ _ W (ht2.later hb) (HY.out.later hb) (alikeP_of (alike_moved d y)) (by simp; omega))
      generalize x.length + y.length - x.length = ny at *
      generalize c3 - x.length = nc at *
      generalize hn : x.length = n at *
      generalize hm : y.length = m at *
      clear hr3 hv3 hz hzl ht1 ht2 hxl hn hm S3' HT1 HR1 HR2 p1 p2
      go_wp2_with fail
      refine (C1.out w3 (Below.refl _ _)).mono ?_
      rintro e w4 ⟨rfl, hb4⟩
      have HB4 := Lib.hid (chain2 HB3.out hb4)
      have C2' := Lib.hid (C2.out w4 hb4)
      clear hb4 C1 C2
      go_wp2_with fail
      refine C2'.out.mono ?_
      rintro e w5 ⟨rfl, hb5⟩
      have HB5 := Lib.hid (chain2 HB4.out hb5)
      clear hb5
      go_wp2_with (go_at_call 10; refine (KN.out _ (HHE.out.later HB5.out)).mono ?_; rintro e w6 ⟨rfl, hb6⟩; have HB6 := Lib.hid (chain2 HB5.out hb6); clear hb6)
      go_ret
      exact ⟨rfl, HB6.out⟩
    · have HB2 := Lib.hid (chain2 HB1.out hb2)
      have hz : ((e2 : Int) != 0) = true := by rw [bne_iff_ne]; omega
      clear hb2 he2 S1 S2 S3
      go_wp2_with (first
        | (go_at_call 11; refine (SO.out _ _ (HHE.out.later HB2.out)).mono ?_; rintro x w3 ⟨hb3, v3, e3, a3, rfl⟩; have HB3 := Lib.hid (chain2 HB2.out hb3); clear hb3)
        | (go_at_call 10; refine (KN.out _ (HHE.out.later HB3.out)).mono ?_; rintro e w6 ⟨rfl, hb6⟩; have HB6 := Lib.hid (chain2 HB3.out hb6); clear hb6))
      go_ret
      exact ⟨rfl, HB6.out⟩
  · have HB1 := Lib.hid hb1
    have hz : ((e1 : Int) != 0) = true := by rw [bne_iff_ne]; omega
    clear hb1 he1 S1 S2 S3
    go_wp2_with fail
    refine (SO.out _ w1 (HHE.out.later HB1.out)).mono ?_
    rintro x w2 ⟨hb2, v2, e2, a2, rfl⟩
    have HB2 := Lib.hid (chain2 HB1.out hb2)
    clear hb2
    go_wp2_with (first
      | (go_at_call 11; refine (SO.out _ _ (HHE.out.later HB2.out)).mono ?_; rintro x w3 ⟨hb3, v3, e3, a3, rfl⟩; have HB3 := Lib.hid (chain2 HB2.out hb3); clear hb3)
      | (go_at_call 10; refine (KN.out _ (HHE.out.later HB3.out)).mono ?_; rintro e w6 ⟨rfl, hb6⟩; have HB6 := Lib.hid (chain2 HB3.out hb6); clear hb6))
    go_ret
    exact ⟨rfl, HB6.out⟩

set_option maxHeartbeats 400000 in
theorem lexJoins_law (a : ByteArray) (_ha : a.size ≤ maxLen) (b : ByteArray) (_hb : b.size ≤ maxLen) (w : World) (HE : HasE w) :
    Calls Tryd.prog 8 #[.string a, .string b] w fun e w' => e = .returned (.bool true) ∧ Below w.heap.size w w' := by
  obtain ⟨A, rfl, hA⟩ := toS a
  obtain ⟨B, rfl, hB⟩ := toS b
  have KN := Lib.hid (known8 w HE)
  by_cases h1 : A.length ≤ 2000
  · by_cases h2 : B.length ≤ 2000
    · exact joins_main A B h1 h2 w HE
    · have g1 : ¬((strOf A).size : Int) > 2000 := by omega
      have g2 : ((strOf B).size : Int) > 2000 := by omega
      clear hA hB h1 h2 HE
      go_enter Tryd.func8, Tryd.ntmps8
      go_wp2_with (go_at_call 10; refine KN.out.mono ?_; rintro e w3 ⟨rfl, hb3⟩; have HB3 := Lib.hid hb3; clear hb3)
      go_ret
      exact ⟨rfl, HB3.out⟩
  · have g1 : ((strOf A).size : Int) > 2000 := by omega
    clear hA hB h1 HE
    go_enter Tryd.func8, Tryd.ntmps8
    go_wp2_with (go_at_call 10; refine KN.out.mono ?_; rintro e w3 ⟨rfl, hb3⟩; have HB3 := Lib.hid hb3; clear hb3)
    go_ret
    exact ⟨rfl, HB3.out⟩

end Go.Proofs.YtcfmjnhagpmnpaaDoor.Lx
