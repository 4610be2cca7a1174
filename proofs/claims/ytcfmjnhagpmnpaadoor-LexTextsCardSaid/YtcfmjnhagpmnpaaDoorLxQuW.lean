/- The walk of the law LexQuotes. No condition but that the library's error lies where its variable is. -/
import Derived.Test.YtcfmjnhagpmnpaaDoorLxL
namespace Go.Proofs.YtcfmjnhagpmnpaaDoor.Lx
open Go.RowKit Dk

theorem append_strOf (a b : List UInt8) : strOf a ++ strOf b = strOf (a ++ b) := by
  apply ByteArray.ext
  simp [strOf]

set_option maxHeartbeats 4000000 in
set_option maxRecDepth 100000 in
theorem lexQuotes_law (s : ByteArray) (_hs : s.size ≤ maxLen) (w : World) (HE : HasE w) :
    Calls Tryd.prog 6 #[.string s] w fun e w' => e = .returned (.bool true) ∧ Below w.heap.size w w' := by
  have HHE := Lib.hid HE
  have KN := Lib.hid (fun W h => known8 W h)
  obtain ⟨T, rfl, hT⟩ := toS s
  by_cases hb : T.length ≤ 2000
  · have h1 : ¬((strOf T).size : Int) > 2000 := by omega
    have Q := Lib.hid (fun W => quote_any T W (by omega))
    have hfl := flat_len T
    have hql := quoteL_length T
    have S := Lib.hid (scan_toks _ _ (quotes_scan T) (by simp; omega))
    have hA : ∀ W : World, (Op.stringOp .add ⟨#[97]⟩ (strOf (quoteL T))).run Tryd.prog W = .ok (.string (strOf (97 :: quoteL T))) W := fun W => by
      rw [run_string_add_sum (P := Tryd.prog) (w := W) ⟨#[97]⟩ (strOf (quoteL T)) (by rw [strOf_size]; show 1 + _ ≤ _; omega)]
      exact congrArg (fun x => Result.ok (Value.string x) W) (append_strOf [97] (quoteL T))
    have hB : ∀ W : World, (Op.stringOp .add (strOf (97 :: quoteL T)) ⟨#[53]⟩).run Tryd.prog W = .ok (.string (strOf (97 :: (quoteL T ++ [53])))) W := fun W => by
      rw [run_string_add_sum (P := Tryd.prog) (w := W) (strOf (97 :: quoteL T)) ⟨#[53]⟩ (by rw [strOf_size, List.length_cons]; show _ + 1 ≤ _; omega)]
      exact congrArg (fun x => Result.ok (Value.string x) W) (append_strOf (97 :: quoteL T) [53])
    generalize hP : ((1 + (quoteL T).length : Nat) : Int) = P at *
    generalize quoteL T = q at *
    clear hT hb HE hfl hql hP _hs
    go_enter Tryd.func6, Tryd.ntmps6
    go_wp2_with (go_at_call 16; refine (Q.out _).mono ?_; rintro e w1 ⟨rfl, hb1⟩; have HB1 := Lib.hid hb1; clear hb1)
    clear hA hB
    refine (S.out w1 (HHE.out.later HB1.out)).mono ?_
    rintro e w2 ⟨v, rfl, hr⟩
    obtain ⟨g, cap, hv⟩ := own_form hr.row (by simp)
    have HB2 := Lib.hid (chain2 HB1.out hr.below)
    rw [hv] at hr ⊢
    have c0 : w2.cell? ⟨g, 4, none⟩ = some (.int .i64 3) := hr.row.cellAt 4 (by simp)
    have c1 : w2.cell? ⟨g, 5, none⟩ = some (.string (strOf T)) := hr.row.cellAt 5 (by simp)
    have c2 : w2.cell? ⟨g, 1, none⟩ = some (.string ⟨#[97]⟩) := hr.row.cellAt 1 (by simp)
    have c3 : w2.cell? ⟨g, 10, none⟩ = some (.int .i64 5) := hr.row.cellAt 10 (by simp)
    clear hr hv S Q
    rw [show ([(⟨1, [97], 0, 0⟩ : Tk), ⟨3, T, 0, 1⟩, ⟨2, [53], 5, P⟩]).length = 3 from rfl]
    generalize strOf T = x at *
    go_wp2_with (go_at_call 10; refine (KN.out _ (HHE.out.later HB2.out)).mono ?_; rintro e w3 ⟨rfl, hb3⟩; have HB3 := Lib.hid (chain2 HB2.out hb3); clear hb3)
    go_ret
    exact ⟨rfl, HB3.out⟩
  · have h1 : ((strOf T).size : Int) > 2000 := by omega
    clear hT
    go_enter Tryd.func6, Tryd.ntmps6
    go_wp2_with (go_at_call 10; refine (KN.out _ HHE.out).mono ?_; rintro e w3 ⟨rfl, hb3⟩; have HB3 := Lib.hid hb3; clear hb3)
    go_ret
    exact ⟨rfl, HB3.out⟩

end Go.Proofs.YtcfmjnhagpmnpaaDoor.Lx
