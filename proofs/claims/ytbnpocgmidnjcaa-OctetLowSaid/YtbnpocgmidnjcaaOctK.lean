/- The walk of chrysalislaw01.known: it returns true. No condition. -/
import Derived.Test.YtbnpocgmidnjcaaOctE
namespace Go.Proofs.Ytbnpocgmidnjcaa
open Go.RowKit

theorem k_put (w : World) : Calls Try.prog 9 #[.int .i64 258, .int .i64 2] w fun e w' => e = .returned (.tuple #[.string ⟨#[2, 1]⟩, .int .i64 0]) ∧ Below w.heap.size w w' :=
  (put_ok 258 2 w (by decide) (by decide)).mono fun _ _ ⟨he, hb⟩ => ⟨by rw [he]; congr 1, hb⟩
theorem k_not (w : World) : Calls Try.prog 9 #[.int .i64 256, .int .i64 1] w fun e w' => e = .returned (.tuple #[.string ⟨#[]⟩, .int .i64 1]) ∧ w = w' :=
  put_fits 256 1 w (by decide) (by decide)
theorem k_get (w : World) : Calls Try.prog 12 #[.string ⟨#[120, 2, 1]⟩, .int .i64 1, .int .i64 2] w fun e w' => e = .returned (.tuple #[.int .i64 258, .int .i64 0]) ∧ w = w' :=
  (get_nat ⟨#[120, 2, 1]⟩ 1 2 w (by decide) (by decide) (by decide)).mono fun _ _ ⟨he, hb⟩ => ⟨by rw [he, show getI (List.take 2 (List.drop 1 (⟨#[120, 2, 1]⟩ : ByteArray).data.toList)) = 258 from by decide +kernel], hb⟩
theorem k_text (w : World) : Calls Try.prog 18 #[.string ⟨#[97, 98]⟩] w fun e w' => e = .returned (.string ⟨#[2, 0, 0, 0, 97, 98]⟩) ∧ Below w.heap.size w w' :=
  (text_any ⟨#[97, 98]⟩ w (by decide)).mono fun _ _ ⟨he, hb⟩ => ⟨he, hb⟩
theorem k_next (w : World) : Calls Try.prog 14 #[.string ⟨#[2, 0, 0, 0, 97, 98, 99]⟩, .int .i64 0] w fun e w' => e = .returned (.tuple #[.string ⟨#[97, 98]⟩, .int .i64 6, .int .i64 0]) ∧ w = w' :=
  (next_ok ⟨#[2, 0, 0, 0, 97, 98, 99]⟩ 0 w (by decide) (by decide)).mono fun _ _ ⟨he, hb⟩ => ⟨he, hb⟩
theorem k_unhex (w : World) : Calls Try.prog 16 #[.string ⟨#[48, 102, 54, 49]⟩] w fun e w' => e = .returned (.tuple #[.string ⟨#[15, 97]⟩, .int .i64 0]) ∧ Below w.heap.size w w' :=
  (unhex_even ⟨#[48, 102, 54, 49]⟩ 2 w (by decide) (by decide)).mono fun _ _ ⟨he, hb⟩ => ⟨he, hb⟩
theorem k_hex (w : World) : Calls Try.prog 20 #[.string ⟨#[15, 97]⟩] w fun e w' => e = .returned (.string ⟨#[48, 102, 54, 49]⟩) ∧ Below w.heap.size w w' :=
  (hex_any ⟨#[15, 97]⟩ w (by decide)).mono fun _ _ ⟨he, hb⟩ => ⟨he, hb⟩

set_option maxHeartbeats 1000000 in
theorem known_true (w : World) : Calls Try.prog 11 #[] w fun e w' => e = .returned (.bool true) ∧ Below w.heap.size w w' := by
  go_enter Try.func11, Try.ntmps11
  go_wp2_with fail
  refine (k_put _).mono ?_
  rintro e w1 ⟨rfl, hb⟩
  have H1 := Lib.hid hb
  clear hb
  go_wp2_with fail
  refine (k_not _).mono ?_
  rintro e w2 ⟨rfl, rfl⟩
  go_wp2_with fail
  refine (k_get _).mono ?_
  rintro e w2 ⟨rfl, rfl⟩
  go_wp2_with fail
  refine (k_text _).mono ?_
  rintro e w2 ⟨rfl, hb⟩
  have H2 := Lib.hid hb
  clear hb
  go_wp2_with fail
  refine (k_next _).mono ?_
  rintro e w3 ⟨rfl, rfl⟩
  go_wp2_with fail
  refine (k_unhex _).mono ?_
  rintro e w4 ⟨rfl, hb⟩
  have H3 := Lib.hid hb
  clear hb
  go_wp2_with fail
  refine (k_hex _).mono ?_
  rintro e w5 ⟨rfl, hb⟩
  have H4 := Lib.hid hb
  clear hb
  go_wp2
  go_ret
  exact ⟨rfl, chain (chain (chain H1.out H2.out) H3.out) H4.out⟩

end Go.Proofs.Ytbnpocgmidnjcaa
