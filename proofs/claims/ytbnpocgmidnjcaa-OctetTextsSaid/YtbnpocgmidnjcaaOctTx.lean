/- The walk of chrysalislaw01.OctetTexts: it returns true, and nothing that was there has changed. No condition. -/
import Derived.Test.YtbnpocgmidnjcaaOctU
import Derived.Test.YtbnpocgmidnjcaaOctS
import Derived.Test.YtbnpocgmidnjcaaOctK
namespace Go.Proofs.Ytbnpocgmidnjcaa
open Go.RowKit

def unhS (l : List UInt8) : ByteArray := if l.length % 2 = 0 ∧ isHex l = true then ⟨(unhexL l).toArray⟩ else ⟨#[]⟩
def unhE (l : List UInt8) : Int := if l.length % 2 = 0 ∧ isHex l = true then 0 else 4

theorem unhexRes_eq (l : List UInt8) : unhexRes l = .tuple #[.string (unhS l), .int .i64 (unhE l)] := by
  unfold unhexRes unhS unhE
  by_cases h : l.length % 2 = 0 ∧ isHex l = true
  · rw [if_pos h, if_pos h, if_pos h]
  · rw [if_neg h, if_neg h, if_neg h]

theorem unhex_all (s : ByteArray) (w : World) (hs : s.size ≤ 20000) :
    Calls Try.prog 16 #[.string s] w fun e w' => e = .returned (.tuple #[.string (unhS s.data.toList), .int .i64 (unhE s.data.toList)]) ∧ Below w.heap.size w w' := by
  have hl : s.data.toList.length = s.size := by simp
  by_cases ho : s.size % 2 = 1
  · exact (unhex_odd s w (by omega) ho).mono fun _ _ ⟨he, hb⟩ => ⟨by rw [he, ← unhexRes_eq, unhexRes_odd _ (by rw [hl]; exact ho)], by rw [← hb]; exact Below.refl _ _⟩
  · exact (unhex_even s (s.size / 2) w (by omega) (by omega)).mono fun _ _ ⟨he, hb⟩ => ⟨by rw [he, unhexRes_eq], hb⟩

theorem runhex_all (s : ByteArray) (w : World) (hs : s.size ≤ 20000) :
    Calls Try.prog 17 #[.string s] w fun e w' => e = .returned (.tuple #[.string (unhS s.data.toList), .int .i64 (unhE s.data.toList)]) ∧ Below w.heap.size w w' :=
  (runhex_any s w hs).mono fun _ _ ⟨he, hb⟩ => ⟨by rw [he, unhexRes_eq], hb⟩

set_option maxHeartbeats 1000000 in
theorem texts_true (s : ByteArray) (ws : s.size ≤ maxLen) (w : World) :
    Calls Try.prog 5 #[.string s] w fun e w' => e = .returned (.bool true) ∧ Below w.heap.size w w' := by
  unfold maxLen at ws
  by_cases hb : 20000 < s.size
  · have hb' : (20000 : Int) < (s.size : Int) := by omega
    go_enter Try.func5, Try.ntmps5
    go_wp2_with fail
    refine (known_true _).mono ?_
    rintro e w1 ⟨rfl, hb⟩
    go_wp2
    go_ret
    exact ⟨rfl, hb⟩
  · have hb' : ¬ (20000 : Int) < (s.size : Int) := by omega
    have hs : s.size ≤ 20000 := by omega
    have C1 := fun W => unhex_all s W hs
    have C2 := fun W => runhex_all s W hs
    have C3 := fun W => text_any s W (by omega)
    have C4 := fun W => rtext_any s W hs
    have C5 := fun W => hex_any s W hs
    have C6 := fun W => rhex_any s W hs
    generalize unhS s.data.toList = U at C1 C2
    generalize unhE s.data.toList = E at C1 C2
    generalize (⟨(Lib.leBytes 4 s.size).toArray⟩ : ByteArray) ++ s = T at C3 C4
    generalize (⟨(Lib.Hx.encode s.data.toList).toArray⟩ : ByteArray) = X at C5 C6
    have c1 := Lib.hid C1
    have c2 := Lib.hid C2
    have c3 := Lib.hid C3
    have c4 := Lib.hid C4
    have c5 := Lib.hid C5
    have c6 := Lib.hid C6
    clear C1 C2 C3 C4 C5 C6
    go_enter Try.func5, Try.ntmps5
    go_wp2_with fail
    refine (c1.out _).mono ?_
    rintro e w1 ⟨rfl, hb⟩
    have H1 := Lib.hid hb
    clear hb
    go_wp2_with fail
    refine (c2.out _).mono ?_
    rintro e w2 ⟨rfl, hb⟩
    have H2 := Lib.hid hb
    clear hb
    go_wp2_with fail
    refine (c3.out _).mono ?_
    rintro e w3 ⟨rfl, hb⟩
    have H3 := Lib.hid hb
    clear hb
    go_wp2_with fail
    refine (c4.out _).mono ?_
    rintro e w4 ⟨rfl, hb⟩
    have H4 := Lib.hid hb
    clear hb
    go_wp2_with fail
    refine (c5.out _).mono ?_
    rintro e w5 ⟨rfl, hb⟩
    have H5 := Lib.hid hb
    clear hb
    go_wp2_with fail
    refine (c6.out _).mono ?_
    rintro e w6 ⟨rfl, hb⟩
    have H6 := Lib.hid hb
    clear hb
    go_wp2_with fail
    refine (known_true _).mono ?_
    rintro e w7 ⟨rfl, hb⟩
    have H7 := Lib.hid hb
    clear hb
    go_wp2
    go_ret
    exact ⟨rfl, chain (chain (chain (chain (chain (chain H1.out H2.out) H3.out) H4.out) H5.out) H6.out) H7.out⟩

end Go.Proofs.Ytbnpocgmidnjcaa
