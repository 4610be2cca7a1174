/- The walk of chrysalislaw01.OctetBack: it returns true, and nothing that was there has changed. No condition. -/
import Derived.Test.YtbnpocgmidnjcaaOctL
import Derived.Test.YtbnpocgmidnjcaaOctG
import Derived.Lib.SmallJoins
namespace Go.Proofs.Ytbnpocgmidnjcaa
open Go.RowKit

/-- What was put is what is got. -/
theorem back_num (n k : Int) (hn : -9223372036854775808 ≤ n ∧ n ≤ 9223372036854775807) (hk : wideB k = true) (hf : fitsB n k = true) : getI (Lib.leBytes k.toNat (u64 n)) = n := by
  have hu := u64_cast n
  rw [IntKind.wrap_u64] at hu
  have hlt : u64 n < 256 ^ k.toNat := by
    have h64 := u64_lt n
    rcases wide_cases hk with rfl | rfl | rfl | rfl
    all_goals simp [fitsB] at hf
    all_goals simp only [Int.toNat_one, show (2 : Int).toNat = 2 from rfl, show (4 : Int).toNat = 4 from rfl, show (8 : Int).toNat = 8 from rfl]
    all_goals omega
  unfold getI
  rw [Lib.leNat_leBytes _ _ hlt]
  unfold wrap64
  omega

theorem back_data (A C : ByteArray) (l : List UInt8) : (((A ++ str l ++ C).data.toList).drop A.size).take l.length = l := by
  have e : (A ++ str l ++ C).data.toList = A.data.toList ++ (l ++ C.data.toList) := by
    simp [ByteArray.data_append, str]
  rw [e, List.drop_left' (by simp), List.take_left' rfl]

theorem app_size (A B : ByteArray) : (A ++ B).size = A.size + B.size := ByteArray.size_append

theorem back_get (A C : ByteArray) (n k : Int) (hn : -9223372036854775808 ≤ n ∧ n ≤ 9223372036854775807) (hA : A.size ≤ 5000) (hC : C.size ≤ 5000) (hk : wideB k = true) (hf : fitsB n k = true) (w : World) :
    Calls Try.prog 12 #[.string (A ++ str (Lib.leBytes k.toNat (u64 n)) ++ C), .int .i64 (A.size : Int), .int .i64 k] w fun e w' => e = .returned (.tuple #[.int .i64 n, .int .i64 0]) ∧ w = w' := by
  have hk' := wide_cases hk
  have hl : (Lib.leBytes k.toNat (u64 n)).length = k.toNat := Lib.leBytes_length _ _
  have hs : (A ++ str (Lib.leBytes k.toNat (u64 n)) ++ C).size = A.size + k.toNat + C.size := by rw [app_size, app_size, str_size, hl]
  refine (get_ok _ (A.size : Int) k w hk (by omega) (by omega) (by omega)).mono fun _ _ ⟨he, hb⟩ => ⟨?_, hb⟩
  have hd := back_data A C (Lib.leBytes k.toNat (u64 n))
  rw [hl] at hd
  rw [he, Int.toNat_natCast, hd, back_num n k hn hk hf]

theorem back_short (A : ByteArray) (n k : Int) (hA : A.size ≤ 5000) (hk : wideB k = true) (w : World) :
    Calls Try.prog 12 #[.string (A ++ str (Lib.leBytes k.toNat (u64 n))), .int .i64 ((A.size : Int) + 1), .int .i64 k] w fun e w' => e = .returned (.tuple #[.int .i64 0, .int .i64 2]) ∧ w = w' := by
  have hk' := wide_cases hk
  have hs : (A ++ str (Lib.leBytes k.toNat (u64 n))).size = A.size + k.toNat := by rw [app_size, str_size, Lib.leBytes_length]
  exact get_short _ _ k w hk (by omega) (by omega) (by omega) (by omega)

set_option maxHeartbeats 1000000 in
theorem back_big (A C : ByteArray) (n k : Int) (w : World) (hA : A.size ≤ 9223372036854775807) (hC : C.size ≤ 9223372036854775807) (h : 5000 < A.size ∨ 5000 < C.size) :
    Calls Try.prog 6 #[.agg #[.string A, .int .i64 n, .int .i64 k, .string C]] w fun e w' => e = .returned (.bool true) ∧ Below w.heap.size w w' := by
  by_cases h1 : 5000 < A.size
  all_goals
    go_enter Try.func6, Try.ntmps6
    go_wp2_with (go_at_call 11; refine (known_true _).mono ?_; rintro e w3 ⟨rfl, hb⟩; have H3 := Lib.hid hb; clear hb)
    go_ret
    exact ⟨rfl, chain ((Below.refl _ _).alloc (Nat.le_refl _) _) H3.out⟩

set_option maxHeartbeats 1000000 in
theorem back_no (A C : ByteArray) (n k : Int) (w : World) (hA : A.size ≤ 5000) (hC : C.size ≤ 5000) (hg : ¬ (wideB k = true ∧ fitsB n k = true)) :
    Calls Try.prog 6 #[.agg #[.string A, .int .i64 n, .int .i64 k, .string C]] w fun e w' => e = .returned (.bool true) ∧ Below w.heap.size w w' := by
  have c1 := Lib.hid (fun W => put_no n k W hg)
  clear hg
  have h1 : decide ((5000 : Int) < (A.size : Int)) = false := by simp; omega
  have h2 : decide ((5000 : Int) < (C.size : Int)) = false := by simp; omega
  go_enter Try.func6, Try.ntmps6
  go_wp2_with (first
    | (go_at_call 9; refine (c1.out _).mono ?_; rintro e w1 ⟨rfl, rfl⟩)
    | (go_at_call 11; refine (known_true _).mono ?_; rintro e w3 ⟨rfl, hb⟩; have H3 := Lib.hid hb; clear hb))
  go_ret
  exact ⟨rfl, chain ((Below.refl _ _).alloc (Nat.le_refl _) _) H3.out⟩

set_option maxHeartbeats 2000000 in
theorem back_yes (A C : ByteArray) (n k : Int) (w : World) (hn : -9223372036854775808 ≤ n ∧ n ≤ 9223372036854775807) (hA : A.size ≤ 5000) (hC : C.size ≤ 5000) (hk : wideB k = true) (hf : fitsB n k = true) :
    Calls Try.prog 6 #[.agg #[.string A, .int .i64 n, .int .i64 k, .string C]] w fun e w' => e = .returned (.bool true) ∧ Below w.heap.size w w' := by
  have C1 := fun W => put_str n k W hk hf
  have C2 := fun W => back_get A C n k hn hA hC hk hf W
  have C3 := fun W => back_short A n k hA hk W
  have hk' := wide_cases hk
  have hz : ((str (Lib.leBytes k.toNat (u64 n))).size : Int) = k := by rw [str_size, Lib.leBytes_length]; omega
  have hz0 : (str (Lib.leBytes k.toNat (u64 n))).size ≤ 8 := by omega
  have a1 := fun W : World => run_string_add_sum (P := Try.prog) (w := W) A (str (Lib.leBytes k.toNat (u64 n))) (by omega)
  have a2 := fun W : World => run_string_add_sum (P := Try.prog) (w := W) (A ++ str (Lib.leBytes k.toNat (u64 n))) C (by rw [app_size]; omega)
  generalize str (Lib.leBytes k.toNat (u64 n)) = S at *
  generalize A ++ S = AS at *
  generalize AS ++ C = ASC at *
  have c1 := Lib.hid C1
  have c2 := Lib.hid C2
  have c3 := Lib.hid C3
  have h1 : decide ((5000 : Int) < (A.size : Int)) = false := by simp; omega
  have h2 : decide ((5000 : Int) < (C.size : Int)) = false := by simp; omega
  clear C1 C2 C3 hk' hk hf hz0
  go_enter Try.func6, Try.ntmps6
  go_wp2_with fail
  refine (c1.out _).mono ?_
  rintro e w1 ⟨rfl, hb⟩
  have H1 := Lib.hid hb
  clear hb
  go_wp2_with fail
  refine (c2.out _).mono ?_
  rintro e w2 ⟨rfl, rfl⟩
  go_wp2_with fail
  refine (c3.out _).mono ?_
  rintro e w2 ⟨rfl, rfl⟩
  go_wp2_with (go_at_call 11; refine (known_true _).mono ?_; rintro e w3 ⟨rfl, hb⟩; have H3 := Lib.hid hb; clear hb)
  go_ret
  exact ⟨rfl, chain (chain ((Below.refl _ _).alloc (Nat.le_refl _) _) H1.out) H3.out⟩

theorem Try.cells36 : Try.prog.cellsOf 36 = 4 := by kernel_rfl

theorem back_true {H : Type} {enc : TypeId × Value → H} {W : World} {base : Nat} {v : Value} {d : DataW H} {p : List MemPlace} (hv : Value.okWide Try.prog W .any base 36 v) (h : DataW.Trod enc Try.prog W 0 (fun _ => true) true 36 v d p) :
    Calls Try.prog 6 #[v] W fun e w' => e = .returned (.bool true) ∧ Below W.heap.size W w' := by
  obtain ⟨c0, c1, c2, c3, y0, y1, y2, y3, m, rfl, _, _, e0, e1, e2, e3⟩ := Joins.open_agg4 Try.underlying36 (by kernel_rfl) Try.cells36 hv h
  obtain ⟨sA, f0, _, wA⟩ := DataW.trod_string Try.underlying9 e0
  obtain ⟨n, f1, _, wn⟩ := DataW.trod_int Try.underlying3 e1
  obtain ⟨k, f2, _, wk⟩ := DataW.trod_int Try.underlying3 e2
  obtain ⟨sC, f3, _, wC⟩ := DataW.trod_string Try.underlying9 e3
  simp at f0 f1 f2 f3
  subst f0 f1 f2 f3
  have hn := i64_le wn
  unfold maxLen at wA wC
  by_cases hb : 5000 < sA.size ∨ 5000 < sC.size
  · exact back_big sA sC n k W (by omega) (by omega) hb
  · by_cases hg : wideB k = true ∧ fitsB n k = true
    · exact back_yes sA sC n k W hn (by omega) (by omega) hg.1 hg.2
    · exact back_no sA sC n k W (by omega) (by omega) hg

end Go.Proofs.Ytbnpocgmidnjcaa
