/- The walk of chrysalislaw01.OctetLow: it returns true, and nothing that was there has changed. No condition. -/
import Derived.Test.YtbnpocgmidnjcaaOctK
import Derived.Test.YtbnpocgmidnjcaaStill
namespace Go.Proofs.Ytbnpocgmidnjcaa
open Go.RowKit

theorem leBytes_take : ∀ (j k u : Nat), j ≤ k → (Lib.leBytes k u).take j = Lib.leBytes j u
  | 0, _, _, _ => by simp [Lib.leBytes]
  | j + 1, 0, _, h => absurd h (by omega)
  | j + 1, k + 1, u, h => by simp only [Lib.leBytes, List.take_succ_cons, leBytes_take j k (u / 256) (by omega)]

/-- Bytes as a string. -/
def str (l : List UInt8) : ByteArray := ⟨l.toArray⟩

theorem str_size (l : List UInt8) : (str l).size = l.length := size_of_list l

theorem low_index (k u : Nat) (W : World) : (Instr.index 9 (.string (str (Lib.leBytes (k + 1) u))) (.int .i64 0)).run Try.prog W = .ok (.int .u8 ((u % 256 : Nat) : Int)) W := by
  have h0 : 0 < (str (Lib.leBytes (k + 1) u)).size := by rw [str_size, Lib.leBytes_length]; omega
  have e : (str (Lib.leBytes (k + 1) u))[0].toNat = u % 256 := by
    show ((Lib.leBytes (k + 1) u)[0]'(by rw [Lib.leBytes_length]; omega)).toNat = _
    rw [leBytes_at]; simp
  have h1 : (0 : Int) < ((str (Lib.leBytes (k + 1) u)).size : Int) := by omega
  generalize str (Lib.leBytes (k + 1) u) = S at *
  rw [← e]
  clear e
  go_simp

theorem low_slice (k u : Nat) (hk : k ≤ 8) (W : World) : (Instr.slice 9 (.string (str (Lib.leBytes 8 u))) none (some (.int .i64 (k : Int))) none).run Try.prog W = .ok (.string (str (Lib.leBytes k u))) W := by
  have h8 : (str (Lib.leBytes 8 u)).size = 8 := by rw [str_size, Lib.leBytes_length]
  have e : (str (Lib.leBytes 8 u)).extract 0 k = str (Lib.leBytes k u) := by
    rw [Lib.extract_eq]
    show (⟨_⟩ : ByteArray) = ⟨_⟩
    congr 2
    exact leBytes_take k 8 u hk
  rw [← e]
  clear e
  have hk' : (k : Int) ≤ ((str (Lib.leBytes 8 u)).size : Int) := by omega
  have hk2 : k ≤ (str (Lib.leBytes 8 u)).size := by omega
  clear h8
  generalize str (Lib.leBytes 8 u) = S at *
  go_simp

theorem put_str (n k : Int) (w : World) (hk : wideB k = true) (hf : fitsB n k = true) :
    Calls Try.prog 9 #[.int .i64 n, .int .i64 k] w fun e w' => e = .returned (.tuple #[.string (str (Lib.leBytes k.toNat (u64 n))), .int .i64 0]) ∧ Below w.heap.size w w' := put_ok n k w hk hf

theorem put_no (n k : Int) (w : World) (h : ¬ (wideB k = true ∧ fitsB n k = true)) :
    Calls Try.prog 9 #[.int .i64 n, .int .i64 k] w fun e w' => e = .returned (.tuple #[.string ⟨#[]⟩, .int .i64 1]) ∧ w = w' := by
  cases hk : wideB k with
  | false => exact put_wide n k w hk
  | true =>
    cases hf : fitsB n k with
    | false => exact put_fits n k w hk hf
    | true => exact absurd ⟨hk, hf⟩ h

theorem fits_eight (n : Int) : fitsB n 8 = true := by simp [fitsB]

theorem u64_low (n : Int) : ((u64 n % 256 : Nat) : Int) = IntKind.u8.wrap n := by
  have h := u64_cast n
  rw [IntKind.wrap_u64] at h
  rw [Int.natCast_emod, h, IntKind.wrap_u8]
  omega

set_option maxHeartbeats 1000000 in
theorem low_yes (n k : Int) (w : World) (hk : wideB k = true) (hf : fitsB n k = true) :
    Calls Try.prog 8 #[.int .i64 n, .int .i64 k] w fun e w' => e = .returned (.bool true) ∧ Below w.heap.size w w' := by
  have hlow := u64_low n
  have hiT := fun W => low_index 7 (u64 n) W
  have hzT : ((str (Lib.leBytes 8 (u64 n))).size : Int) = 8 := by rw [str_size, Lib.leBytes_length]; rfl
  have hk' := wide_cases hk
  obtain ⟨q, hq⟩ : ∃ q : Nat, k.toNat = q + 1 := ⟨k.toNat - 1, by omega⟩
  have hiS := fun W => low_index q (u64 n) W
  have hsl := fun W => low_slice (q + 1) (u64 n) (by omega) W
  have hzS : (str (Lib.leBytes (q + 1) (u64 n))).size = q + 1 := by rw [str_size, Lib.leBytes_length]
  rw [show ((q + 1 : Nat) : Int) = (q : Int) + 1 by omega] at hsl
  have C1 := fun W => put_str n k W hk hf
  have C2 := fun W => put_str n 8 W (by decide) (fits_eight n)
  rw [hq] at C1
  rw [show (8 : Int).toNat = 8 from rfl] at C2
  generalize str (Lib.leBytes (q + 1) (u64 n)) = S at C1 hiS hsl hzS
  generalize str (Lib.leBytes 8 (u64 n)) = T at C2 hiT hsl hzT
  generalize ((u64 n % 256 : Nat) : Int) = b at hlow hiS hiT
  have c1 := Lib.hid C1
  have c2 := Lib.hid C2
  clear C1 C2
  have HL := Lib.hid hlow.symm
  clear hlow
  have hwr : IntKind.u8.wrap n = b := HL.out
  have hs0 : (0 : Int) < (S.size : Int) := by omega
  clear hq hk' hk hf
  go_enter Try.func8, Try.ntmps8
  go_wp2_with fail
  refine (c1.out _).mono ?_
  rintro e w1 ⟨rfl, hb⟩
  have H1 := Lib.hid hb
  clear hb
  go_wp2_with fail
  refine (c2.out _).mono ?_
  rintro e w2 ⟨rfl, hb⟩
  have H2 := Lib.hid hb
  clear hb
  go_wp2_with fail
  go_still_tail 23, (by kernel_rfl)
  go_wp2_with (go_at_call 11; refine (known_true _).mono ?_; rintro e w3 ⟨rfl, hb⟩; have H3 := Lib.hid hb; clear hb)
  go_ret
  exact ⟨rfl, chain (chain H1.out H2.out).drew H3.out⟩

set_option maxHeartbeats 1000000 in
theorem low_no (n k : Int) (w : World) (hg : ¬ (wideB k = true ∧ fitsB n k = true)) :
    Calls Try.prog 8 #[.int .i64 n, .int .i64 k] w fun e w' => e = .returned (.bool true) ∧ Below w.heap.size w w' := by
  have hlow := u64_low n
  have hiT := fun W => low_index 7 (u64 n) W
  have hzT : ((str (Lib.leBytes 8 (u64 n))).size : Int) = 8 := by rw [str_size, Lib.leBytes_length]; rfl
  have C1 := fun W => put_no n k W hg
  have C2 := fun W => put_str n 8 W (by decide) (fits_eight n)
  rw [show (8 : Int).toNat = 8 from rfl] at C2
  generalize str (Lib.leBytes 8 (u64 n)) = T at C2 hiT hzT
  generalize ((u64 n % 256 : Nat) : Int) = b at hlow hiT
  have c1 := Lib.hid C1
  have c2 := Lib.hid C2
  have hwr : IntKind.u8.wrap n = b := hlow.symm
  clear C1 C2 hlow hg
  go_enter Try.func8, Try.ntmps8
  go_wp2_with fail
  refine (c1.out _).mono ?_
  rintro e w1 ⟨rfl, rfl⟩
  go_wp2_with fail
  refine (c2.out _).mono ?_
  rintro e w2 ⟨rfl, hb⟩
  have H2 := Lib.hid hb
  clear hb
  go_wp2_with fail
  refine ws_region_tail 23 (by kernel_rfl) (by kernel_rfl) ?_
  simp only [List.take_succ_cons, List.take_zero, List.drop_succ_cons, List.drop_zero]
  iterate 3 (refine ws_step (fun K hK => ?_); go_simp; refine hK _ ?_; clear hK K)
  iterate 18 (refine ws_skip (by kernel_rfl) ?_)
  iterate 2 (refine ws_step (fun K hK => ?_); go_simp; refine hK _ ?_; clear hK K)
  refine ws_nil ?_
  go_wp2_with (go_at_call 11; refine (known_true _).mono ?_; rintro e w3 ⟨rfl, hb⟩; have H3 := Lib.hid hb; clear hb)
  go_ret
  exact ⟨rfl, chain H2.out.drew H3.out⟩


theorem low_true (n : Int) (_wn : (Lit.int .i64 n).wf = true) (k : Int) (_wk : (Lit.int .i64 k).wf = true) (w : World) :
    Calls Try.prog 8 #[.int .i64 n, .int .i64 k] w fun e w' => e = .returned (.bool true) ∧ Below w.heap.size w w' := by
  by_cases hg : wideB k = true ∧ fitsB n k = true
  · exact low_yes n k w hg.1 hg.2
  · exact low_no n k w hg

end Go.Proofs.Ytbnpocgmidnjcaa
