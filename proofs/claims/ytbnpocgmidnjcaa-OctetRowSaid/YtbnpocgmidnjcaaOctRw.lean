/- The walk of chrysalislaw01.OctetRow: it returns true, and nothing that was there has changed. No condition. -/
import Derived.Test.YtbnpocgmidnjcaaOctRowP
import Derived.SliceStrings
import Derived.Outline
import Derived.ProofKit
import Derived.OpenShut
namespace Go.Proofs.Ytbnpocgmidnjcaa
open Go.RowKit

theorem row_next (pre post : List UInt8) (x : ByteArray) (hx : x.size ≤ 2000) (hl : (pre ++ (tx x ++ post)).length ≤ 100000) (w : World) :
    Calls Try.prog 14 #[.string (str (pre ++ (tx x ++ post))), .int .i64 (pre.length : Int)] w fun e w' => e = .returned (.tuple #[.string x, .int .i64 ((pre.length : Int) + 4 + (x.size : Int)), .int .i64 0]) ∧ w = w' := by
  have h1 := row_len pre post x hx
  have hz : (str (pre ++ (tx x ++ post))).size = (pre ++ (tx x ++ post)).length := str_size _
  have hz2 : (pre ++ (tx x ++ post)).length = pre.length + (4 + x.size) + post.length := by rw [List.length_append, List.length_append, tx_length]; omega
  refine (next_ok (str (pre ++ (tx x ++ post))) pre.length w (by omega) (by omega)).mono fun _ _ ⟨he, hb⟩ => ⟨?_, hb⟩
  rw [he, h1, row_text]
  congr 4

theorem row_add (xs : List ByteArray) (j : Nat) (h : j < xs.length) (hx : (xs.getD j ByteArray.empty).size ≤ 2000) (hl : (cat (xs.take j)).length ≤ 100000) (W : World) :
    (Op.stringOp .add (str (cat (xs.take j))) (⟨(Lib.leBytes 4 (xs.getD j ByteArray.empty).size).toArray⟩ ++ xs.getD j ByteArray.empty)).run Try.prog W = .ok (.string (str (cat (xs.take (j + 1))))) W := by
  have h4 : (⟨(Lib.leBytes 4 (xs.getD j ByteArray.empty).size).toArray⟩ : ByteArray).size = 4 := by
    have := str_size (Lib.leBytes 4 (xs.getD j ByteArray.empty).size)
    rw [Lib.leBytes_length] at this
    exact this
  rw [run_string_add_sum (P := Try.prog) (w := W) _ _ (by rw [str_size, ByteArray.size_append, h4]; omega)]
  have e : str (cat (xs.take j)) ++ ((⟨(Lib.leBytes 4 (xs.getD j ByteArray.empty).size).toArray⟩ : ByteArray) ++ xs.getD j ByteArray.empty) = str (cat (xs.take (j + 1))) := by
    rw [cat_snoc xs j h]
    apply ByteArray.ext
    simp [ByteArray.data_append, str, tx]
  rw [e]

theorem row_step (xs : List ByteArray) (q j : Nat) (h : q < j) (hj : j ≤ xs.length) (hx : (xs.getD q ByteArray.empty).size ≤ 2000) (hl : (cat (xs.take j)).length ≤ 100000) (w : World) :
    Calls Try.prog 14 #[.string (str (cat (xs.take j))), .int .i64 ((cat (xs.take q)).length : Int)] w fun e w' => e = .returned (.tuple #[.string (xs.getD q ByteArray.empty), .int .i64 (((cat (xs.take q)).length : Int) + 4 + ((xs.getD q ByteArray.empty).size : Int)), .int .i64 0]) ∧ w = w' := by
  obtain ⟨post, hp⟩ := cat_split xs q j h hj
  rw [hp] at hl ⊢
  exact row_next _ post _ hx hl w

set_option maxHeartbeats 4000000 in
theorem row_any (b off len cap : Nat) (ss : List ByteArray) (w : World) (hlen : len ≤ ss.length) (hmax : len ≤ 9223372036854775807) (hbw : b < w.heap.size) (hz : ∀ j, j < len → (ss.getD j ByteArray.empty).size ≤ 9223372036854775807)
    (hcell : ∀ j, j < len → w.cell? ⟨b, off + j, none⟩ = some (.string (ss.getD j ByteArray.empty))) :
    Calls Try.prog 7 #[.slice (some ⟨b, off, none⟩) len cap] w fun e w' => e = .returned (.bool true) ∧ Below w.heap.size w w' := by
  have HZ := Lib.hid hz
  have HC := Lib.hid hcell
  clear hz hcell
  go_enter Try.func7, Try.ntmps7
  go_wp2
  go_loopw [3, 4] (fun vs vi wr => ∃ j : Nat, j ≤ len ∧ j ≤ 30 ∧ vi = .int .i64 j ∧ vs = .string (str (cat (ss.take j))) ∧ Hid (∀ i, i < j → (ss.getD i ByteArray.empty).size ≤ 2000) ∧ Hid (Below w.heap.size w wr)) (fun _ vi _ => 30 - (intOf vi).toNat)
  case atStart => exact ⟨0, Nat.zero_le _, by omega, rfl, rfl, Lib.hid (fun i hi => absurd hi (Nat.not_lt_zero _)), Lib.hid (Below.refl _ _)⟩
  case round =>
    obtain ⟨j, hj, hj30, rfl, rfl, hsm, hbel⟩ := hrel
    by_cases hlt : j < len ∧ j < 30
    · obtain ⟨hlt, hlt30⟩ := hlt
      have hcx : wr.cell? ⟨b, off + j, none⟩ = some (.string (ss.getD j ByteArray.empty)) := (hbel.out.cell (p := ⟨b, off + j, none⟩) hbw).trans (HC.out j hlt)
      have hzx := HZ.out j hlt
      by_cases hbig : 2000 < (ss.getD j ByteArray.empty).size
      · generalize ss.getD j ByteArray.empty = x at *
        go_wp2_with fail
        refine (known_true _).mono ?_
        rintro e w1 ⟨rfl, hb⟩
        have H1 := Lib.hid hb
        clear hb
        go_wp2
        go_ret
        exact ⟨rfl, chain hbel.out H1.out⟩
      · have hs1 : (cat (ss.take j)).length ≤ 2004 * j := cat_small ss j (by omega) hsm.out
        have hx2 : (ss.getD j ByteArray.empty).size ≤ 2000 := by omega
        have HS2 : Hid (∀ i, i < j + 1 → (ss.getD i ByteArray.empty).size ≤ 2000) := fun i hi => by
          rcases Nat.lt_succ_iff_lt_or_eq.1 hi with h | rfl
          · exact hsm.out i h
          · exact hx2
        have had := fun W => row_add ss j (by omega) hx2 (by omega) W
        have C1 := fun W => text_any (ss.getD j ByteArray.empty) W (by omega)
        have C2 := fun W => hex_any (ss.getD j ByteArray.empty) W (by omega)
        have C3 := fun W => back_unhex (ss.getD j ByteArray.empty) hx2 W
        generalize (⟨(Lib.leBytes 4 (ss.getD j ByteArray.empty).size).toArray⟩ : ByteArray) ++ ss.getD j ByteArray.empty = T at had C1
        generalize (⟨(Lib.Hx.encode (ss.getD j ByteArray.empty).data.toList).toArray⟩ : ByteArray) = X at C2 C3
        generalize ss.getD j ByteArray.empty = x at *
        have c1 := Lib.hid C1
        have c2 := Lib.hid C2
        have c3 := Lib.hid C3
        clear C1 C2 C3 hs1
        have hnb : ¬ (2000 : Int) < (x.size : Int) := by omega
        go_wp2_with fail
        refine (c1.out _).mono ?_
        rintro e w1 ⟨rfl, hb⟩
        have hc1 : w1.cell? ⟨b, off + j, none⟩ = some (.string x) := (hb.cell (p := ⟨b, off + j, none⟩) (by have := hbel.out.size; show b < _; omega)).trans hcx
        have H1 := Lib.hid (chain hbel.out hb)
        clear hb
        go_wp2_with fail
        refine (c2.out _).mono ?_
        rintro e w2 ⟨rfl, hb⟩
        have hc2 : w2.cell? ⟨b, off + j, none⟩ = some (.string x) := (hb.cell (p := ⟨b, off + j, none⟩) (by have := H1.out.size; show b < _; omega)).trans hc1
        have H2 := Lib.hid (chain H1.out hb)
        clear hb
        go_wp2_with fail
        refine (c3.out _).mono ?_
        rintro e w3 ⟨rfl, hb⟩
        have hc3 : w3.cell? ⟨b, off + j, none⟩ = some (.string x) := (hb.cell (p := ⟨b, off + j, none⟩) (by have := H2.out.size; show b < _; omega)).trans hc2
        have H3 := Lib.hid (chain H2.out hb)
        clear hb
        go_wp2
        go_roundw
        case rel => exact ⟨j + 1, by omega, by omega, by go_num, rfl, HS2, H3⟩
        case measure => simp [intOf]; omega
    · have hs1 : (cat (ss.take j)).length ≤ 2004 * j := cat_small ss j (by omega) hsm.out
      have hsz : ((str (cat (ss.take j))).size : Int) = ((cat (ss.take j)).length : Int) := by rw [str_size]
      have CN := Lib.hid (fun q (hq : q < j) W => row_step ss q j hq (by omega) (hsm.out q hq) (by omega) W)
      have HCW : Hid (∀ q, q < j → wr.cell? ⟨b, off + q, none⟩ = some (.string (ss.getD q ByteArray.empty))) := fun q hq => (hbel.out.cell (p := ⟨b, off + q, none⟩) hbw).trans (HC.out q (by omega))
      have HQ : Hid (∀ q, q < j → (cat (ss.take (q + 1))).length = (cat (ss.take q)).length + (4 + (ss.getD q ByteArray.empty).size) ∧ (cat (ss.take (q + 1))).length ≤ 2004 * (q + 1)) := fun q hq => ⟨by rw [cat_snoc ss q (by omega), List.length_append, tx_length], cat_small ss (q + 1) (by omega) (fun i hi => hsm.out i (by omega))⟩
      obtain ⟨S, hS⟩ : ∃ S, S = str (cat (ss.take j)) := ⟨_, rfl⟩
      obtain ⟨L, hL⟩ : ∃ L, L = (cat (ss.take j)).length := ⟨_, rfl⟩
      rw [← hS] at CN hsz ⊢
      rw [← hL] at hsz hs1
      have HL := Lib.hid hL
      clear hS hL
      have hj3 : (j : Int) ≤ 30 := by omega
      by_cases hA : j < len
      · have fB1 : decide (j < len) = true := by simp; omega
        have fB2 : decide ((j : Int) < 30) = false := by simp; omega
        clear hlt hA
        go_wp2
        go_loop [7, 8] (fun va vi => ∃ q : Nat, q ≤ j ∧ vi = .int .i64 q ∧ va = .int .i64 ((cat (ss.take q)).length : Int)) (fun _ vi => j - (intOf vi).toNat)
        case atStart => exact ⟨0, Nat.zero_le _, rfl, rfl⟩
        case round =>
          obtain ⟨q, hq, rfl, rfl⟩ := hrel
          by_cases hqj : q < j
          · have hcx := HCW.out q hqj
            have C := Lib.hid (CN.out q hqj)
            obtain ⟨e1, e2⟩ := HQ.out q hqj
            have hx2 := hsm.out q hqj
            have E1 := Lib.hid e1
            have g1 : (cat (ss.take q)).length ≤ 70000 := by omega
            clear e1 e2
            have hql : q < len := by omega
            have hq3 : (q : Int) < 30 := by omega
            generalize ss.getD q ByteArray.empty = x at *
            generalize (cat (ss.take q)).length = p at *
            go_wp2_with (go_at_call 14; refine (C.out _).mono ?_; rintro e w' ⟨rfl, rfl⟩)
            go_round
            case rel => exact ⟨q + 1, by omega, by go_num, by rw [E1.out]; first | go_num | (congr 1; omega)⟩
            case measure => simp [intOf]; omega
          · obtain rfl : q = j := by omega
            rw [← HL.out]
            go_wp2_with (go_at_call 11; refine (known_true _).mono ?_; rintro e w3 ⟨rfl, hb⟩; have H3 := Lib.hid hb; clear hb)
            go_ret
            exact ⟨rfl, chain hbel.out H3.out⟩
      · have fA : decide (j < len) = false := by simp; omega
        clear hlt hA
        go_wp2
        go_loop [7, 8] (fun va vi => ∃ q : Nat, q ≤ j ∧ vi = .int .i64 q ∧ va = .int .i64 ((cat (ss.take q)).length : Int)) (fun _ vi => j - (intOf vi).toNat)
        case atStart => exact ⟨0, Nat.zero_le _, rfl, rfl⟩
        case round =>
          obtain ⟨q, hq, rfl, rfl⟩ := hrel
          by_cases hqj : q < j
          · have hcx := HCW.out q hqj
            have C := Lib.hid (CN.out q hqj)
            obtain ⟨e1, e2⟩ := HQ.out q hqj
            have hx2 := hsm.out q hqj
            have E1 := Lib.hid e1
            have g1 : (cat (ss.take q)).length ≤ 70000 := by omega
            clear e1 e2
            have hql : q < len := by omega
            have hq3 : (q : Int) < 30 := by omega
            generalize ss.getD q ByteArray.empty = x at *
            generalize (cat (ss.take q)).length = p at *
            go_wp2_with (go_at_call 14; refine (C.out _).mono ?_; rintro e w' ⟨rfl, rfl⟩)
            go_round
            case rel => exact ⟨q + 1, by omega, by go_num, by rw [E1.out]; first | go_num | (congr 1; omega)⟩
            case measure => simp [intOf]; omega
          · obtain rfl : q = j := by omega
            rw [← HL.out]
            go_wp2_with (go_at_call 11; refine (known_true _).mono ?_; rintro e w3 ⟨rfl, hb⟩; have H3 := Lib.hid hb; clear hb)
            go_ret
            exact ⟨rfl, chain hbel.out H3.out⟩

set_option maxHeartbeats 1000000 in
theorem row_none (a : Option Addr) (cap : Nat) (w : World) :
    Calls Try.prog 7 #[.slice a 0 cap] w fun e w' => e = .returned (.bool true) ∧ Below w.heap.size w w' := by
  go_enter Try.func7, Try.ntmps7
  go_wp2
  go_loop [3, 4] (fun vs vi => vs = .string ⟨#[]⟩ ∧ vi = .int .i64 0) (fun _ _ => 0)
  case atStart => exact ⟨rfl, rfl⟩
  case round =>
    obtain ⟨rfl, rfl⟩ := hrel
    go_wp2
    go_loop [7, 8] (fun va vi => va = .int .i64 0 ∧ vi = .int .i64 0) (fun _ _ => 0)
    case atStart => exact ⟨rfl, rfl⟩
    case round =>
      obtain ⟨rfl, rfl⟩ := hrel
      go_wp2_with (go_at_call 11; refine (known_true _).mono ?_; rintro e w3 ⟨rfl, hb⟩; have H3 := Lib.hid hb; clear hb)
      go_ret
      exact ⟨rfl, H3.out⟩

theorem Try.cells9 : Try.prog.cellsOf 9 = 1 := by kernel_rfl

theorem row_true {H : Type} {enc : TypeId × Value → H} {W : World} {base : Nat} {v : Value} {d : DataW H} {p : List MemPlace} (hv : Value.okWide Try.prog W .any base 38 v) (h : DataW.Trod enc Try.prog W 0 (fun _ => true) true 38 v d p) :
    Calls Try.prog 7 #[v] W fun e w' => e = .returned (.bool true) ∧ Below W.heap.size W w' := by
  have hlt : ∀ x ∈ p, x.block < W.heap.size := by obtain ⟨m, hm⟩ := h; exact DataW.trod_lt m _ _ _ hm
  obtain ⟨a0, len, cap, rfl⟩ := WideShapes.okWide_slice Try.underlying38 hv
  obtain ⟨fuel, hf⟩ := h
  rcases ChangeShapes.open_strings Try.underlying38 Try.underlying9 Try.cells9 hf with ⟨hcs, hx⟩ | ⟨a, len', cap', ss, hcs, _, hl, hm, hz, hx, hcell, hws⟩
  · simp [Value.cells] at hcs
    obtain ⟨rfl, rfl, rfl⟩ := hcs
    exact row_none none 0 W
  · simp [Value.cells] at hcs
    obtain ⟨rfl, rfl, rfl⟩ := hcs
    simp only [Prod.mk.injEq] at hx
    simp only [if_true] at hz
    by_cases hl0 : len = 0
    · subst hl0
      exact row_none _ cap W
    · obtain ⟨b, off, spot⟩ := a
      have hspot : spot = none := by simpa [Addr.add] using World.cell?_spot (hcell 0 (by omega))
      subst hspot
      have hbW : b < W.heap.size := hlt (.cell b off) (by rw [hx.2]; exact MemPlace.mem_row.2 ⟨0, by omega, by simp⟩)
      unfold maxLen at hm hws
      refine row_any b off len cap ss W (by omega) (by omega) hbW (fun j hj => ?_) (fun j hj => ?_)
      · have hjs : j < ss.length := by omega
        rw [List.getD_eq_getElem?_getD, List.getElem?_eq_getElem hjs]
        exact hws _ (List.getElem_mem hjs)
      · rw [← WideShapes.add_plain]; exact hcell j (by omega)

end Go.Proofs.Ytbnpocgmidnjcaa
