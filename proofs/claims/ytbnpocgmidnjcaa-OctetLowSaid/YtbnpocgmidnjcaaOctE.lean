/- The walk of octet.Unhex: its contracts. No condition but those that each states. -/
import Derived.Test.YtbnpocgmidnjcaaOctD
import Derived.Test.YtbnpocgmidnjcaaOctHexP
import Derived.Lib.OthersKept
namespace Go.Proofs.Ytbnpocgmidnjcaa
open Go.RowKit

set_option maxHeartbeats 400000 in
theorem unhex_odd (s : ByteArray) (w : World) (hs : s.size ≤ 9223372036854775807) (ho : s.size % 2 = 1) :
    Calls Try.prog 16 #[.string s] w fun e w' => e = .returned (.tuple #[.string ⟨#[]⟩, .int .i64 4]) ∧ w = w' := by
  have h1 : (((s.size : Int) % 2) != 0) = true := by rw [bne_iff_ne]; omega
  clear ho
  go_enter Try.func16, Try.ntmps16
  go_wp2
  go_ret2
  exact ⟨rfl, rfl⟩

theorem dig_yes (b : UInt8) (w : World) (h : 0 ≤ hexVal b) :
    Calls Try.prog 27 #[.int .i32 (b.toNat : Int)] w fun e w' => e = .returned (.tuple #[.int .u8 (hexVal b), .bool true]) ∧ w = w' := by
  unfold hexVal at h ⊢
  by_cases h1 : 48 ≤ b.toNat ∧ b.toNat ≤ 57
  · rw [if_pos h1]; exact dig_num _ w (by omega) (by omega)
  · rw [if_neg h1] at h ⊢
    by_cases h2 : 97 ≤ b.toNat ∧ b.toNat ≤ 102
    · rw [if_pos h2]; exact dig_let _ w (by omega) (by omega)
    · rw [if_neg h2] at h; omega

theorem dig_nay (b : UInt8) (w : World) (h : hexVal b < 0) :
    Calls Try.prog 27 #[.int .i32 (b.toNat : Int)] w fun e w' => e = .returned (.tuple #[.int .u8 0, .bool false]) ∧ w = w' := by
  unfold hexVal at h
  by_cases h1 : 48 ≤ b.toNat ∧ b.toNat ≤ 57
  · rw [if_pos h1] at h; omega
  · rw [if_neg h1] at h
    by_cases h2 : 97 ≤ b.toNat ∧ b.toNat ≤ 102
    · rw [if_pos h2] at h; omega
    · exact dig_no _ w (by omega) (by omega)

theorem iter_old (w : World) (s : ByteArray) (pos j : Nat) (h : j < w.heap.size) : (w.iter s pos).heap[j]? = w.heap[j]? := by
  show (w.heap.push _)[j]? = _
  rw [Array.getElem?_push, if_neg (by omega)]

theorem below_iter {B : Nat} {a w : World} (h : Below B a w) (hB : B ≤ w.heap.size) (s : ByteArray) (pos : Nat) : Below B a (w.iter s pos) :=
  h.trans ⟨rfl, rfl, rfl, by show _ ≤ (w.heap.push _).size; simp, fun k hk => iter_old w s pos k (by omega)⟩

/-- One step of the iterator, in a world of its own name. -/
theorem next_step {P : Program} {w wr : World} {s : ByteArray} {i k : Nat} {e : TypeId} {f : Nat → Value} (hlt : i < s.size) (hit : wr.heap[w.heap.size + 1]? = some (.stringIter s i)) (hrow : wr.rowIs w.heap.size e k f) (hbel : Below w.heap.size w wr) :
    ∃ (w1 : World), (∀ ty, (Instr.next (.pointer (some ⟨w.heap.size + 1, 0, none⟩)) true ty).run P wr = .ok (.tuple #[.bool true, .int .i64 i, .int .i32 (Utf8.decode s i).1]) w1) ∧
      w1.heap[w.heap.size + 1]? = some (.stringIter s (i + (Utf8.decode s i).2)) ∧ w1.rowIs w.heap.size e k f ∧ Below w.heap.size w w1 :=
  ⟨_, fun ty => Lib.run_next_any_at wr _ s i ty hit hlt, Lib.iterAt_heap wr _ s i _ hit, hrow.of_block (Lib.iterAt_other wr _ _ s _ (by omega)), Lib.below_iterAt hbel (by omega) s _⟩

set_option maxHeartbeats 1000000 in
theorem unhex_even (s : ByteArray) (k : Nat) (w : World) (hs : s.size ≤ 140737488355328) (hk : s.size = 2 * k) :
    Calls Try.prog 16 #[.string s] w fun e w' => e = .returned (unhexRes s.data.toList) ∧ Below w.heap.size w w' := by
  have h1 : (((s.size : Int) % 2) != 0) = false := by simp; omega
  have h2 : (s.size : Int) / 2 = (k : Int) := by omega
  have hmk := fun w : World => run_make_row' (P := Try.prog) 44 5 (.int .u8 0) 1 Try.underlying44 Try.info5 rfl .i64 .i64 k (by omega) (by omega) w
  have HK := Lib.hid hk
  clear hk
  go_enter Try.func16, Try.ntmps16
  go_wp2
  clear hmk h2 h1
  go_loopw [5] (fun _ wr => ∃ i : Nat, i ≤ s.size ∧ Hid (wr.heap[w.heap.size + 1]? = some (.stringIter s i)) ∧ isHex (s.data.toList.take i) = true ∧ Hid (wr.rowIs w.heap.size 5 k (unRow s.data.toList i)) ∧ Hid (Below w.heap.size w wr)) (fun _ wr => s.size - wr.iterPos (w.heap.size + 1))
  case atStart =>
    refine ⟨0, Nat.zero_le _, ?_, by simp [isHex], ?_, ?_⟩
    · exact Lib.hid (by have := World.iter_heap (w.alloc (.cells (madeCells #[.int .u8 0] k) 5)) s 0; simpa using this)
    · exact Lib.hid (((World.rowIs_made w _ _ _).congr (fun m _ => unRow_zero _ m)).of_block (iter_old _ s 0 _ (by simp)))
    · exact Lib.hid (below_iter ((Below.refl _ _).alloc (Nat.le_refl _) _) (by simp) s 0)
  case round =>
    obtain ⟨i, hi, hit, hhex, hrow, hbel⟩ := hrel
    by_cases hlt : i < s.size
    · obtain ⟨w1, hn, hit1, hrow1, hbel1⟩ := next_step (P := Try.prog) hlt hit.out hrow.out hbel.out
      have HI := Lib.hid hit1
      have HR := Lib.hid hrow1
      have HB := Lib.hid hbel1
      clear hit1 hrow1 hbel1 hrow hbel
      have HH := Lib.hid hhex
      clear hhex
      have hfz : w1.frozen? ⟨w.heap.size, i / 2, none⟩ = false := HR.out.frozen _
      have hik : (i : Int) / 2 < (k : Int) := by have := HK.out; omega
      have hcl : w1.cell? ⟨w.heap.size, i / 2, none⟩ = some (.int .u8 (unCell s.data.toList i (i / 2))) := HR.out.cell (by omega)
      have hsb : s.data.toList[i]? = some s[i] := Lib.Pa.at_eq s i hlt
      by_cases ha : s[i].toNat < 128
      · have hd := decode_ascii s i hlt ha
        rw [hd] at hn HI
        obtain ⟨b, hb⟩ : ∃ b, b = s[i] := ⟨_, rfl⟩
        rw [← hb] at hn hsb
        have hl : i < s.data.toList.length := by simpa using hlt
        have hbl : s.data.toList[i] = b := by rw [List.getElem?_eq_getElem hl] at hsb; exact Option.some.inj hsb
        by_cases hv : 0 ≤ hexVal b
        · have HT := Lib.hid (isHex_take_succ s.data.toList i hl (by rw [hbl]; exact hv) HH.out)
          have HS := Lib.hid (unRow_step s.data.toList i b hsb hv (fun p hp => isHex_at _ i (2 * p) (by omega) (by omega) HH.out))
          clear hsb hbl hb hd ha hl
          go_wp2_with (go_at_call 27; refine (dig_yes b _ hv).mono ?_; rintro e w' ⟨rfl, rfl⟩)
          go_roundw
          case rel => exact ⟨i + 1, by omega, Lib.hid ((Below.heap_setCell _ _ _ _ (by simp)).trans HI.out), HT.out, Lib.hid ((HR.out.set _ _).congr (fun m _ => HS.out m)), Lib.hid (HB.out.setCell (by simp) _)⟩
          case measure =>
            rw [iterPos_of (s := s) (p := i + 1) ((Below.heap_setCell _ _ _ _ (by simp)).trans HI.out), iterPos_of hit.out]
            omega
        · have HF := Lib.hid (unhexRes_no s.data.toList (isHex_not _ i hl (by rw [hbl]; omega)))
          clear hsb hbl hb hd ha hl
          go_wp2_with (go_at_call 27; refine (dig_nay b _ (by omega)).mono ?_; rintro e w' ⟨rfl, rfl⟩)
          go_ret2
          exact ⟨by rw [HF.out]; rfl, HB.out⟩
      · have hd := (decode_high s i hlt (by omega)).1
        have hl : i < s.data.toList.length := by simpa using hlt
        have hbl : s.data.toList[i] = s[i] := by rw [List.getElem?_eq_getElem hl] at hsb; exact Option.some.inj hsb
        have HF := Lib.hid (unhexRes_no s.data.toList (isHex_not _ i hl (by rw [hbl]; unfold hexVal; rw [if_neg (by omega), if_neg (by omega)]; omega)))
        generalize (Utf8.decode s i).1 = r at hn hd
        clear hsb hbl ha hl
        go_wp2_with (go_at_call 27; refine (dig_no _ _ (by omega) (by omega)).mono ?_; rintro e w' ⟨rfl, rfl⟩)
        go_ret2
        exact ⟨by rw [HF.out]; rfl, HB.out⟩
    · obtain rfl : i = s.size := by omega
      have hn := fun ty => Lib.run_next_end_at (P := Try.prog) wr (w.heap.size + 1) s s.size ty hit.out (Nat.lt_irrefl _)
      have hl : s.data.toList.length = s.size := by simp
      have hx : isHex s.data.toList = true := by rw [← List.take_length (l := s.data.toList), hl]; exact hhex
      have g := run_convert_bytes_back (P := Try.prog) wr 44 9 5 ⟨w.heap.size, 0, none⟩ k (unhexL s.data.toList) Try.underlying44 Try.underlying5 Try.underlying9 (fun m hm => by
        have hm' := hm
        rw [unhexL_length, hl] at hm'
        rw [Addr.add_lit, Nat.zero_add, hrow.out.cell (by have := HK.out; omega)]
        have := unRow_all s.data.toList k (by rw [hl]; exact HK.out) hx m hm
        rw [hl] at this
        rw [this])
      rw [unhexL_length, hl, show s.size / 2 = k by have := HK.out; omega] at g
      have HF := Lib.hid (unhexRes_yes s.data.toList (by rw [hl]; have := HK.out; omega) hx)
      clear hx hl hhex
      go_wp2
      go_ret2
      exact ⟨by rw [HF.out]; rfl, hbel.out⟩

end Go.Proofs.Ytbnpocgmidnjcaa
