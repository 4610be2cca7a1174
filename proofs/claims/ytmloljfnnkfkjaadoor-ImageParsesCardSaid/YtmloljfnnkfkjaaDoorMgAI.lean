/- strings.Builder: the walks of copyCheck, WriteString and String: their contracts. The walk of octet.Put, octet.decode and octet.Get: their contracts. The walk of octet.Get, octet.Next, octet.Text: their contracts. The walks of Next and Text: their contracts. No condition but those that each states. -/
import Derived.Test.YtmloljfnnkfkjaaDoorMgAC
import Derived.Test.YtmloljfnnkfkjaaDoorMgAH
import Derived.Lib.Builder
import Derived.Lib.AppendStr
import Derived.Lib.UnsafeStr
import Derived.Lib.Strings
import Derived.IntWalk
import Derived.ShutString
namespace Go.Proofs.YtmloljfnnkfkjaaDoor.Sl
abbrev Bytes := List UInt8
open Go.RowKit Dk

theorem b_info : (Tryd.prog.info? 76).map (·.size) = some 2 := by kernel_rfl
theorem b_lies : liesAt Tryd.prog Tryd.prog.depth 76 (2 / Tryd.prog.cellsOf 76) 0 76 1 = true := by kernel_rfl
theorem b_ne : 76 ≠ 5 := by decide
theorem b_cells : Tryd.prog.cellsOf 5 = 1 := by kernel_rfl

/-- A builder of the call's own: block b, from B on, holds the bytes l. -/
abbrev IsB (B b : Nat) (l : Bytes) (w : World) : Prop := Lib.IsBuilder 76 5 B b (Lib.byteCells l) w

theorem isB_new (w : World) : IsB w.heap.size w.heap.size [] (w.alloc (.cells #[.pointer none, .slice none 0 0] 76)) := Lib.fresh_isBuilder _ _ w

theorem neq_self (a : Addr) (w : World) : (binOp .neq 73 (.pointer (some a)) (.pointer (some a))).run Tryd.prog w = .ok (.bool false) w := by
  obtain ⟨j, hj, _⟩ := Option.map_eq_some_iff.1 b_info
  exact Lib.run_neq_ptr_same w a Tryd.underlying73 hj

set_option maxHeartbeats 1000000 in
set_option maxRecDepth 100000 in
theorem check_used (b : Nat) (w : World) (h0 : w.cell? ⟨b, 0, none⟩ = some (.pointer (some ⟨b, 0, none⟩))) :
    Calls Tryd.prog 85 #[.pointer (some ⟨b, 0, none⟩)] w fun e w' => e = .returned (.tuple #[]) ∧ w = w' := by
  have hn := neq_self
  go_enter Tryd.func85, Tryd.ntmps85
  go_wp2
  go_end0
  exact ⟨rfl, rfl⟩

set_option maxHeartbeats 1000000 in
set_option maxRecDepth 100000 in
theorem check_fresh (b : Nat) (w : World) (h0 : w.cell? ⟨b, 0, none⟩ = some (.pointer none)) (hsh : w.shape? b = some (76, 2)) (hfz : w.frozen? ⟨b, 0, none⟩ = false) :
    Calls Tryd.prog 85 #[.pointer (some ⟨b, 0, none⟩)] w fun e w' => e = .returned (.tuple #[]) ∧ w.setCell ⟨b, 0, none⟩ (.pointer (some ⟨b, 0, none⟩)) = w' := by
  obtain ⟨j, hj, hjs⟩ := Option.map_eq_some_iff.1 b_info
  have hn := neq_self
  have c1 := Lib.run_to_unsafe (P := Tryd.prog) (src := 73) (dst := 129) w ⟨b, 0, none⟩ Tryd.underlying73 Tryd.underlying129 hj (by rw [hjs]; decide) hsh (Nat.zero_lt_succ 1)
  have c2 := Lib.run_from_unsafe (P := Tryd.prog) (src := 129) (dst := 73) w ⟨b, 0, none⟩ Tryd.underlying129 Tryd.underlying73 hj hsh b_lies
  have hx : (callFunc 102 #[.pointer (some ⟨b, 0, none⟩)]).run Tryd.prog w = .ok (.value (.pointer (some ⟨b, 0, none⟩))) w := by kernel_rfl
  clear hj hjs hsh
  go_enter Tryd.func85, Tryd.ntmps85
  go_wp2
  go_end0
  exact ⟨rfl, rfl⟩

theorem check_any (B b : Nat) (l : List Value) (w : World) (h : Lib.IsBuilder 76 5 B b l w) :
    Calls Tryd.prog 85 #[.pointer (some ⟨b, 0, none⟩)] w fun e w' => e = .returned (.tuple #[]) ∧ Lib.BuilderAt 76 5 B b (.pointer (some ⟨b, 0, none⟩)) l w' ∧ Below B w w' := by
  rcases h with h | h
  · exact (check_fresh b w h.cell0 h.shape h.frozen0).mono fun e w' ⟨a, c⟩ => by subst c; exact ⟨a, h.used _, (Below.refl B w).setCell (p := ⟨b, 0, none⟩) h.1 _⟩
  · exact (check_used b w h.cell0).mono fun e w' ⟨a, c⟩ => by subst c; exact ⟨a, h, Below.refl B _⟩

set_option maxHeartbeats 2000000 in
set_option maxRecDepth 100000 in
theorem write_string (B b : Nat) (l : Bytes) (s : ByteArray) (w : World) (h : IsB B b l w) (hlen : l.length + s.size ≤ 2 ^ 40) (hBw : B ≤ w.heap.size) :
    Calls Tryd.prog 46 #[.pointer (some ⟨b, 0, none⟩), .string s] w fun e w' => e = .returned (.tuple #[.int .i64 s.size, .nilIface]) ∧ IsB B b (l ++ s.data.toList) w' ∧ Below B w w' := by
  obtain ⟨i0, hi, hz0, hz1, hz2⟩ := info_parts Tryd.info5
  have hC := Lib.hid (check_any B b _ w h)
  have hl := Lib.hid (Lib.byteCells_length l)
  have hR : Hid (Lib.byteCells (l ++ s.data.toList) = Lib.byteCells l ++ Lib.strCells s) := Lib.hid (by rw [Lib.byteCells_append, Lib.strCells_eq])
  have hs := Lib.strCells_length s
  show Calls _ _ _ w fun e w' => _ ∧ Lib.IsBuilder _ _ B b (Lib.byteCells (l ++ s.data.toList)) w' ∧ _
  rw [hR.out]
  generalize Lib.byteCells l = bs at *
  go_enter Tryd.func46, Tryd.ntmps46
  go_wp2_with fail
  refine hC.out.mono ?_
  rintro e w1 ⟨rfl, h1, hb1⟩
  obtain ⟨hB, v, hbk, hown, hne⟩ := h1
  have c0 : w1.cell? ⟨b, 0, none⟩ = some (.pointer (some ⟨b, 0, none⟩)) := by rw [Lib.cell_of_heap hbk]; rfl
  have c1 : w1.cell? ⟨b, 1, none⟩ = some v := by rw [Lib.cell_of_heap hbk]; rfl
  go_wp2_with (at_builtin; refine Lib.wpList_append_own_string _ rfl _ _ 74 9 rfl B 5 i0 Tryd.underlying74 Tryd.underlying9 hi hz0 hz1 hz2 _ _ _ rfl hown s rfl ?c3 ?c4 ?c5 ?_)
  case c3 => unfold maxLen; rw [hl.out]; omega
  case c4 => rw [hl.out]; omega
  case c5 => have := hb1.size; omega
  intro v' w2 hown' hgrow _
  have hlt : b < w1.heap.size := by
    rcases Nat.lt_or_ge b w1.heap.size with h' | h'
    · exact h'
    · simp [Array.getElem?_eq_none h'] at hbk
  have hb2 : w2.heap[b]? = some (.cells #[.pointer (some ⟨b, 0, none⟩), v] 76 (0, 0)) := by
    rw [hgrow.block b hlt (fun e => hne e.symm)]
    exact hbk
  have d1 : w2.cell? ⟨b, 1, none⟩ = some v := by rw [Lib.cell_of_heap hb2]; rfl
  have f1 : w2.frozen? ⟨b, 1, none⟩ = false := Lib.frozen_of_heap hb2 1
  obtain ⟨ao, n', cap, rfl⟩ : ∃ ao n' cap, v' = .slice ao n' cap := by
    rcases hown'.2 with ⟨hv, _⟩ | ⟨g, cap, cur, hv, _⟩
    · exact ⟨_, _, _, hv⟩
    · exact ⟨_, _, _, hv⟩
  have HF : Hid (Lib.BuilderAt 76 5 B b (.pointer (some ⟨b, 0, none⟩)) (bs ++ Lib.strCells s) (w2.setCell ⟨b, 1, none⟩ (.slice ao n' cap))) := Lib.hid (Lib.BuilderAt.put hB hb2 (by rw [List.length_append, hs]; exact hown') b_ne)
  have HG : Hid (Below B w (w2.setCell ⟨b, 1, none⟩ (.slice ao n' cap))) := Lib.hid ((hb1.grown hgrow (by have := hb1.size; omega) (fun k hk => (hown.lt k hk).1)).setCell (p := ⟨b, 1, none⟩) hB _)
  clear hown hown' hgrow hb2 hbk hC hl hR hb1
  go_wp2
  go_ret2
  exact ⟨rfl, .inr HF.out, HG.out⟩

set_option maxHeartbeats 2000000 in
set_option maxRecDepth 100000 in
theorem string_full (B b : Nat) (l : Bytes) (w : World) (h : IsB B b l w) (h0 : l ≠ []) :
    Calls Tryd.prog 47 #[.pointer (some ⟨b, 0, none⟩)] w fun e w' => e = .returned (.string (strOf l)) ∧ Below B w w' := by
  obtain ⟨p, hB, v, hbk, hown, hne⟩ : ∃ p, Lib.BuilderAt 76 5 B b p (Lib.byteCells l) w := by
    rcases h with h | h
    · exact ⟨_, h⟩
    · exact ⟨_, h⟩
  have hl0 : l.length ≠ 0 := by simpa using h0
  rw [Lib.byteCells_length] at hown
  obtain ⟨g, cap, cur, rfl, hbg, hg, hnc, hcm, hcs, htake⟩ : ∃ g cap cur, v = .slice (some ⟨g, 0, none⟩) l.length cap ∧ B ≤ g ∧ w.heap[g]? = some (.cells cur 5 (0, 0)) ∧ l.length ≤ cap ∧ cap ≤ maxLen ∧ cur.size = cap * 1 ∧ cur.toList.take (l.length * 1) = Lib.byteCells l := by
    rcases hown.2 with ⟨_, hz⟩ | ⟨g, cap, cur, hv, r⟩
    · exact absurd hz hl0
    · exact ⟨g, cap, cur, hv, r⟩
  have hbk' : w.drew.heap[b]? = some (.cells #[p, .slice (some ⟨g, 0, none⟩) l.length cap] 76 (0, 0)) := hbk
  have hg' : w.drew.heap[g]? = some (.cells cur 5 (0, 0)) := hg
  have c1 : w.drew.cell? ⟨b, 1, none⟩ = some (.slice (some ⟨g, 0, none⟩) l.length cap) := by rw [Lib.cell_of_heap hbk']; rfl
  have hSD : (Builtin.unsafeSliceData_ #[74] 114 #[.slice (some ⟨g, 0, none⟩) l.length cap]).run Tryd.prog w.drew = .ok (.pointer (some ⟨g, 0, none⟩)) w.drew := Lib.run_unsafeSliceData_row _ _ _ _ _ _ (by omega)
  have hUS : (Builtin.unsafeString_ #[114, 3] 9 #[.pointer (some ⟨g, 0, none⟩), .int .i64 l.length]).run Tryd.prog w.drew = .ok (.string (strOf l)) (w.drew.freeze ⟨g, 0, none⟩ l.length) := by
    refine Lib.run_unsafeString_row w.drew 114 3 9 5 Tryd.underlying114 b_cells g cur.size (by simp [World.shape?, hg']) l h0 (by omega) (by unfold maxLen at hcm; omega) ?_
    intro j x hx
    exact hown.cells (g := g) rfl j (.int .u8 x.toNat) (by simp [Lib.byteCells, hx])
  have HF : Hid (Below B w (w.drew.freeze ⟨g, 0, none⟩ l.length)) := Lib.hid (Lib.below_freeze (Below.drew (Below.refl B w)) (p := ⟨g, 0, none⟩) hbg _)
  clear h h0 hl0 hbk hown hne hg hnc hcm hcs htake hbk' hg'
  go_enter Tryd.func47, Tryd.ntmps47
  go_wp2
  go_region
  all_goals (go_wp2; go_ret; exact ⟨rfl, HF.out⟩)

theorem lt_of_heap {w : World} {b : Nat} {o : Obj} (h : w.heap[b]? = some o) : b < w.heap.size := by
  rcases Nat.lt_or_ge b w.heap.size with h' | h'
  · exact h'
  · simp [Array.getElem?_eq_none h'] at h

theorem bat_later {B b : Nat} {p : Value} {bs : List Value} {w w' : World} (h : Lib.BuilderAt 76 5 B b p bs w) (k : Below w.heap.size w w') : Lib.BuilderAt 76 5 B b p bs w' := by
  obtain ⟨hB, v, hbk, hown, hne⟩ := h
  refine ⟨hB, v, (k.block b (lt_of_heap hbk)).trans hbk, ownsRow_block hown (fun g hg => ?_), hne⟩
  rcases hown.2 with ⟨rfl, _⟩ | ⟨g', cap, cur, rfl, _, hg', _⟩
  · cases hg
  · cases hg; exact k.block _ (lt_of_heap hg')

end Go.Proofs.YtmloljfnnkfkjaaDoor.Sl

namespace Go.Proofs.YtmloljfnnkfkjaaDoor
open Go.RowKit

theorem wide_cases {k : Int} (h : wideB k = true) : k = 1 ∨ k = 2 ∨ k = 4 ∨ k = 8 := by
  simp [wideB] at h; omega

set_option maxHeartbeats 400000 in
theorem put_ok (n k : Int) (w : World) (hk : wideB k = true) (hf : fitsB n k = true) :
    Calls Tryd.prog 45 #[.int .i64 n, .int .i64 k] w fun e w' => e = .returned (.tuple #[.string ⟨(Lib.leBytes k.toNat (u64 n)).toArray⟩, .int .i64 0]) ∧ Below w.heap.size w w' := by
  go_enter Tryd.func45, Tryd.ntmps45
  go_wp2_with (first | (go_at_call 83; refine (isWidth_any _ _).mono ?_; rintro e w' ⟨rfl, rfl⟩) | (go_at_call 84; refine (fits_any _ _ _ (wide_cases hk)).mono ?_; rintro e w' ⟨rfl, rfl⟩))
  rw [← u64_cast]
  have hk' := wide_cases hk
  have hu := u64_lt n
  refine (encode_int _ _ _ (by omega) (by omega) (by omega) (by omega)).mono ?_
  rintro e w' ⟨rfl, hb⟩
  rw [Int.toNat_natCast]
  have HB := Lib.hid hb
  clear hb
  go_wp2
  go_ret2
  exact ⟨rfl, HB.out⟩

def decAt (l : List UInt8) (j : Nat) : Nat := Lib.leNat (l.take j)

set_option maxHeartbeats 400000 in
theorem decode_any (s : ByteArray) (w : World) (hs : s.size ≤ 8) :
    Calls Tryd.prog 95 #[.string s] w fun e w' => e = .returned (.int .u64 (Lib.leNat s.data.toList)) ∧ w = w' := by
  go_enter Tryd.func95, Tryd.ntmps95
  go_wp2
  go_loop [3, 7] (fun vn vi => ∃ j : Nat, j ≤ s.size ∧ vi = .int .i64 j ∧ vn = .int .u64 (decAt s.data.toList j)) (fun _ vi => s.size - (intOf vi).toNat)
  case atStart => exact ⟨0, Nat.zero_le _, rfl, by simp [decAt, Lib.leNat]⟩
  case round =>
    obtain ⟨j, hj, rfl, rfl⟩ := hrel
    by_cases hlt : j < s.size
    · have hst : Hid (bits .or .u64 (decAt s.data.toList j : Int) (IntKind.u64.wrap (IntKind.u64.wrap (s[j].toNat : Int) * 2 ^ (8 * j))) = (decAt s.data.toList (j + 1) : Int)) := by
        have h1 := leNat_lt (s.data.toList.take j)
        have h2 : (s.data.toList.take j).length = j := by simp; omega
        rw [h2] at h1
        have h3 := or_step (decAt s.data.toList j) s[j].toNat j (by omega) h1 (UInt8.toNat_lt _)
        unfold Hid
        rw [h3]
        unfold decAt
        rw [leNat_take_succ _ _ (by simpa using hlt)]
        rfl
      go_wp2
      go_round
      case rel => exact ⟨j + 1, by omega, by go_num, by rw [hst.out]⟩
      case measure => simp [intOf]; omega
    · obtain rfl : j = s.size := by omega
      go_wp2
      go_ret
      exact ⟨by unfold decAt; rw [List.take_of_length_le (by simp)]; rfl, rfl⟩

end Go.Proofs.YtmloljfnnkfkjaaDoor

namespace Go.Proofs.YtmloljfnnkfkjaaDoor
open Go.RowKit

set_option maxHeartbeats 400000 in
theorem get_neg (s : ByteArray) (p k : Int) (w : World) (hk : wideB k = true) (hp : p < 0) :
    Calls Tryd.prog 71 #[.string s, .int .i64 p, .int .i64 k] w fun e w' => e = .returned (.tuple #[.int .i64 0, .int .i64 1]) ∧ w = w' := by
  go_enter Tryd.func71, Tryd.ntmps71
  go_wp2_with (first | (go_at_call 83; refine (isWidth_any _ _).mono ?_; rintro e w' ⟨rfl, rfl⟩))
  go_ret2
  exact ⟨rfl, rfl⟩

set_option maxHeartbeats 400000 in
theorem get_short (s : ByteArray) (p k : Int) (w : World) (hk : wideB k = true) (hp : 0 ≤ p) (hp2 : p ≤ 9223372036854775807) (hs : s.size ≤ 9223372036854775807) (h : (s.size : Int) - p < k) :
    Calls Tryd.prog 71 #[.string s, .int .i64 p, .int .i64 k] w fun e w' => e = .returned (.tuple #[.int .i64 0, .int .i64 2]) ∧ w = w' := by
  have hp' : decide (p < 0) = false := by simp; omega
  go_enter Tryd.func71, Tryd.ntmps71
  go_wp2_with (first | (go_at_call 83; refine (isWidth_any _ _).mono ?_; rintro e w' ⟨rfl, rfl⟩))
  go_ret2
  exact ⟨rfl, rfl⟩

set_option maxHeartbeats 400000 in
theorem get_nat (s : ByteArray) (p q : Nat) (w : World) (hk : wideB q = true) (hs : s.size ≤ 9223372036854775807) (h : p + q ≤ s.size) :
    Calls Tryd.prog 71 #[.string s, .int .i64 p, .int .i64 q] w fun e w' => e = .returned (.tuple #[.int .i64 (getI ((s.data.toList.drop p).take q)), .int .i64 0]) ∧ w = w' := by
  have hq := wide_cases hk
  have hd : decide ((s.size : Int) - (p : Int) < (q : Int)) = false := by simp; omega
  go_enter Tryd.func71, Tryd.ntmps71
  go_wp2_with (first | (go_at_call 83; refine (isWidth_any _ _).mono ?_; rintro e w' ⟨rfl, rfl⟩))
  refine (decode_any _ _ (by rw [ByteArray.size_extract]; omega)).mono ?_
  rintro e w' ⟨rfl, rfl⟩
  rw [Lib.extract_data, Nat.add_sub_cancel_left]
  go_wp2
  go_ret2
  exact ⟨rfl, rfl⟩

/-- Where there are bytes enough: the number at the place. -/
theorem get_ok (s : ByteArray) (p k : Int) (w : World) (hk : wideB k = true) (hp : 0 ≤ p) (hs : s.size ≤ 9223372036854775807) (h : k ≤ (s.size : Int) - p) :
    Calls Tryd.prog 71 #[.string s, .int .i64 p, .int .i64 k] w fun e w' => e = .returned (.tuple #[.int .i64 (getI ((s.data.toList.drop p.toNat).take k.toNat)), .int .i64 0]) ∧ w = w' := by
  have hk' := wide_cases hk
  obtain ⟨a, rfl⟩ := Int.eq_ofNat_of_zero_le hp
  obtain ⟨q, rfl⟩ := Int.eq_ofNat_of_zero_le (show 0 ≤ k by omega)
  exact get_nat s a q w hk hs (by omega)

/-- Of four bytes the number is what they spell. -/
theorem getI_four (l : List UInt8) (h : l.length ≤ 4) : getI l = (Lib.leNat l : Int) ∧ (Lib.leNat l : Int) < 4294967296 := by
  have h1 := leNat_lt l
  have h2 : 256 ^ l.length ≤ 256 ^ 4 := Nat.pow_le_pow_right (by omega) h
  have h3 : Lib.leNat l < 4294967296 := Nat.lt_of_lt_of_le h1 h2
  exact ⟨by unfold getI wrap64; omega, by omega⟩

/-- The length that the four bytes at a place spell. -/
def lenAt (s : ByteArray) (p : Nat) : Nat := Lib.leNat ((s.data.toList.drop p).take 4)

theorem lenAt_lt (s : ByteArray) (p : Nat) : (lenAt s p : Int) < 4294967296 := (getI_four ((s.data.toList.drop p).take 4) (by simp; omega)).2
theorem getI_lenAt (s : ByteArray) (p : Nat) : getI ((s.data.toList.drop p).take 4) = (lenAt s p : Int) := (getI_four _ (by simp; omega)).1

end Go.Proofs.YtmloljfnnkfkjaaDoor

namespace Go.Proofs.YtmloljfnnkfkjaaDoor
open Go.RowKit

set_option maxHeartbeats 400000 in
theorem next_neg (s : ByteArray) (p : Int) (w : World) (hp : p < 0) :
    Calls Tryd.prog 73 #[.string s, .int .i64 p] w fun e w' => e = .returned (.tuple #[.string ⟨#[]⟩, .int .i64 0, .int .i64 1]) ∧ w = w' := by
  go_enter Tryd.func73, Tryd.ntmps73
  go_wp2_with (first | (go_at_call 71; refine (get_neg _ _ _ _ (by decide) hp).mono ?_; rintro e w' ⟨rfl, rfl⟩))
  go_ret3
  exact ⟨rfl, rfl⟩

set_option maxHeartbeats 400000 in
theorem next_short (s : ByteArray) (p : Int) (w : World) (hp : 0 ≤ p) (hp2 : p ≤ 9223372036854775807) (hs : s.size ≤ 9223372036854775807) (h : (s.size : Int) - p < 4) :
    Calls Tryd.prog 73 #[.string s, .int .i64 p] w fun e w' => e = .returned (.tuple #[.string ⟨#[]⟩, .int .i64 0, .int .i64 2]) ∧ w = w' := by
  go_enter Tryd.func73, Tryd.ntmps73
  go_wp2_with (first | (go_at_call 71; refine (get_short _ _ _ _ (by decide) hp hp2 hs h).mono ?_; rintro e w' ⟨rfl, rfl⟩))
  go_ret3
  exact ⟨rfl, rfl⟩

set_option maxHeartbeats 400000 in
theorem next_cut (s : ByteArray) (p : Nat) (w : World) (hs : s.size ≤ 9223372036854775807) (h : p + 4 ≤ s.size) (hn : s.size < p + 4 + lenAt s p) :
    Calls Tryd.prog 73 #[.string s, .int .i64 p] w fun e w' => e = .returned (.tuple #[.string ⟨#[]⟩, .int .i64 0, .int .i64 2]) ∧ w = w' := by
  have hl := lenAt_lt s p
  have hd : decide ((s.size : Int) - ((p : Int) + 4) < (lenAt s p : Int)) = true := by simp; omega
  go_enter Tryd.func73, Tryd.ntmps73
  go_wp2_with (first | (go_at_call 71; refine (get_nat _ _ 4 _ (by decide) hs h).mono ?_; rintro e w' ⟨rfl, rfl⟩; rw [getI_lenAt]))
  go_ret3
  exact ⟨rfl, rfl⟩

set_option maxHeartbeats 400000 in
theorem next_ok (s : ByteArray) (p : Nat) (w : World) (hs : s.size ≤ 9223372036854775807) (hn : p + 4 + lenAt s p ≤ s.size) :
    Calls Tryd.prog 73 #[.string s, .int .i64 p] w fun e w' => e = .returned (.tuple #[.string (s.extract (p + 4) (p + 4 + lenAt s p)), .int .i64 ((p + 4 + lenAt s p : Nat) : Int), .int .i64 0]) ∧ w = w' := by
  have hl := lenAt_lt s p
  have hd : decide ((s.size : Int) - ((p : Int) + 4) < (lenAt s p : Int)) = false := by simp; omega
  go_enter Tryd.func73, Tryd.ntmps73
  go_wp2_with (first | (go_at_call 71; refine (get_nat _ _ 4 _ (by decide) hs (by omega)).mono ?_; rintro e w' ⟨rfl, rfl⟩; rw [getI_lenAt]))
  go_ret3
  exact ⟨by first | rfl | trace_state, rfl⟩

set_option maxHeartbeats 400000 in
theorem text_any (s : ByteArray) (w : World) (hs : s.size + 4 ≤ 9223372036854775807) :
    Calls Tryd.prog 18 #[.string s] w fun e w' => e = .returned (.string (⟨(Lib.leBytes 4 s.size).toArray⟩ ++ s)) ∧ Below w.heap.size w w' := by
  go_enter Tryd.func18, Tryd.ntmps18
  go_wp2_with fail
  refine (encode_int _ _ _ (by omega) (by omega) (by omega) (by omega)).mono ?_
  rintro e w' ⟨rfl, hb⟩
  rw [Int.toNat_natCast, show (4 : Int).toNat = 4 from rfl]
  have HB := Lib.hid hb
  clear hb
  have hsz : ((⟨(Lib.leBytes 4 s.size).toArray⟩ : ByteArray)).size = 4 := (size_of_list _).trans (Lib.leBytes_length _ _)
  have had := fun w : World => run_string_add_sum (P := Tryd.prog) (w := w) ⟨(Lib.leBytes 4 s.size).toArray⟩ s (by omega)
  go_wp2
  go_ret
  exact ⟨rfl, HB.out⟩

end Go.Proofs.YtmloljfnnkfkjaaDoor

