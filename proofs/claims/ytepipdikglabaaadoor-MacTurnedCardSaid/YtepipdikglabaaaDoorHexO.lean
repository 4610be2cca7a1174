/- The walk of octet.Hex alone: its contract. No condition but those that each states. -/
import Derived.Test.YtepipdikglabaaaDoorDgC
import Derived.Deep.AppendLies
import Derived.Deep.RegionLaw
import Derived.Lib.HexFns
namespace Go.Proofs.YtepipdikglabaaaDoor
open Go.RowKit

theorem and15 (x : Nat) (h : x < 256) : bits .and .u8 (x : Int) 15 = ((x % 16 : Nat) : Int) := by
  have := (bits_nat .u8 8 (by decide) wraps_u8 x 15 (by omega) (by omega)).1
  rw [show ((15 : Nat) : Int) = 15 from rfl] at this
  rw [this, show (15 : Nat) = 2 ^ 4 - 1 from rfl, Nat.and_two_pow_sub_one_eq_mod]

theorem bv_encode_succ (s : ByteArray) (j : Nat) (h : j < s.size) : bv (Lib.Hx.encode (s.data.toList.take (j + 1))) = bv (Lib.Hx.encode (s.data.toList.take j)) ++ [.int .u8 ((Lib.Hx.digit (s[j].toNat / 16)).toNat : Int), .int .u8 ((Lib.Hx.digit (s[j].toNat % 16)).toNat : Int)] := by
  rw [List.take_succ_eq_append_getElem (by simpa using h)]
  simp only [Lib.Hx.encode, List.flatMap_append, bv_append]
  rfl

theorem tab_at (d : Nat) (hd : d < 16) (t : TypeId) (W : World) (ht : Tryd.prog.underlying t = some .string) : (Instr.index t (.string ⟨#[48, 49, 50, 51, 52, 53, 54, 55, 56, 57, 97, 98, 99, 100, 101, 102]⟩) (.int .u8 (d : Int))).run Tryd.prog W = .ok (.int .u8 ((Lib.Hx.digit d).toNat : Int)) W := by
  have g1 : (0 : Int) ≤ (d : Int) := by omega
  have g2 : (d : Int) < 16 := by omega
  go_simp
  have e : Lib.Hx.tab[d]'hd = Lib.Hx.digit d := by unfold Lib.Hx.digit; rw [Lib.Pa.at_eq Lib.Hx.tab d hd]; rfl
  exact congrArg (fun x : UInt8 => (x.toNat : Int)) e

set_option maxHeartbeats 800000 in
theorem hex_any (s : ByteArray) (w : World) (hs : s.size ≤ 20000) :
    Calls Tryd.prog 28 #[.string s] w fun e w' => e = .returned (.string ⟨(Lib.Hx.encode s.data.toList).toArray⟩) ∧ Below w.heap.size w w' := by
  obtain ⟨i0, hi, hz0, hz1, hz2⟩ := info_parts Tryd.info5
  go_enter Tryd.func28, Tryd.ntmps28
  go_wp2_with (at_make; refine wpList_make_own _ rfl _ _ 41 rfl w.heap.size 5 i0 (.int .u8 0) 1 Tryd.underlying41 hi hz0 hz1 .i64 .i64 _ (2 * s.size) rfl rfl (by omega) (by rw [hz2]; omega) (by unfold maxLen; omega) (Nat.le_refl _) ?_; intro w1 hown1 hgr1)
  go_loopw [3, 11] (fun v vi wr => ∃ j : Nat, j ≤ s.size ∧ vi = .int .i64 j ∧
      Hid (wr.ownsRow w.heap.size 5 1 v (2 * j) (bv (Lib.Hx.encode (s.data.toList.take j)))) ∧ Hid (Below w.heap.size w wr)) (fun _ vi _ => s.size - (intOf vi).toNat)
  case atStart => exact ⟨0, Nat.zero_le _, rfl, Lib.hid (by simpa [bv, Lib.Hx.encode] using hown1), (Below.refl _ _).grown hgr1 (Nat.le_refl _) (fun k hk => by cases hk)⟩
  case round =>
    obtain ⟨j, hj, rfl, hown, hbel⟩ := hrel
    clear hown1 hgr1
    by_cases hlt : j < s.size
    · obtain ⟨x, hxs⟩ : ∃ x : Nat, x = s[j].toNat := ⟨_, rfl⟩
      have hb : x < 256 := by rw [hxs]; exact UInt8.toNat_lt _
      have hix : ∀ W : World, (Instr.index 9 (.string s) (.int .i64 (j : Int))).run Tryd.prog W = .ok (.int .u8 (x : Int)) W := fun W => by
        rw [hxs]; go_simp
      have HXS := Lib.hid hxs
      clear hxs
      have hbs := hbel.out.size
      have hd1 : ∀ W : World, (Instr.index 9 (.string ⟨#[48, 49, 50, 51, 52, 53, 54, 55, 56, 57, 97, 98, 99, 100, 101, 102]⟩) (.int .u8 ((x : Int) / 16))).run Tryd.prog W = .ok (.int .u8 ((Lib.Hx.digit (x / 16)).toNat : Int)) W := fun W => by
        have := tab_at (x / 16) (by omega) 9 W Tryd.underlying9
        rwa [Int.natCast_ediv] at this
      have hd2 : ∀ W : World, (Instr.index 9 (.string ⟨#[48, 49, 50, 51, 52, 53, 54, 55, 56, 57, 97, 98, 99, 100, 101, 102]⟩) (.int .u8 (bits .and .u8 (x : Int) 15))).run Tryd.prog W = .ok (.int .u8 ((Lib.Hx.digit (x % 16)).toNat : Int)) W := fun W => by
        rw [and15 x hb]; exact tab_at (x % 16) (by omega) 9 W Tryd.underlying9
      go_wp2
      have hnews := news_at wr #[.int .u8 ((Lib.Hx.digit (x / 16)).toNat : Int), .int .u8 ((Lib.Hx.digit (x % 16)).toNat : Int)] 5
      have HN := Lib.hid hnews
      have HE := Lib.hid (bv_encode_succ s j hlt)
      rw [← HXS.out] at HE
      clear hnews
      go_region_law ((refine step_append_lies _ (by rfl) (.tmp 14) (.tmp 25) 41 (by rfl) w.heap.size 5 i0 (.int .u8 0) 1 1 Tryd.underlying41 hi hz0 hz1 hz2 (by rfl) (by decide) u3 (2 * j) (bv (Lib.Hx.encode (s.data.toList.take j))) (by rfl) (by exact hown.out.alloc _) ⟨wr.heap.size, 0, none⟩ 2 2 [.int .u8 ((Lib.Hx.digit (x / 16)).toNat : Int), .int .u8 ((Lib.Hx.digit (x % 16)).toNat : Int)] (by rfl) (by rfl) (by exact HN.out) (by exact bv_one [Lib.Hx.digit (x / 16), Lib.Hx.digit (x % 16)]) (by omega) (by unfold maxLen; omega) (by omega) (by simp; omega) (wr.heap.size + 1) (by simp) ?_; intro g cap w2 hown2 hgr2 hat2 hlt2))
      all_goals
        have HW := Lib.hid hown2
        have HG := Lib.hid hgr2
        clear hown2 hgr2 hat2 hlt2 hix hd1 hd2
        go_wp2
        go_roundw
        case rel => exact ⟨j + 1, by omega, by go_num, Lib.hid (by rw [HE.out]; exact HW.out), below_append_drew hbel.out hbs hown.out HG.out⟩
        case measure => simp [intOf]; omega
    · obtain rfl : j = s.size := by omega
      have hl : 2 * s.size = (Lib.Hx.encode (s.data.toList.take s.size)).length := by rw [Lib.Hx.encode_length]; simp
      have hown' := hown.out
      rw [hl] at hown'
      have g := run_convert_owned (P := Tryd.prog) (src := 41) (dst := 9) Tryd.underlying41 Tryd.underlying5 Tryd.underlying9 hown'
      clear hown' hl
      go_wp2
      go_ret
      exact ⟨by rw [List.take_of_length_le (by simp)]; rfl, hbel.out⟩

end Go.Proofs.YtepipdikglabaaaDoor
