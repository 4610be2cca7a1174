/- The words of a block, by definition; the walk of the document's words. No condition but those that each states. -/
import Derived.Test.YthddiijnomhpfaaDoorDgB
import Derived.Test.YthddiijnomhpfaaDoorOctOwn
import Derived.Deep.RegionHeld3
import Derived.Deep.AppendLies
import Derived.Deep.RegionLaw
import Derived.Deep.DrawnRows
import Derived.IntWalk
namespace Go.Proofs.YthddiijnomhpfaaDoor
open Go.RowKit
attribute [local go_sem ↓] Go.wp_at_zero Go.wp_at_succ

/-- Words as a row's cells. -/
def wv (l : List Int) : List Value := l.map fun x => .int .u32 x

theorem wv_one (l : List Int) : ∀ u ∈ wv l, u.oneCell' = true := by
  intro u hu
  simp [wv] at hu
  obtain ⟨b, _, rfl⟩ := hu
  rfl

theorem wv_append (a b : List Int) : wv (a ++ b) = wv a ++ wv b := by simp [wv]

def word4 (a b c d : Int) : Int := bits .or .u32 (bits .or .u32 (bits .or .u32 (IntKind.u32.wrap (IntKind.u32.wrap a * 16777216)) (IntKind.u32.wrap (IntKind.u32.wrap b * 65536))) (IntKind.u32.wrap (IntKind.u32.wrap c * 256))) (IntKind.u32.wrap d)

def byteAt (l : List UInt8) (i : Nat) : Int := ((l.getD i 0).toNat : Int)

/-- The i-th word of a block. -/
def wordAt (l : List UInt8) (i : Nat) : Int := word4 (byteAt l (4 * i)) (byteAt l (4 * i + 1)) (byteAt l (4 * i + 2)) (byteAt l (4 * i + 3))

def ssig0 (x : Int) : Int := bits .xor .u32 (bits .xor .u32 (rot x 7) (rot x 18)) (x / 8)
def ssig1 (y : Int) : Int := bits .xor .u32 (bits .xor .u32 (rot y 17) (rot y 19)) (y / 1024)
/-- The word that follows. -/
def wnext (l : List Int) : Int := (l.getD (l.length - 16) 0 + ssig0 (l.getD (l.length - 15) 0) + l.getD (l.length - 7) 0 + ssig1 (l.getD (l.length - 2) 0)) % 4294967296
def wadd (l : List Int) : List Int := l ++ [wnext l]
def ext : Nat → List Int → List Int
  | 0, l => l
  | k + 1, l => wadd (ext k l)
def first16 (l : List UInt8) : List Int := (List.range 16).map (wordAt l)
/-- W0 to W63. -/
def sched (l : List UInt8) : List Int := ext 48 (first16 l)

theorem ext_length (k : Nat) (l : List Int) : (ext k l).length = l.length + k := by
  induction k with
  | zero => rfl
  | succ k ih => simp [ext, wadd, ih]; omega

theorem first16_length (l : List UInt8) : (first16 l).length = 16 := by simp [first16]

theorem range_succ_map (l : List UInt8) (j : Nat) : wv ((List.range (j + 1)).map (wordAt l)) = wv ((List.range j).map (wordAt l)) ++ [.int .u32 (wordAt l j)] := by
  simp [List.range_succ, wv]

theorem wv_get (l : List Int) (i : Nat) (h : i < l.length) : (wv l)[i]? = some (.int .u32 (l.getD i 0)) := by
  simp [wv, List.getD, h]

theorem wv_ext_succ (k : Nat) (l : List Int) : wv (ext (k + 1) l) = wv (ext k l) ++ [.int .u32 (wnext (ext k l))] := by
  simp [ext, wadd, wv]

theorem wsum (a b c d : Int) : IntKind.u32.wrap (IntKind.u32.wrap (IntKind.u32.wrap (a + b) + c) + d) = (a + b + c + d) % 4294967296 := by
  simp only [wrap32u]; omega

/-- A new row of words, L, is handed back. -/
def GivesRow (n : Nat) (L : List Int) (w : World) (e : Ending) (w' : World) : Prop :=
  ∃ gg cap : Nat, e = .returned (.slice (some ⟨gg, 0, none⟩) n cap) ∧ w.heap.size ≤ gg ∧ gg < w'.heap.size ∧ (∀ i, i < n → w'.cell? ⟨gg, i, none⟩ = some (.int .u32 (L.getD i 0))) ∧ Below w.heap.size w w'

theorem Tryd.info5 : (Tryd.prog.info? 5).map (fun i => (i.zero, i.size, i.bytes)) = some (some (.int .u8 0), 1, 1) := by kernel_rfl
theorem Tryd.info23 : (Tryd.prog.info? 23).map (fun i => (i.zero, i.size, i.bytes)) = some (some (.int .u32 0), 1, 4) := by kernel_rfl

def WRel (w : World) (l : List UInt8) (v vi : Value) (wr : World) : Prop := ∃ m gg cap : Nat, 16 ≤ m ∧ m ≤ 64 ∧ vi = .int .i64 m ∧ v = .slice (some ⟨gg, 0, none⟩) m cap ∧ w.heap.size ≤ gg ∧ gg < wr.heap.size ∧
          Hid (wr.ownsRow w.heap.size 23 1 (.slice (some ⟨gg, 0, none⟩) m cap) m (wv (ext (m - 16) (first16 l)))) ∧ Hid (Below w.heap.size w wr)

set_option maxHeartbeats 2000000 in
set_option maxRecDepth 100000 in
theorem rwords_any (g o c : Nat) (l : List UInt8) (w : World) (hg : g < w.heap.size)
    (H : ∀ i, i < 64 → w.cell? ⟨g, o + i, none⟩ = some (.int .u8 (byteAt l i))) :
    Calls Tryd.prog 75 #[.slice (some ⟨g, o, none⟩) 64 c] w (GivesRow 64 (sched l) w) := by
  obtain ⟨i0, hi, hz0, hz1, hz2⟩ := info_parts Tryd.info23
  have HC := Lib.hid H
  clear H
  go_enter Tryd.func75, Tryd.ntmps75
  go_wp2
  go_loopw [3, 4] (fun v vi wr => ∃ j : Nat, j ≤ 16 ∧ vi = .int .i64 j ∧
      Hid (wr.ownsRow w.heap.size 23 1 v j (wv ((List.range j).map (wordAt l)))) ∧ Hid (Below w.heap.size w wr)) (fun _ vi _ => 16 - (intOf vi).toNat)
  case atStart => exact ⟨0, Nat.zero_le _, rfl, Lib.hid (World.ownsRow_nil _ _ _ _), Below.refl _ _⟩
  case round =>
    obtain ⟨j, hj, rfl, hown, hbel⟩ := hrel
    by_cases hlt : j < 16
    · have hb := hbel.out
      have b0 : wr.cell? ⟨g, o + (4 * j), none⟩ = some (.int .u8 (byteAt l (4 * j))) := (hb.cell (p := ⟨g, _, none⟩) hg).trans (HC.out _ (by omega))
      have b1 : wr.cell? ⟨g, o + (4 * j + 1), none⟩ = some (.int .u8 (byteAt l (4 * j + 1))) := (hb.cell (p := ⟨g, _, none⟩) hg).trans (HC.out _ (by omega))
      have b2 : wr.cell? ⟨g, o + (4 * j + 2), none⟩ = some (.int .u8 (byteAt l (4 * j + 2))) := (hb.cell (p := ⟨g, _, none⟩) hg).trans (HC.out _ (by omega))
      have b3 : wr.cell? ⟨g, o + (4 * j + 3), none⟩ = some (.int .u8 (byteAt l (4 * j + 3))) := (hb.cell (p := ⟨g, _, none⟩) hg).trans (HC.out _ (by omega))
      clear hb
      go_wp2
      have q0 : IntKind.i64.wrap (4 * (j : Int)) = 4 * (j : Int) := IntWalk.i64_in _ (by omega)
      have q1 : IntKind.i64.wrap (4 * (j : Int) + 1) = 4 * (j : Int) + 1 := IntWalk.i64_in _ (by omega)
      have q2 : IntKind.i64.wrap (4 * (j : Int) + 2) = 4 * (j : Int) + 2 := IntWalk.i64_in _ (by omega)
      have q3 : IntKind.i64.wrap (4 * (j : Int) + 3) = 4 * (j : Int) + 3 := IntWalk.i64_in _ (by omega)
      have p0 : 0 ≤ 4 * (j : Int) := by omega
      have r0 : 4 * (j : Int) < 64 := by omega
      have p1 : 0 ≤ 4 * (j : Int) + 1 := by omega
      have r1 : 4 * (j : Int) + 1 < 64 := by omega
      have p2 : 0 ≤ 4 * (j : Int) + 2 := by omega
      have r2 : 4 * (j : Int) + 2 < 64 := by omega
      have p3 : 0 ≤ 4 * (j : Int) + 3 := by omega
      have r3 : 4 * (j : Int) + 3 < 64 := by omega
      have s0 : (4 * (j : Int)).toNat = 4 * j := by omega
      have s1 : (4 * (j : Int) + 1).toNat = 4 * j + 1 := by omega
      have s2 : (4 * (j : Int) + 2).toNat = 4 * j + 2 := by omega
      have s3 : (4 * (j : Int) + 3).toNat = 4 * j + 3 := by omega
      have HN := Lib.hid (news_at wr #[.int .u32 (wordAt l j)] 23)
      have hne : u3.ownBlock ≠ some g := fun e => by have := (hown.out.lt g e).1; omega
      have hgr : g < wr.heap.size := by have := hbel.out.size; omega
      have hbs := hbel.out.size
      go_region_held3 (fun w' => w'.cell? ⟨g, o + (4 * j), none⟩ = some (.int .u8 (byteAt l (4 * j))) ∧ w'.cell? ⟨g, o + (4 * j + 1), none⟩ = some (.int .u8 (byteAt l (4 * j + 1))) ∧ w'.cell? ⟨g, o + (4 * j + 2), none⟩ = some (.int .u8 (byteAt l (4 * j + 2))) ∧ w'.cell? ⟨g, o + (4 * j + 3), none⟩ = some (.int .u8 (byteAt l (4 * j + 3))))
        (first | go_keep | (go_split_ands
                            refine ⟨?_, ?_, ?_, ?_⟩ <;> (rw [hgr2.cell_far _ (by simp; omega) (Ne.symm hne)]; assumption)))
        ((refine step_append_lies _ (by rfl) (.tmp 14) (.tmp 48) 121 (by rfl) w.heap.size 23 i0 (.int .u32 0) 1 4 Tryd.underlying121 hi hz0 hz1 hz2 (by rfl) (by decide) u3 j (wv ((List.range j).map (wordAt l))) (by rfl) (by exact hown.out.alloc _) ⟨wr.heap.size, 0, none⟩ 1 1 [.int .u32 (wordAt l j)] (by rfl) (by rfl) (by exact HN.out) (by exact wv_one [wordAt l j]) (by omega) (by unfold maxLen; omega) (by omega) (by simp; omega) (wr.heap.size + 1) (by simp) ?_; intro g1 cap w2 hown2 hgr2 hat2 hlt2))
      have HW := Lib.hid hown2
      have HG := Lib.hid hgr2
      have HE := Lib.hid (range_succ_map l j)
      clear hown2 hgr2 hat2 hlt2 q0 q1 q2 q3 s0 s1 s2 s3 p0 p1 p2 p3 r0 r1 r2 r3 b0 b1 b2 b3
      go_wp2
      go_roundw
      case rel => exact ⟨j + 1, by omega, by go_num, Lib.hid (by rw [HE.out]; exact HW.out), below_append_drew hbel.out hbs hown.out HG.out⟩
      case measure => simp [intOf]; omega
    · obtain rfl : j = 16 := by omega
      obtain ⟨wo, rfl⟩ : ∃ wo : World, wo = wr := ⟨_, rfl⟩
      have hfst : Hid (wo.ownsRow w.heap.size 23 1 u3 16 (wv (first16 l))) := hown
      obtain ⟨gg, cap, rfl, hgg, hgl⟩ := hfst.out.form (by decide)
      clear hown
      go_wp2
      go_loopw [3, 5] (fun v vi wr => WRel w l v vi wr) (fun _ vi _ => 64 - (intOf vi).toNat)
      case atStart => unfold WRel; exact ⟨16, gg, cap, Nat.le_refl _, by omega, rfl, rfl, hgg, hgl, hfst, hbel⟩
      case round =>
        clear hfst hbel hgg hgl
        unfold WRel at hrel
        obtain ⟨m, gg, cap, hm1, hm2, rfl, rfl, hgg, hgl, hown2, hbel⟩ := hrel
        have hlen : (ext (m - 16) (first16 l)).length = m := by rw [ext_length, first16_length]; omega
        by_cases hlt : m < 64
        · skip
          have c15 : wr.cell? ⟨gg, m - 15, none⟩ = some (.int .u32 ((ext (m - 16) (first16 l)).getD (m - 15) 0)) := by
            rw [hown2.out.cellAt (m - 15) (by omega), wv_get _ _ (by omega)]
          have c2 : wr.cell? ⟨gg, m - 2, none⟩ = some (.int .u32 ((ext (m - 16) (first16 l)).getD (m - 2) 0)) := by
            rw [hown2.out.cellAt (m - 2) (by omega), wv_get _ _ (by omega)]
          have c16 : wr.cell? ⟨gg, m - 16, none⟩ = some (.int .u32 ((ext (m - 16) (first16 l)).getD (m - 16) 0)) := by
            rw [hown2.out.cellAt (m - 16) (by omega), wv_get _ _ (by omega)]
          have c7 : wr.cell? ⟨gg, m - 7, none⟩ = some (.int .u32 ((ext (m - 16) (first16 l)).getD (m - 7) 0)) := by
            rw [hown2.out.cellAt (m - 7) (by omega), wv_get _ _ (by omega)]
          obtain ⟨x15, e15⟩ : ∃ x, x = (ext (m - 16) (first16 l)).getD (m - 15) 0 := ⟨_, rfl⟩
          obtain ⟨x2, e2⟩ : ∃ x, x = (ext (m - 16) (first16 l)).getD (m - 2) 0 := ⟨_, rfl⟩
          obtain ⟨x16, e16⟩ : ∃ x, x = (ext (m - 16) (first16 l)).getD (m - 16) 0 := ⟨_, rfl⟩
          obtain ⟨x7, e7⟩ : ∃ x, x = (ext (m - 16) (first16 l)).getD (m - 7) 0 := ⟨_, rfl⟩
          rw [← e15] at c15
          rw [← e2] at c2
          rw [← e16] at c16
          rw [← e7] at c7
          have HE : Hid (wv (ext (m - 16 + 1) (first16 l)) = wv (ext (m - 16) (first16 l)) ++ [.int .u32 (IntKind.u32.wrap (IntKind.u32.wrap (IntKind.u32.wrap (x16 + ssig0 x15) + x7) + ssig1 x2))]) := Lib.hid (by
            rw [wv_ext_succ, wsum, e15, e2, e16, e7]; unfold wnext; rw [hlen])
          clear e15 e2 e16 e7 hlen
          have hbs := hbel.out.size
          have z16 : (16 : Int) ≤ (m : Int) := by omega
          have z7 : (7 : Int) ≤ (m : Int) := by omega
          have z15 : (15 : Int) ≤ (m : Int) := by omega
          have z2 : (2 : Int) ≤ (m : Int) := by omega
          have q15 : IntKind.i64.wrap ((m : Int) - 15) = (m : Int) - 15 := IntWalk.i64_in _ (by omega)
          have q2 : IntKind.i64.wrap ((m : Int) - 2) = (m : Int) - 2 := IntWalk.i64_in _ (by omega)
          have q16 : IntKind.i64.wrap ((m : Int) - 16) = (m : Int) - 16 := IntWalk.i64_in _ (by omega)
          have q7 : IntKind.i64.wrap ((m : Int) - 7) = (m : Int) - 7 := IntWalk.i64_in _ (by omega)
          have p15 : 0 ≤ (m : Int) - 15 := by omega
          have r15 : (m : Int) - 15 < (m : Int) := by omega
          have p2 : 0 ≤ (m : Int) - 2 := by omega
          have r2 : (m : Int) - 2 < (m : Int) := by omega
          have p16 : 0 ≤ (m : Int) - 16 := by omega
          have r16 : (m : Int) - 16 < (m : Int) := by omega
          have p7 : 0 ≤ (m : Int) - 7 := by omega
          have r7 : (m : Int) - 7 < (m : Int) := by omega
          have t15 : ((m : Int) - 15).toNat = m - 15 := by omega
          have t2 : ((m : Int) - 2).toNat = m - 2 := by omega
          have t16 : ((m : Int) - 16).toNat = m - 16 := by omega
          have t7 : ((m : Int) - 7).toNat = m - 7 := by omega
          go_wp2_with (go_at_call 81; refine (rrotr_any _ _ _ (by decide) (by decide)).mono ?_; rintro e w' ⟨rfl, rfl⟩)
          rw [show bits .xor .u32 (bits .xor .u32 (rot x15 7) (rot x15 18)) (x15 / 8) = ssig0 x15 from rfl, show bits .xor .u32 (bits .xor .u32 (rot x2 17) (rot x2 19)) (x2 / 1024) = ssig1 x2 from rfl]
          have HN := Lib.hid (news_at wr #[.int .u32 (IntKind.u32.wrap (IntKind.u32.wrap (IntKind.u32.wrap (x16 + ssig0 x15) + x7) + ssig1 x2))] 23)
          go_region_law ((refine step_append_lies _ (by rfl) (.tmp 80) (.tmp 96) 121 (by rfl) w.heap.size 23 i0 (.int .u32 0) 1 4 Tryd.underlying121 hi hz0 hz1 hz2 (by rfl) (by decide) (.slice (some ⟨gg, 0, none⟩) m cap) m (wv (ext (m - 16) (first16 l))) (by rfl) (by exact hown2.out.alloc _) ⟨wr.heap.size, 0, none⟩ 1 1 [.int .u32 (IntKind.u32.wrap (IntKind.u32.wrap (IntKind.u32.wrap (x16 + ssig0 x15) + x7) + ssig1 x2))] (by rfl) (by rfl) (by exact HN.out) (by exact wv_one [_]) (by omega) (by unfold maxLen; omega) (by omega) (by simp; omega) (wr.heap.size + 1) (by simp) ?_; intro g1 cap1 w2 hown3 hgr2 hat2 hlt2))
          all_goals
            have HW := Lib.hid hown3
            have HG := Lib.hid hgr2
            have hgb : w.heap.size ≤ g1 := by
              rcases hat2 with h | h
              · simp [Value.ownBlock] at h; omega
              · omega
            have hlt3 := hlt2
            clear hown3 hgr2 hat2 hlt2 q15 q2 q16 q7 p15 p2 p16 p7 r15 r2 r16 r7 t15 t2 t16 t7 c15 c2 c16 c7
            go_wp2
            go_roundw
            case rel => unfold WRel; exact ⟨m + 1, g1, cap1, by omega, by omega, by go_num, rfl, hgb, hlt3, Lib.hid (by rw [show m + 1 - 16 = m - 16 + 1 by omega, HE.out]; exact HW.out), below_append_drew hbel.out hbs hown2.out HG.out⟩
            case measure => simp [intOf]; omega
        · obtain rfl : m = 64 := by omega
          have HLEN := Lib.hid hlen
          clear hlen
          go_wp2
          go_ret
          exact ⟨gg, cap, rfl, hgg, hgl, fun i hi => by rw [hown2.out.cellAt i (by omega), wv_get _ _ (by rw [HLEN.out]; exact hi)]; rfl, hbel.out⟩

end Go.Proofs.YthddiijnomhpfaaDoor
