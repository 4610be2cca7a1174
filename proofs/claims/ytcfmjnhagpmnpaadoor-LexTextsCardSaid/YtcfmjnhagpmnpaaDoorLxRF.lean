/- The walks of chrysalisref08's unquoted and Quote: their contracts. No condition but those that each states. -/
import Derived.Test.YtcfmjnhagpmnpaaDoorLxRD
import Derived.Test.YtcfmjnhagpmnpaaDoorLxI
namespace Go.Proofs.YtcfmjnhagpmnpaaDoor.Lx
open Go.RowKit Dk

/-- A row of bytes of the call's own. -/
structure BX (w W : World) (v : Value) (pre : List UInt8) : Prop where
  row : W.ownsRow w.heap.size 5 1 v pre.length (bv pre)
  below : Below w.heap.size w W
theorem BX.grown {w W W1 W' : World} {v v' : Value} {pre pre' : List UInt8} (h : BX w W v pre) (hW : Below W.heap.size W W1) (hg : W1.grownBy W' v.ownBlock) (hrow : W'.ownsRow w.heap.size 5 1 v' pre'.length (bv pre')) : BX w W' v' pre' :=
  ⟨hrow, ((Only.of_below (F := fun b => v.ownBlock = some b) hW).trans (Only.of_grown (F := fun b => v.ownBlock = some b) hg (fun k hk => hk)) (fun _ _ h => h)).below h.below (fun b hb => (own_lo h.row b hb).1) (Nat.le_refl _)⟩
theorem BX.app1 {w W W' : World} {v v' : Value} {pre : List UInt8} {x : UInt8} {o : Obj} (h : BX w W v pre) (hrow : W'.ownsRow w.heap.size 5 1 v' (pre.length + 1) (bv pre ++ [.int .u8 (x.toNat : Int)])) (hg : (W.alloc o).grownBy W' v.ownBlock) : BX w W' v' (pre ++ [x]) :=
  h.grown ((Below.refl _ _).alloc (Nat.le_refl _) _) hg (by rw [show [Value.int .u8 (x.toNat : Int)] = bv [x] from rfl, ← bv_append] at hrow; rw [List.length_append]; exact hrow)
theorem BX.app2 {w W W' : World} {v v' : Value} {pre : List UInt8} {x y : UInt8} {o : Obj} (h : BX w W v pre) (hrow : W'.ownsRow w.heap.size 5 1 v' (pre.length + 2) (bv pre ++ [.int .u8 (x.toNat : Int), .int .u8 (y.toNat : Int)])) (hg : (W.alloc o).grownBy W' v.ownBlock) : BX w W' v' (pre ++ [x, y]) :=
  h.grown ((Below.refl _ _).alloc (Nat.le_refl _) _) hg (by rw [show [Value.int .u8 (x.toNat : Int), Value.int .u8 (y.toNat : Int)] = bv [x, y] from rfl, ← bv_append] at hrow; rw [List.length_append]; exact hrow)

/-- What is read of a text in quotes, and how many bytes it has. -/
def unqV : Option (List UInt8 × Nat) → Value
  | none => .tuple #[.string ⟨#[]⟩, .int .i64 0]
  | some q => .tuple #[.string (strOf q.1), .int .i64 ((q.2 + 1 : Nat) : Int)]

set_option maxHeartbeats 4000000 in
set_option maxRecDepth 100000 in
theorem unquoted_any (s : ByteArray) (a : Nat) (w : World) (ha : a < s.size) (hs : s.size ≤ 2 ^ 40) :
    Calls Tryd.prog 41 #[.string s, .int .i64 (a : Int)] w fun e w' => e = .returned (unqV (textL (from' s (a + 1)))) ∧ Below w.heap.size w w' := by
  obtain ⟨i0, hi0, hy0, hy1, hy2⟩ := info_parts b_info3
  have H0 : Hid (textL (from' s (a + 1)) = shift [] 0 (textL (from' s (a + 1)))) := Lib.hid (shift_nil _).symm
  obtain ⟨R, hR⟩ : ∃ R, R = unqV (textL (from' s (a + 1))) := ⟨_, rfl⟩
  rw [← hR]
  have HRR := Lib.hid hR
  clear hR
  go_enter Tryd.func41, Tryd.ntmps41
  go_wp2
  go_loopw [6, 7] (fun vb vi wr => ∃ (b : Nat) (pre : List UInt8), a < b ∧ b ≤ s.size ∧ pre.length ≤ b ∧ vi = .int .i64 (b : Int) ∧ Hid (BX w wr vb pre) ∧ Hid (textL (from' s (a + 1)) = shift pre (b - (a + 1)) (textL (from' s b)))) (fun _ vi _ => s.size - (intOf vi).toNat)
  case atStart => exact ⟨a + 1, [], by omega, by omega, by simp, by go_num, Lib.hid ⟨by simpa [bv] using World.ownsRow_nil _ _ _ _, Below.refl _ _⟩, Lib.hid (by rw [Nat.sub_self]; exact H0.out)⟩
  case round =>
    clear H0
    obtain ⟨b, pre, hab, hb, hpre, rfl, hX, hS⟩ := hrel
    have hsz := hX.out.below.size
    by_cases hlt : b < s.size
    · obtain ⟨c, r, hl, hl1⟩ := from_cons s b hlt
      have hix := fun W => byte_at (P := Tryd.prog) s b c r hl 9 Tryd.underlying9 W
      have hlt' : (b : Int) < (s.size : Int) := by omega
      have hS' := hS.out
      rw [hl] at hS'
      by_cases h34 : c.toNat = 34
      · have v1 : ((c.toNat : Int) == 34) = true := by rw [h34]; rfl
        rw [textL_end _ h34] at hS'
        have HS : Hid (textL (from' s (a + 1)) = some (pre, 1 + (b - (a + 1)))) := Lib.hid (by rw [hS']; simp [shift])
        have g := run_convert_owned (P := Tryd.prog) (src := 40) (dst := 9) Tryd.underlying40 Tryd.underlying5 Tryd.underlying9 hX.out.row
        generalize (c.toNat : Int) = x at *
        clear hS' hS h34 hl hl1
        have e1 : IntKind.i64.wrap ((b : Int) + 1) = (b : Int) + 1 := IntWalk.i64_in _ (by omega)
        have e2 : IntKind.i64.wrap ((b : Int) + 1 - (a : Int)) = (b : Int) + 1 - (a : Int) := IntWalk.i64_in _ (by omega)
        go_wp2
        go_ret2
        refine ⟨?_, hX.out.below⟩
        rw [HRR.out, HS.out]
        dsimp only [unqV]
        rw [show ((1 + (b - (a + 1)) + 1 : Nat) : Int) = (b : Int) + 1 - (a : Int) by omega]
        rfl
      · have v1 : ((c.toNat : Int) == 34) = false := by simp; omega
        by_cases h10 : c.toNat = 10
        · have v2 : ((c.toNat : Int) == 10) = true := by rw [h10]; rfl
          rw [textL_line _ h10, shift_none] at hS'
          have HS := Lib.hid hS'
          generalize (c.toNat : Int) = x at *
          clear hS' hS h34 h10 hl hl1
          go_wp2
          go_ret2
          exact ⟨by rw [HRR.out, HS.out]; rfl, hX.out.below⟩
        · have v2 : ((c.toNat : Int) == 10) = false := by simp; omega
          by_cases h92 : c.toNat = 92
          · have v3 : ((c.toNat : Int) != 92) = false := by rw [h92]; rfl
            have v4 : ((c.toNat : Int) == 92) = true := by rw [h92]; rfl
            rw [textL_esc _ h92, shift_shift, ← hl1] at hS'
            have e1 : IntKind.i64.wrap ((b : Int) + 1) = (b : Int) + 1 := IntWalk.i64_in _ (by omega)
            generalize (c.toNat : Int) = x at *
            clear h34 h10 h92 hl hl1 hS
            by_cases hlt2 : b + 1 < s.size
            · obtain ⟨d, r2, hd, hd1⟩ := from_cons s (b + 1) hlt2
              have hix2 : ∀ W : World, (Instr.index 9 (.string s) (.int .i64 ((b : Int) + 1))).run Tryd.prog W = .ok (.int .u8 (d.toNat : Int)) W := fun W => by
                have := byte_at (P := Tryd.prog) s (b + 1) d r2 hd 9 Tryd.underlying9 W
                rwa [show ((b + 1 : Nat) : Int) = (b : Int) + 1 by omega] at this
              have hlt3 : (b : Int) + 1 < (s.size : Int) := by omega
              rw [hd] at hS'
              have e2 : IntKind.i64.wrap ((b : Int) + 1 + 1) = (b : Int) + 1 + 1 := IntWalk.i64_in _ (by omega)
              by_cases hu : d.toNat = 110 ∨ d.toNat = 34 ∨ d.toNat = 92
              · obtain ⟨y, hy⟩ : ∃ y, unescN d = some y := by
                  unfold unescN
                  by_cases h1 : d.toNat = 110
                  · exact ⟨_, if_pos h1⟩
                  · rw [if_neg h1, if_pos (by omega)]; exact ⟨_, rfl⟩
                rw [show textE (d :: r2) = shift [y] 1 (textL r2) by rw [textE, hy]; rfl, shift_shift] at hS'
                have HS : Hid (textL (from' s (a + 1)) = shift (pre ++ [y]) (b + 2 - (a + 1)) (textL (from' s (b + 2)))) := Lib.hid (by
                  rw [hS', ← hd1, List.append_nil]
                  congr 1
                  omega)
                have N1 := Lib.hid (news_at wr #[.int .u8 (y.toNat : Int)] 5)
                by_cases h110 : d.toNat = 110
                · have hy10 : y = 10 := by unfold unescN at hy; rw [if_pos h110] at hy; exact (Option.some.inj hy).symm
                  subst hy10
                  have u1 : ((d.toNat : Int) == 110) = true := by rw [h110]; rfl
                  generalize (d.toNat : Int) = z at *
                  clear hS' hu hy h110 hd hd1
                  go_wp2_with (refine wpList_append_lies _ rfl (.tmp 56) (.tmp 57) 40 rfl w.heap.size 5 i0 (.int .u8 0) 1 1 Tryd.underlying40 hi0 hy0 hy1 hy2 rfl (by decide) _ pre.length (bv pre) rfl (hX.out.row.alloc _) ⟨wr.heap.size, 0, none⟩ 1 1 [.int .u8 10] rfl rfl N1.out (by simp [Value.oneCell']) (by decide) (by unfold maxLen; omega) (by omega) (by simp; omega) (wr.heap.size + 1) (by simp) ?_; intro g cap W7 hrow hgr hgl hlt7; have HX2 := Lib.hid (hX.out.app1 (x := 10) hrow hgr); clear hrow hgr hgl hlt7)
                  go_roundw
                  case rel => exact ⟨b + 2, pre ++ [10], by omega, by omega, by simp; omega, by go_num, HX2, HS⟩
                  case measure => simp [intOf]; omega
                · have hyd : y = d := by unfold unescN at hy; rw [if_neg h110, if_pos (by omega)] at hy; exact (Option.some.inj hy).symm
                  subst hyd
                  have u1 : ((y.toNat : Int) == 110) = false := by simp; omega
                  by_cases hq : y.toNat = 34
                  · have u2 : ((y.toNat : Int) == 34) = true := by rw [hq]; rfl
                    clear hS' hu hy h110 hd hd1 hq
                    go_wp2_with (refine wpList_append_lies _ rfl (.tmp 81) (.tmp 86) 40 rfl w.heap.size 5 i0 (.int .u8 0) 1 1 Tryd.underlying40 hi0 hy0 hy1 hy2 rfl (by decide) _ pre.length (bv pre) rfl (hX.out.row.alloc _) ⟨wr.heap.size, 0, none⟩ 1 1 [.int .u8 (y.toNat : Int)] rfl rfl N1.out (by simp [Value.oneCell']) (by decide) (by unfold maxLen; omega) (by omega) (by simp; omega) (wr.heap.size + 1) (by simp) ?_; intro g cap W7 hrow hgr hgl hlt7; have HX2 := Lib.hid (hX.out.app1 (x := y) hrow hgr); clear hrow hgr hgl hlt7)
                    go_roundw
                    case rel => exact ⟨b + 2, pre ++ [y], by omega, by omega, by simp; omega, by go_num, HX2, HS⟩
                    case measure => simp [intOf]; omega
                  · have u2 : ((y.toNat : Int) == 34) = false := by simp; omega
                    have u3 : ((y.toNat : Int) == 92) = true := by simp; omega
                    clear hS' hu hy h110 hd hd1 hq
                    go_wp2_with (refine wpList_append_lies _ rfl (.tmp 81) (.tmp 86) 40 rfl w.heap.size 5 i0 (.int .u8 0) 1 1 Tryd.underlying40 hi0 hy0 hy1 hy2 rfl (by decide) _ pre.length (bv pre) rfl (hX.out.row.alloc _) ⟨wr.heap.size, 0, none⟩ 1 1 [.int .u8 (y.toNat : Int)] rfl rfl N1.out (by simp [Value.oneCell']) (by decide) (by unfold maxLen; omega) (by omega) (by simp; omega) (wr.heap.size + 1) (by simp) ?_; intro g cap W7 hrow hgr hgl hlt7; have HX2 := Lib.hid (hX.out.app1 (x := y) hrow hgr); clear hrow hgr hgl hlt7)
                    go_roundw
                    case rel => exact ⟨b + 2, pre ++ [y], by omega, by omega, by simp; omega, by go_num, HX2, HS⟩
                    case measure => simp [intOf]; omega
              · have hn : unescN d = none := by unfold unescN; rw [if_neg (by omega), if_neg (by omega)]
                rw [show textE (d :: r2) = none by rw [textE, hn], shift_none] at hS'
                have HS := Lib.hid hS'
                have u1 : ((d.toNat : Int) == 110) = false := by simp; omega
                have u2 : ((d.toNat : Int) == 34) = false := by simp; omega
                have u3 : ((d.toNat : Int) == 92) = false := by simp; omega
                generalize (d.toNat : Int) = z at *
                clear hS' hu hn hd hd1
                go_wp2
                go_ret2
                exact ⟨by rw [HRR.out, HS.out]; rfl, hX.out.below⟩
            · have hlt3 : ¬(b : Int) + 1 < (s.size : Int) := by omega
              have : from' s (b + 1) = [] := List.eq_nil_of_length_eq_zero (by rw [from_length]; omega)
              rw [this, show textE [] = none from rfl, shift_none] at hS'
              have HS := Lib.hid hS'
              clear hS' this
              go_wp2
              go_ret2
              exact ⟨by rw [HRR.out, HS.out]; rfl, hX.out.below⟩
          · have v3 : ((c.toNat : Int) != 92) = true := by simp; omega
            rw [textL_other _ h34 h10 h92, shift_shift, ← hl1] at hS'
            have HS : Hid (textL (from' s (a + 1)) = shift (pre ++ [c]) (b + 1 - (a + 1)) (textL (from' s (b + 1)))) := Lib.hid (by
              rw [hS']
              congr 1
              omega)
            have N1 := Lib.hid (news_at wr #[.int .u8 (c.toNat : Int)] 5)
            clear hS' hS h34 h10 h92 hl hl1
            go_wp2_with (refine wpList_append_lies _ rfl (.tmp 37) (.tmp 41) 40 rfl w.heap.size 5 i0 (.int .u8 0) 1 1 Tryd.underlying40 hi0 hy0 hy1 hy2 rfl (by decide) _ pre.length (bv pre) rfl (hX.out.row.alloc _) ⟨wr.heap.size, 0, none⟩ 1 1 [.int .u8 (c.toNat : Int)] rfl rfl N1.out (by simp [Value.oneCell']) (by decide) (by unfold maxLen; omega) (by omega) (by simp; omega) (wr.heap.size + 1) (by simp) ?_; intro g cap W7 hrow hgr hgl hlt7; have HX2 := Lib.hid (hX.out.app1 (x := c) hrow hgr); clear hrow hgr hgl hlt7)
            go_roundw
            case rel => exact ⟨b + 1, pre ++ [c], by omega, by omega, by simp; omega, by go_num, HX2, HS⟩
            case measure => simp [intOf]; omega
    · obtain rfl : b = s.size := by omega
      have hS' := hS.out
      rw [from_end, show textL [] = none from rfl, shift_none] at hS'
      have HS := Lib.hid hS'
      have hge : ¬((s.size : Int)) < (s.size : Int) := by omega
      clear hS hS'
      go_wp2
      go_ret2
      exact ⟨by rw [HRR.out, HS.out]; rfl, hX.out.below⟩

end Go.Proofs.YtcfmjnhagpmnpaaDoor.Lx
