/- The walks of slices.Clone of blocks and of writes, and of maps.Clone: their contracts. No condition but those that each states. -/
import Derived.Test.YtmnbkopfmhdijaaDkM
namespace Go.Proofs.Ytmnbkopfmhdijaa.Dk
open Go.RowKit

set_option maxHeartbeats 1000000 in
set_option maxRecDepth 100000 in
theorem clone_blocks (gd cd n : Nat) (xs : List Value) (w : World) (hn : 0 < n) (hn2 : n ≤ 512) (hl : xs.length = n * 64) (h1 : ∀ u ∈ xs, u.oneCell' = true) (hr : w.rangeAt gd 0 xs) (hg : gd < w.heap.size) :
    Calls Try.prog 38 #[.slice (some ⟨gd, 0, none⟩) n cd] w fun e w' => ∃ g cap, e = .returned (.slice (some ⟨g, 0, none⟩) n cap) ∧ Below w.heap.size w w' ∧ w.heap.size ≤ g ∧ g < w'.heap.size ∧ w'.ownsRow 0 69 64 (.slice (some ⟨g, 0, none⟩) n cap) n xs := by
  have he := fun W => eql_slice_nil (P := Try.prog) 52 _ (some ⟨gd, 0, none⟩) n cd Try.underlying52 W
  have hb := build_none 52 69 _ 64 64 Try.underlying52 blk_info rfl (by decide) (by decide)
  obtain ⟨i0, hi0, hz0, hz1, hz2⟩ := info_parts blk_info
  have HR := Lib.hid hr
  have HL := Lib.hid hl
  have H1 := Lib.hid h1
  clear hr hl h1
  have hown : (w.alloc (.cells #[] 69)).ownsRow 0 69 64 (.slice (some ⟨w.heap.size, 0, none⟩) 0 0) 0 [] := World.ownsRow_lit w #[] 0 (Nat.zero_le _) (Nat.zero_le _) rfl
  have HOWN := Lib.hid hown
  have hnews : ∀ j u, xs[j]? = some u → (w.alloc (.cells #[] 69)).cell? ((⟨gd, 0, none⟩ : Addr).add j) = some u := fun j u hu => by
    rw [Addr.add_lit]
    exact (World.cell?_of_block (a := ⟨gd, 0 + j, none⟩) (Below.heap_alloc w _ gd hg)).trans (HR.out j u hu)
  have HN := Lib.hid hnews
  clear hown hnews
  go_enter Try.func38, Try.ntmps38
  go_wp2_with (first
    | (refine wpList_append_lies _ rfl _ _ 52 rfl 0 69 i0 _ 64 64 Try.underlying52 hi0 hz0 hz1 hz2 rfl (by decide) _ 0 [] rfl HOWN.out ⟨gd, 0, none⟩ n cd xs rfl HL.out HN.out H1.out hn (by unfold maxLen; omega) (by omega) (Nat.zero_le _) (w.heap.size + 1) (by simp) ?_; intro g' cap W7 hrow hgr hgl hlt7))
  have hgr' : (w.alloc (.cells #[] 69)).grownBy W7 (some w.heap.size) := hgr
  have hgl' : some w.heap.size = some g' ∨ g' = w.heap.size + 1 := hgl
  have hbel : Below w.heap.size w W7 := ((Below.refl _ _).alloc (Nat.le_refl _) _).trans (below_grown hgr' (fun k e => by cases e; exact Nat.le_refl _) (by simp))
  have hgg : w.heap.size ≤ g' := by rcases hgl' with e | e; cases e; exact Nat.le_refl _; omega
  rw [Nat.zero_add, List.nil_append] at hrow
  have HF := Lib.hid (And.intro hbel (And.intro hgg (And.intro hlt7 hrow)))
  clear hrow hgr hgl hgr' hgl' hlt7 hbel hgg
  go_ret
  exact ⟨_, _, rfl, HF.out⟩

set_option maxHeartbeats 1000000 in
set_option maxRecDepth 100000 in
theorem clone_writes (vp : Value) (n : Nat) (xs : List Value) (w : World) (hn2 : n ≤ 2 ^ 40) (h1 : ∀ u ∈ xs, u.oneCell' = true) (hr : w.ownsRow 0 72 65 vp n xs) (hlt : ∀ b, vp.ownBlock = some b → b < w.heap.size) :
    Calls Try.prog 39 #[vp] w fun e w' => ∃ vq, e = .returned vq ∧ Below w.heap.size w w' ∧ (∀ b, vq.ownBlock = some b → w.heap.size ≤ b ∧ b < w'.heap.size) ∧ w'.ownsRow 0 72 65 vq n xs := by
  have hb := build_none 53 72 _ 65 72 Try.underlying53 w_info rfl (by decide) (by decide)
  obtain ⟨i0, hi0, hz0, hz1, hz2⟩ := info_parts w_info
  have hl := hr.1
  rcases hr.2 with ⟨rfl, rfl⟩ | ⟨g0, c0, cur, rfl, _, _⟩
  · have he := fun W => eql_slice_nil (P := Try.prog) 53 _ none 0 0 Try.underlying53 W
    go_enter Try.func39, Try.ntmps39
    go_wp2
    go_ret
    exact ⟨_, rfl, Below.refl _ _, (fun b hb => by cases hb), hr⟩
  · have he := fun W => eql_slice_nil (P := Try.prog) 53 _ (some ⟨g0, 0, none⟩) n c0 Try.underlying53 W
    have hg := hlt g0 rfl
    have HOWN : Hid ((w.alloc (.cells #[] 72)).ownsRow 0 72 65 (.slice (some ⟨w.heap.size, 0, none⟩) 0 0) 0 []) := Lib.hid (World.ownsRow_lit w #[] 0 (Nat.zero_le _) (Nat.zero_le _) rfl)
    have HL := Lib.hid hl
    have H1 := Lib.hid h1
    have hrr := ownsRow_range hr
    have HN : Hid (∀ j u, xs[j]? = some u → (w.alloc (.cells #[] 72)).cell? ((⟨g0, 0, none⟩ : Addr).add j) = some u) := Lib.hid (fun j u hu => by
      rw [Addr.add_lit]
      exact (World.cell?_of_block (a := ⟨g0, 0 + j, none⟩) (Below.heap_alloc w _ g0 hg)).trans (hrr j u hu))
    clear hr hl h1 hlt hrr
    rcases Nat.eq_zero_or_pos n with rfl | hn
    · obtain rfl : xs = [] := List.eq_nil_of_length_eq_zero (by have := HL.out; omega)
      go_enter Try.func39, Try.ntmps39
      go_wp2_with (first
        | (refine wpList_append_empty rfl _ _ 53 rfl 0 72 i0 65 Try.underlying53 hi0 _ 0 [] rfl HOWN.out ⟨g0, 0, none⟩ c0 rfl ?_))
      go_ret
      exact ⟨_, rfl, (Below.refl _ _).alloc (Nat.le_refl _) _, (fun b hb => by cases hb; exact ⟨Nat.le_refl _, by simp⟩), HOWN.out⟩
    · go_enter Try.func39, Try.ntmps39
      go_wp2_with (first
        | (refine wpList_append_lies _ rfl _ _ 53 rfl 0 72 i0 _ 65 72 Try.underlying53 hi0 hz0 hz1 hz2 rfl (by decide) _ 0 [] rfl HOWN.out ⟨g0, 0, none⟩ n c0 xs rfl HL.out HN.out H1.out hn (by unfold maxLen; omega) (by omega) (Nat.zero_le _) (w.heap.size + 1) (by simp) ?_; intro g' cap W7 hrow hgr hgl hlt7))
      have hgr' : (w.alloc (.cells #[] 72)).grownBy W7 (some w.heap.size) := hgr
      have hgl' : some w.heap.size = some g' ∨ g' = w.heap.size + 1 := hgl
      have hbel : Below w.heap.size w W7 := ((Below.refl _ _).alloc (Nat.le_refl _) _).trans (below_grown hgr' (fun k e => by cases e; exact Nat.le_refl _) (by simp))
      have hgg : w.heap.size ≤ g' := by rcases hgl' with e | e; cases e; exact Nat.le_refl _; omega
      rw [Nat.zero_add, List.nil_append] at hrow
      have HF := Lib.hid (And.intro hbel (And.intro hgg (And.intro hlt7 hrow)))
      clear hrow hgr hgl hgr' hgl' hlt7 hbel hgg
      go_ret
      exact ⟨_, rfl, HF.out.1, (fun b hb => by cases hb; exact ⟨HF.out.2.1, HF.out.2.2.1⟩), HF.out.2.2.2⟩

set_option maxHeartbeats 1000000 in
set_option maxRecDepth 100000 in
theorem clone_map (gm c : Nat) (D : DataW Unit) (w : World) (h : w.ownsMap Try.prog 3 (plainElem Try.prog 3) gm c D) :
    Calls Try.prog 40 #[.map (some gm)] w fun e w' => e = .returned (.map (some w.heap.size)) ∧ Below w.heap.size w w' ∧ w.heap.size < w'.heap.size ∧ w'.ownsMap Try.prog 3 (plainElem Try.prog 3) w.heap.size c D := by
  obtain ⟨es, clock, hb, F, hs, hD⟩ := h
  have hq := fun w => run_eql_map_nil_sl (P := Try.prog) w 54 _ _ (some gm) Try.underlying54
  go_enter Try.func40, Try.ntmps40
  go_wp2
  rw [run_callFunc_extern Try.func43 (by kernel_rfl) (by kernel_rfl) (by kernel_rfl) (e := Extern.MapsClone.clone) (by kernel_rfl), run_maps_clone_sl w 54 hb]
  simp only [Result.andThen]
  rw [Oper.upon_value]
  go_wp2
  rw [run_typeAssert_map_sl _ 54 _ _ _ _ Try.underlying54]
  simp only [Result.andThen]
  rw [Oper.upon_value]
  go_wp2
  go_ret
  exact ⟨rfl, (Below.refl _ w).alloc (Nat.le_refl _) _, by simp, es, clock, (MapKept.heap_alloc w _).1, F, hs, hD⟩

end Go.Proofs.Ytmnbkopfmhdijaa.Dk
