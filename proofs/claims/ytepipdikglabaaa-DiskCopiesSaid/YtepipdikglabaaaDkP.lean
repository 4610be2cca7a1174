/- The walks of slices.Clone of blocks and of writes, and of maps.Clone: their contracts. No condition but those that each states. -/
import Derived.Test.YtepipdikglabaaaDkK
namespace Go.Proofs.Ytepipdikglabaaa.Dk
open Go.RowKit

theorem eql_slice_nil {P : Program} (t e : TypeId) (a : Option Addr) (l c : Nat) (h : P.underlying t = some (.slice e)) (w : World) : (binOp .eql t (.slice a l c) (.slice none 0 0)).run P w = .ok (.bool a.isNone) w := by
  have h1 : ∀ d, (Op.equalIn (d + 1) t (.slice a l c) (.slice none 0 0)).run P w = .ok a.isNone w := fun d => by
    cases a <;> simp [Op.equalIn, run_underlying h]
  simp only [binOp]
  simp [show Op.equal t (.slice a l c) (.slice none 0 0) = Op.equalIn (9999 + 1) t (.slice a l c) (.slice none 0 0) from rfl, h1 9999]

theorem build_none {P : Program} (t e : TypeId) (z : Value) (size bytes : Nat) (hu : P.underlying t = some (.slice e)) (hinfo : (P.info? e).map (fun i => (i.zero, i.size, i.bytes)) = some (some z, size, bytes)) (hz : z.cells.size = size) (h0 : 0 < size) (h1 : size ≤ 16777216) (W : World) :
    (Instr.buildSlice t 0 #[]).run P W = .ok (.slice (some ⟨W.heap.size, 0, none⟩) 0 0) (W.alloc (.cells #[] e)) := by
  obtain ⟨i, hi, hz0, hs, hb⟩ := info_parts hinfo
  have hn0 : ¬ size = 0 := by omega
  have hne : ¬ (16777216 < size) := by omega
  simp [Instr.buildSlice, run_underlying hu, sizeOf, typeInfo, hi, hs, zeroValue, hz0, Instr.fill, newRow, go_sem]

theorem append_empty {P : Program} {w : World} (base : Nat) (t ty e : TypeId) (i : TypeInfo) (size : Nat) (ht : P.underlying t = some (.slice e)) (hi : P.info? e = some i)
    (v : Value) (n : Nat) (xs : List Value) (hown : w.ownsRow base e size v n xs) (a : Addr) (c : Nat) :
    (Builtin.append_ #[t, t] ty #[v, .slice (some a) 0 c]).run P w = .ok v w := by
  rcases hown.2 with ⟨rfl, rfl⟩ | ⟨g, cap, cur, rfl, _, _, hnc, _⟩
  · simp [Builtin.append_, run_underlying ht, sizeOf, typeInfo, hi, Builtin.lenOf, Builtin.firstCells, loadCells, loadCellsFrom]
  · simp [Builtin.append_, run_underlying ht, sizeOf, typeInfo, hi, Builtin.lenOf, Builtin.firstCells, hnc, storeCells, loadCells, loadCellsFrom]

theorem below_grown {B : Nat} {w w' : World} {row : Option Nat} (h : w.grownBy w' row) (hr : ∀ k, row = some k → B ≤ k) (hB : B ≤ w.heap.size) : Below B w w' :=
  ⟨h.os, h.tape, h.output, h.size, fun k hk => h.block k (by omega) (fun e => by have := hr k e.symm; omega)⟩

set_option maxHeartbeats 1000000 in
set_option maxRecDepth 100000 in
theorem clone_blocks (gd cd n : Nat) (xs : List Value) (w : World) (hn : 0 < n) (hn2 : n ≤ 512) (hl : xs.length = n * 64) (h1 : ∀ u ∈ xs, u.oneCell' = true) (hr : w.rangeAt gd 0 xs) (hg : gd < w.heap.size) :
    Calls Try.prog 40 #[.slice (some ⟨gd, 0, none⟩) n cd] w fun e w' => ∃ g cap, e = .returned (.slice (some ⟨g, 0, none⟩) n cap) ∧ Below w.heap.size w w' ∧ w.heap.size ≤ g ∧ g < w'.heap.size ∧ w'.ownsRow 0 73 64 (.slice (some ⟨g, 0, none⟩) n cap) n xs := by
  have he := fun W => eql_slice_nil (P := Try.prog) 55 _ (some ⟨gd, 0, none⟩) n cd Try.underlying55 W
  have hb := build_none 55 73 _ 64 64 Try.underlying55 blk_info rfl (by decide) (by decide)
  obtain ⟨i0, hi0, hz0, hz1, hz2⟩ := info_parts blk_info
  have HR := Lib.hid hr
  have HL := Lib.hid hl
  have H1 := Lib.hid h1
  clear hr hl h1
  have hown : (w.alloc (.cells #[] 73)).ownsRow 0 73 64 (.slice (some ⟨w.heap.size, 0, none⟩) 0 0) 0 [] := World.ownsRow_lit w #[] 0 (Nat.zero_le _) (Nat.zero_le _) rfl
  have HOWN := Lib.hid hown
  have hnews : ∀ j u, xs[j]? = some u → (w.alloc (.cells #[] 73)).cell? ((⟨gd, 0, none⟩ : Addr).add j) = some u := fun j u hu => by
    rw [Addr.add_lit]
    exact (World.cell?_of_block (a := ⟨gd, 0 + j, none⟩) (Below.heap_alloc w _ gd hg)).trans (HR.out j u hu)
  have HN := Lib.hid hnews
  clear hown hnews
  go_enter Try.func40, Try.ntmps40
  go_wp2_with (first
    | (refine wpList_append_lies _ rfl _ _ 55 rfl 0 73 i0 _ 64 64 Try.underlying55 hi0 hz0 hz1 hz2 rfl (by decide) _ 0 [] rfl HOWN.out ⟨gd, 0, none⟩ n cd xs rfl HL.out HN.out H1.out hn (by unfold maxLen; omega) (by omega) (Nat.zero_le _) (w.heap.size + 1) (by simp) ?_; intro g' cap W7 hrow hgr hgl hlt7))
  have hgr' : (w.alloc (.cells #[] 73)).grownBy W7 (some w.heap.size) := hgr
  have hgl' : some w.heap.size = some g' ∨ g' = w.heap.size + 1 := hgl
  have hbel : Below w.heap.size w W7 := ((Below.refl _ _).alloc (Nat.le_refl _) _).trans (below_grown hgr' (fun k e => by cases e; exact Nat.le_refl _) (by simp))
  have hgg : w.heap.size ≤ g' := by rcases hgl' with e | e; cases e; exact Nat.le_refl _; omega
  rw [Nat.zero_add, List.nil_append] at hrow
  have HF := Lib.hid (And.intro hbel (And.intro hgg (And.intro hlt7 hrow)))
  clear hrow hgr hgl hgr' hgl' hlt7 hbel hgg
  go_ret
  exact ⟨_, _, rfl, HF.out⟩

theorem wpList_append_empty {P : Program} {w : World} {ops : Array Oper} {rest : List Oper} {o : Oper} {a : Act} {Q : Exit → Act → World → Prop} (hgd : o.guard = none) (s x : Operand) (t : TypeId)
    (ho : o.op = .call { callee := .builtin .append, args := #[s, x], argTypes := #[t, t] })
    (base : Nat) (e : TypeId) (i : TypeInfo) (size : Nat) (ht : P.underlying t = some (.slice e)) (hi : P.info? e = some i)
    (v : Value) (n : Nat) (xs : List Value) (hs : a.eval s = v) (hown : w.ownsRow base e size v n xs) (ad : Addr) (c : Nat) (hx : a.eval x = .slice (some ad) 0 c)
    (h : wpList P ops Q rest (a.put o.dst v) w) : wpList P ops Q (o :: rest) a w := by
  refine wpList_plain hgd fun K hK => ?_
  have hrun := append_empty (P := P) (w := w) base t o.type e i size ht hi v n xs hown ad c
  unfold Oper.wp
  simp [execOp, ho, resolve, invoke, builtin, hs, hx, hrun, Result.andThen]
  exact hK _ _ h

set_option maxHeartbeats 1000000 in
set_option maxRecDepth 100000 in
theorem clone_writes (vp : Value) (n : Nat) (xs : List Value) (w : World) (hn2 : n ≤ 2 ^ 40) (h1 : ∀ u ∈ xs, u.oneCell' = true) (hr : w.ownsRow 0 76 65 vp n xs) (hlt : ∀ b, vp.ownBlock = some b → b < w.heap.size) :
    Calls Try.prog 41 #[vp] w fun e w' => ∃ vq, e = .returned vq ∧ Below w.heap.size w w' ∧ (∀ b, vq.ownBlock = some b → w.heap.size ≤ b ∧ b < w'.heap.size) ∧ w'.ownsRow 0 76 65 vq n xs := by
  have hb := build_none 56 76 _ 65 72 Try.underlying56 w_info rfl (by decide) (by decide)
  obtain ⟨i0, hi0, hz0, hz1, hz2⟩ := info_parts w_info
  have hl := hr.1
  rcases hr.2 with ⟨rfl, rfl⟩ | ⟨g0, c0, cur, rfl, _, _⟩
  · have he := fun W => eql_slice_nil (P := Try.prog) 56 _ none 0 0 Try.underlying56 W
    go_enter Try.func41, Try.ntmps41
    go_wp2
    go_ret
    exact ⟨_, rfl, Below.refl _ _, (fun b hb => by cases hb), hr⟩
  · have he := fun W => eql_slice_nil (P := Try.prog) 56 _ (some ⟨g0, 0, none⟩) n c0 Try.underlying56 W
    have hg := hlt g0 rfl
    have HOWN : Hid ((w.alloc (.cells #[] 76)).ownsRow 0 76 65 (.slice (some ⟨w.heap.size, 0, none⟩) 0 0) 0 []) := Lib.hid (World.ownsRow_lit w #[] 0 (Nat.zero_le _) (Nat.zero_le _) rfl)
    have HL := Lib.hid hl
    have H1 := Lib.hid h1
    have hrr := ownsRow_range hr
    have HN : Hid (∀ j u, xs[j]? = some u → (w.alloc (.cells #[] 76)).cell? ((⟨g0, 0, none⟩ : Addr).add j) = some u) := Lib.hid (fun j u hu => by
      rw [Addr.add_lit]
      exact (World.cell?_of_block (a := ⟨g0, 0 + j, none⟩) (Below.heap_alloc w _ g0 hg)).trans (hrr j u hu))
    clear hr hl h1 hlt hrr
    rcases Nat.eq_zero_or_pos n with rfl | hn
    · obtain rfl : xs = [] := List.eq_nil_of_length_eq_zero (by have := HL.out; omega)
      go_enter Try.func41, Try.ntmps41
      go_wp2_with (first
        | (refine wpList_append_empty rfl _ _ 56 rfl 0 76 i0 65 Try.underlying56 hi0 _ 0 [] rfl HOWN.out ⟨g0, 0, none⟩ c0 rfl ?_))
      go_ret
      exact ⟨_, rfl, (Below.refl _ _).alloc (Nat.le_refl _) _, (fun b hb => by cases hb; exact ⟨Nat.le_refl _, by simp⟩), HOWN.out⟩
    · go_enter Try.func41, Try.ntmps41
      go_wp2_with (first
        | (refine wpList_append_lies _ rfl _ _ 56 rfl 0 76 i0 _ 65 72 Try.underlying56 hi0 hz0 hz1 hz2 rfl (by decide) _ 0 [] rfl HOWN.out ⟨g0, 0, none⟩ n c0 xs rfl HL.out HN.out H1.out hn (by unfold maxLen; omega) (by omega) (Nat.zero_le _) (w.heap.size + 1) (by simp) ?_; intro g' cap W7 hrow hgr hgl hlt7))
      have hgr' : (w.alloc (.cells #[] 76)).grownBy W7 (some w.heap.size) := hgr
      have hgl' : some w.heap.size = some g' ∨ g' = w.heap.size + 1 := hgl
      have hbel : Below w.heap.size w W7 := ((Below.refl _ _).alloc (Nat.le_refl _) _).trans (below_grown hgr' (fun k e => by cases e; exact Nat.le_refl _) (by simp))
      have hgg : w.heap.size ≤ g' := by rcases hgl' with e | e; cases e; exact Nat.le_refl _; omega
      rw [Nat.zero_add, List.nil_append] at hrow
      have HF := Lib.hid (And.intro hbel (And.intro hgg (And.intro hlt7 hrow)))
      clear hrow hgr hgl hgr' hgl' hlt7 hbel hgg
      go_ret
      exact ⟨_, rfl, HF.out.1, (fun b hb => by cases hb; exact ⟨HF.out.2.1, HF.out.2.2.1⟩), HF.out.2.2.2⟩

set_option maxHeartbeats 1000000 in
set_option maxRecDepth 100000 in
theorem clone_map (gm c : Nat) (D : DataW Unit) (w : World) (h : w.ownsMap Try.prog 3 (plainElem Try.prog 3) gm c D) :
    Calls Try.prog 42 #[.map (some gm)] w fun e w' => e = .returned (.map (some w.heap.size)) ∧ Below w.heap.size w w' ∧ w.heap.size < w'.heap.size ∧ w'.ownsMap Try.prog 3 (plainElem Try.prog 3) w.heap.size c D := by
  obtain ⟨es, clock, hb, F, hs, hD⟩ := h
  have hq := fun w => run_eql_map_nil_sl (P := Try.prog) w 57 _ _ (some gm) Try.underlying57
  go_enter Try.func42, Try.ntmps42
  go_wp2
  rw [run_callFunc_extern Try.func45 (by kernel_rfl) (by kernel_rfl) (by kernel_rfl) (e := Extern.MapsClone.clone) (by kernel_rfl), run_maps_clone_sl w 57 hb]
  simp only [Result.andThen]
  rw [Oper.upon_value]
  go_wp2
  rw [run_typeAssert_map_sl _ 57 _ _ _ _ Try.underlying57]
  simp only [Result.andThen]
  rw [Oper.upon_value]
  go_wp2
  go_ret
  exact ⟨rfl, (Below.refl _ w).alloc (Nat.le_refl _) _, by simp, es, clock, (MapKept.heap_alloc w _).1, F, hs, hD⟩

end Go.Proofs.Ytepipdikglabaaa.Dk
