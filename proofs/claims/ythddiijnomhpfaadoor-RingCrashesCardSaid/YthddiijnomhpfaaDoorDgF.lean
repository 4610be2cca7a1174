/- The walk of digest.expand: its contract. No condition but those that it states. -/
import Derived.Test.YthddiijnomhpfaaDoorDgE
namespace Go.Proofs.YthddiijnomhpfaaDoor
open Go.RowKit

theorem results_cell_mid {P : Program} {fn : Func} {p : Tmp} {ty : TypeId} (h : fn.results = #[.cell p ty]) (tmps : Array Value) (w : World) (b o : Nat) (cs : List Value) (d : TypeDesc)
    (hp : tmps.getD p undef = .pointer (some ⟨b, o, none⟩)) (hc : w.rangeAt b o cs)
    (hu : P.underlying ty = some d) (hd : d.isRow = true) (hi : (P.info? ty).map (·.size) = some cs.length) :
    (results fn tmps).run P w = .ok (.agg cs.toArray) w := by
  have hp' : tmps[p]?.getD undef = .pointer (some ⟨b, o, none⟩) := by simpa using hp
  simp [results, h, hp', asAddr, run_loadVar_mid w b o ty cs d hc hu hd hi]

theorem run_slice_arr {P : Program} (w : World) (t e : TypeId) (n : Nat) (hu : P.underlying t = some (.array n e)) (hs : (P.info? e).map (·.size) = some 1) (b o l h : Nat) (L H : Int) (hL : L = l) (hH : H = h) (hlh : l < h) (hn : h ≤ n) :
    (Instr.sliceAt t (.pointer (some ⟨b, o, none⟩)) (some (.int .i64 L)) (some (.int .i64 H)) (some (.int .i64 H))).run P w = .ok (.slice (some ⟨b, o + l, none⟩) (h - l) (h - l)) w := by
  subst hL hH
  have hz : (sizeOf e).run P w = .ok 1 w := by
    cases hq : P.info? e with
    | none => simp [hq] at hs
    | some i => simp [hq] at hs; simp [sizeOf, typeInfo, hq, hs]
  have hne : ¬ h = l := by omega
  have e1 : ∀ code w', (Instr.sliceBound (.int .i64 h) n code).run P w' = .ok h w' := fun code w' =>
    (run_sliceBound w' .i64 _ _ code (by omega) (by omega)).trans (by simp)
  have e2 : ∀ code w', (Instr.sliceBound (.int .i64 h) h code).run P w' = .ok h w' := fun code w' =>
    (run_sliceBound w' .i64 _ _ code (by omega) (by omega)).trans (by simp)
  have e3 : ∀ code w', (Instr.sliceBound (.int .i64 l) h code).run P w' = .ok l w' := fun code w' =>
    (run_sliceBound w' .i64 _ _ code (by omega) (by omega)).trans (by simp)
  simp [Instr.sliceAt, Instr.sureAddr, run_underlying hu, Instr.sliceBounds, hz, hne, Addr.add_mid, e1, e2, e3]

theorem sched_eq (l : List UInt8) : ext (64 - 16) (first16 l) = sched l := rfl
attribute [local irreducible] sched

/-- The block, the result and the words under way, in three new blocks. -/
structure Ex (w wr : World) (l : List UInt8) (L : List Int) : Prop where
  blk : wr.rangeAt w.heap.size 0 (bv l)
  res : wr.there (w.heap.size + 1) 0 64
  out : wr.there (w.heap.size + 1 + 1) 0 64
  cells : wr.rangeAt (w.heap.size + 1 + 1) 0 (wv L)
  below : Below w.heap.size w wr

theorem Ex.of_heap {w wr w' : World} {l : List UInt8} {L : List Int} (h : Ex w wr l L) (hb : Below wr.heap.size wr w') (hh : w'.heap = wr.heap) : Ex w w' l L := by
  have hc : ∀ a, w'.cell? a = wr.cell? a := fun a => World.cell?_of_block (by rw [hh])
  have hf : ∀ a, w'.frozen? a = wr.frozen? a := fun a => World.frozen?_of_block (by rw [hh])
  refine ⟨fun j v hv => by rw [hc]; exact h.blk j v hv, fun j hj => by rw [hc, hf]; exact h.res j hj, fun j hj => by rw [hc, hf]; exact h.out j hj, fun j v hv => by rw [hc]; exact h.cells j v hv, ?_⟩
  exact h.below.trans ⟨hb.os, hb.tape, hb.output, hb.size, fun k hk => by rw [hh]⟩

theorem there_setCell {w : World} {b o n : Nat} (h : w.there b o n) (a : Addr) (v : Value) : (w.setCell a v).there b o n := fun j hj => by
  obtain ⟨h1, h2⟩ := h j hj
  refine ⟨?_, by simpa using h2⟩
  obtain ⟨u, hu⟩ := Option.isSome_iff_exists.1 h1
  by_cases e : a = ⟨b, o + j, none⟩
  · subst e; rw [World.cell?_setCell_same _ _ _ hu]; rfl
  · rw [World.cell?_setCell_other _ _ _ _ e, hu]; rfl

theorem Ex.put {w wr : World} {l : List UInt8} {L : List Int} (h : Ex w wr l L) (x : Int) (n : Nat) (hn : L.length = n) (h64 : n < 64) : Ex w (wr.setCell ⟨w.heap.size + 1 + 1, n, none⟩ (.int .u32 x)) l (L ++ [x]) := by
  subst hn
  refine ⟨fun j v hv => ?_, there_setCell h.res _ _, there_setCell h.out _ _, fun j v hv => ?_, h.below.setCell (by simp; omega) _⟩
  · rw [World.cell?_setCell_other _ _ _ _ (by intro e; simp at e)]; exact h.blk j v hv
  · by_cases e : j = L.length
    · subst e
      have : v = .int .u32 x := by simpa [wv] using hv.symm
      subst this
      obtain ⟨y, hy⟩ := Option.isSome_iff_exists.1 (h.out L.length h64).1
      rw [Nat.zero_add] at hy ⊢
      exact World.cell?_setCell_same _ _ _ hy
    · rw [World.cell?_setCell_other _ _ _ _ (by intro e'; simp at e'; first | done | omega)]
      refine h.cells j v ?_
      have hj : j < (wv L).length := by
        have := (List.getElem?_eq_some_iff.1 hv).1
        simp [wv] at this ⊢; omega
      rw [wv_append, List.getElem?_append_left hj] at hv
      exact hv

theorem Ex.word {w wr : World} {l : List UInt8} {L : List Int} (h : Ex w wr l L) (i : Nat) (hi : i < L.length) : wr.cell? ⟨w.heap.size + 1 + 1, i, none⟩ = some (.int .u32 (L.getD i 0)) := by
  have := h.cells i _ (wv_get L i hi)
  simpa using this

theorem Ex.byte {w wr : World} {l : List UInt8} {L : List Int} (h : Ex w wr l L) (i : Nat) (hi : i < l.length) : wr.cell? ⟨w.heap.size, i, none⟩ = some (.int .u8 (byteAt l i)) := by
  have : (bv l)[i]? = some (.int .u8 (byteAt l i)) := by simp [bv, byteAt, List.getD, hi]
  have := h.blk i _ this
  simpa using this

theorem decodeWord_ex (b o c : Nat) (x0 x1 x2 x3 : Int) (w : World)
    (h0 : w.cell? ⟨b, o, none⟩ = some (.int .u8 x0)) (h1 : w.cell? ⟨b, o + 1, none⟩ = some (.int .u8 x1))
    (h2 : w.cell? ⟨b, o + 2, none⟩ = some (.int .u8 x2)) (h3 : w.cell? ⟨b, o + 3, none⟩ = some (.int .u8 x3)) :
    Calls Tryd.prog 70 #[.slice (some ⟨b, o, none⟩) 4 c] w fun e w' => e = .returned (.int .u32 (word4 x0 x1 x2 x3)) ∧ Below w.heap.size w w' ∧ w'.heap = w.heap :=
  calls_same_of_draws (decodeWord_any b o c x0 x1 x2 x3 w h0 h1 h2 h3)

theorem ex_start (w : World) (l : List UInt8) (Z : Array Value) (hZ : Z.size = 64) (t u : TypeId) : Ex w (((w.alloc (.cells (bv l).toArray t)).alloc (.cells Z u)).alloc (.cells Z u)) l [] := by
  have h1 : ∀ (w' : World), ((w'.alloc (.cells Z u)).there w'.heap.size 0 64) := fun w' j hj => by
    rw [Nat.zero_add]
    refine ⟨?_, frozen_of_row _ _ _ Z u (heap_alloc_new w' _)⟩
    rw [cell_of_row _ _ _ Z u (0, 0) (heap_alloc_new w' _), Array.getElem?_eq_getElem (by omega)]; rfl
  refine ⟨?_, ?_, ?_, fun j v hv => by simp [wv] at hv, ?_⟩
  · refine World.rangeAt_alloc (World.rangeAt_alloc (fun j v hv => ?_) _) _
    rw [Nat.zero_add, cell_of_row _ _ _ _ t (0, 0) (heap_alloc_new w _)]
    simpa using hv
  · refine World.there_alloc ?_ _
    have := h1 (w.alloc (.cells (bv l).toArray t))
    simpa using this
  · have := h1 ((w.alloc (.cells (bv l).toArray t)).alloc (.cells Z u))
    simpa using this
  · exact (((Below.refl _ _).alloc (Nat.le_refl _) _).alloc (by simp) _).alloc (by simp; omega) _

theorem size64 : (Tryd.prog.info? 105).map (·.size) = some 64 := by kernel_rfl

set_option maxHeartbeats 1000000 in
set_option maxRecDepth 100000 in
theorem expand_any (l : List UInt8) (hl : l.length = 64) (w : World) :
    Calls Tryd.prog 61 #[.agg (bv l).toArray] w fun e w' => e = .returned (.agg (wv (sched l)).toArray) ∧ Below w.heap.size w w' := by
  go_enter Tryd.func61, Tryd.ntmps61
  go_wp2
  go_loopw [9] (fun vi wr => ∃ j : Nat, j ≤ 16 ∧ vi = .int .i64 j ∧ Hid (Ex w wr l ((List.range j).map (wordAt l)))) (fun vi _ => 16 - (intOf vi).toNat)
  case atStart => exact ⟨0, Nat.zero_le _, rfl, Lib.hid (ex_start w l _ rfl _ _)⟩
  case round =>
    obtain ⟨j, hj, rfl, hE⟩ := hrel
    by_cases hlt : j < 16
    · have b0 : wr.cell? ⟨w.heap.size, 4 * j, none⟩ = some (.int .u8 (byteAt l (4 * j))) := hE.out.byte _ (by omega)
      have b1 : wr.cell? ⟨w.heap.size, 4 * j + 1, none⟩ = some (.int .u8 (byteAt l (4 * j + 1))) := hE.out.byte _ (by omega)
      have b2 : wr.cell? ⟨w.heap.size, 4 * j + 2, none⟩ = some (.int .u8 (byteAt l (4 * j + 2))) := hE.out.byte _ (by omega)
      have b3 : wr.cell? ⟨w.heap.size, 4 * j + 3, none⟩ = some (.int .u8 (byteAt l (4 * j + 3))) := hE.out.byte _ (by omega)
      have hsl : ∀ w', (Instr.sliceAt 25 (.pointer (some ⟨w.heap.size, 0, none⟩)) (some (.int .i64 (4 * (j : Int)))) (some (.int .i64 (4 * (j : Int) + 4))) (some (.int .i64 (4 * (j : Int) + 4)))).run Tryd.prog w' = .ok (.slice (some ⟨w.heap.size, 4 * j, none⟩) 4 4) w' := fun w' => by
        have := run_slice_arr (P := Tryd.prog) w' 25 5 64 (by kernel_rfl) (by kernel_rfl) w.heap.size 0 (4 * j) (4 * j + 4) (4 * (j : Int)) (4 * (j : Int) + 4) (by omega) (by omega) (by omega) (by omega)
        rw [this]; simp
      go_wp2_with fail
      refine (decodeWord_ex _ _ _ _ _ _ _ _ b0 b1 b2 b3).mono ?_
      rintro e w2 ⟨rfl, hb2, hh2⟩
      have hE2 := Lib.hid (hE.out.of_heap hb2 hh2)
      obtain ⟨v0, hv0⟩ := Option.isSome_iff_exists.1 (hE2.out.out j (by omega)).1
      have hf0 := (hE2.out.out j (by omega)).2
      rw [Nat.zero_add] at hv0 hf0
      have r0 : (0 : Int) ≤ (j : Int) := by omega
      have r1 : (j : Int) < 64 := by omega
      clear hb2 hh2 b0 b1 b2 b3 hsl
      have HE := Lib.hid (show (List.range (j + 1)).map (wordAt l) = (List.range j).map (wordAt l) ++ [wordAt l j] by simp [List.range_succ])
      go_wp2
      go_roundw
      case rel => exact ⟨j + 1, by omega, by go_num, Lib.hid (by rw [HE.out]; exact hE2.out.put (wordAt l j) j (by simp) (by omega))⟩
      case measure => simp [intOf]; omega
    · obtain rfl : j = 16 := by omega
      obtain ⟨wo, rfl⟩ : ∃ wo : World, wo = wr := ⟨_, rfl⟩
      have hF : Hid (Ex w wo l (ext 0 (first16 l))) := hE
      clear hE hlt
      go_wp2
      go_loopw [6] (fun vi wr => ∃ m : Nat, 16 ≤ m ∧ m ≤ 64 ∧ vi = .int .i64 m ∧ Hid (Ex w wr l (ext (m - 16) (first16 l)))) (fun vi _ => 64 - (intOf vi).toNat)
      case atStart => exact ⟨16, Nat.le_refl _, by omega, rfl, hF⟩
      case round =>
        clear hF
        obtain ⟨m, hm1, hm2, rfl, hE⟩ := hrel
        have hlen : (ext (m - 16) (first16 l)).length = m := by rw [ext_length, first16_length]; omega
        by_cases hlt : m < 64
        · have c15 := hE.out.word (m - 15) (by omega)
          have c2 := hE.out.word (m - 2) (by omega)
          have c16 := hE.out.word (m - 16) (by omega)
          have c7 := hE.out.word (m - 7) (by omega)
          obtain ⟨x15, e15⟩ : ∃ x, x = (ext (m - 16) (first16 l)).getD (m - 15) 0 := ⟨_, rfl⟩
          obtain ⟨x2, e2⟩ : ∃ x, x = (ext (m - 16) (first16 l)).getD (m - 2) 0 := ⟨_, rfl⟩
          obtain ⟨x16, e16⟩ : ∃ x, x = (ext (m - 16) (first16 l)).getD (m - 16) 0 := ⟨_, rfl⟩
          obtain ⟨x7, e7⟩ : ∃ x, x = (ext (m - 16) (first16 l)).getD (m - 7) 0 := ⟨_, rfl⟩
          rw [← e15] at c15
          rw [← e2] at c2
          rw [← e16] at c16
          rw [← e7] at c7
          have HE : Hid (ext (m - 16 + 1) (first16 l) = ext (m - 16) (first16 l) ++ [(x16 + ssig0 x15 + x7 + ssig1 x2) % 4294967296]) := Lib.hid (by
            rw [e15, e2, e16, e7, ext, wadd]; unfold wnext; rw [hlen])
          have HL := Lib.hid hlen
          clear e15 e2 e16 e7 hlen
          have z16 : (16 : Int) ≤ (m : Int) := by omega
          have z7 : (7 : Int) ≤ (m : Int) := by omega
          have z15 : (15 : Int) ≤ (m : Int) := by omega
          have z2 : (2 : Int) ≤ (m : Int) := by omega
          have q15 : IntKind.i64.wrap ((m : Int) - 15) = (m : Int) - 15 := IntWalk.i64_in _ (by omega)
          have q2 : IntKind.i64.wrap ((m : Int) - 2) = (m : Int) - 2 := IntWalk.i64_in _ (by omega)
          have q16 : IntKind.i64.wrap ((m : Int) - 16) = (m : Int) - 16 := IntWalk.i64_in _ (by omega)
          have q7 : IntKind.i64.wrap ((m : Int) - 7) = (m : Int) - 7 := IntWalk.i64_in _ (by omega)
          have p15 : 0 ≤ (m : Int) - 15 := by omega
          have r15 : (m : Int) - 15 < 64 := by omega
          have p2 : 0 ≤ (m : Int) - 2 := by omega
          have r2 : (m : Int) - 2 < 64 := by omega
          have p16 : 0 ≤ (m : Int) - 16 := by omega
          have r16 : (m : Int) - 16 < 64 := by omega
          have p7 : 0 ≤ (m : Int) - 7 := by omega
          have r7 : (m : Int) - 7 < 64 := by omega
          have t15 : ((m : Int) - 15).toNat = m - 15 := by omega
          have t2 : ((m : Int) - 2).toNat = m - 2 := by omega
          have t16 : ((m : Int) - 16).toNat = m - 16 := by omega
          have t7 : ((m : Int) - 7).toNat = m - 7 := by omega
          go_wp2
          go_quiet ((go_at_call 62; exact Calls.quiet_of_same (rotr_q _ _ _ (by decide) (by decide))))
          revert nq
          intro n1
          go_wp2
          go_quiet ((go_at_call 62; exact quiet_add_same (rotr_q _ _ _ (by decide) (by decide))))
          go_wp2
          rw [show bits .xor .u32 (bits .xor .u32 (rot x15 7) (rot x15 18)) (x15 / 8) = ssig0 x15 from rfl, show bits .xor .u32 (bits .xor .u32 (rot x2 17) (rot x2 19)) (x2 / 1024) = ssig1 x2 from rfl]
          obtain ⟨w1, hw, hcell, hfr, hheap, hbel⟩ := drawn_world ((wr.drewN n1).drewN nq)
          have d16 := (hcell ⟨w.heap.size + 1 + 1, m - 16, none⟩).trans c16
          have d7 := (hcell ⟨w.heap.size + 1 + 1, m - 7, none⟩).trans c7
          have hE2 : Hid (Ex w w1 l (ext (m - 16) (first16 l))) := Lib.hid (hE.out.of_heap ((below_drewN (below_drewN (Below.refl _ _) n1) nq).trans hbel.out) hheap.out)
          obtain ⟨v0, hv0⟩ := Option.isSome_iff_exists.1 (hE2.out.out m hlt).1
          have hf0 := (hE2.out.out m hlt).2
          rw [Nat.zero_add] at hv0 hf0
          have r0 : (m : Int) < 64 := by omega
          clear hcell hfr c16 c7 c15 c2 hE
          refine region_still_tail 15 (by kernel_rfl) (by kernel_rfl) w1 hw.out ?_
          simp only [List.take_succ_cons, List.take_zero, List.drop_succ_cons, List.drop_zero]
          repeat still_step
          refine wpStill_nil ?_
          clear q15 q2 q16 q7 p15 p2 p16 p7 r15 r2 r16 r7 t15 t2 t16 t7
          go_wp2
          go_roundw
          case rel =>
            have HR : Hid (Ex w (w1.setCell ⟨w.heap.size + 1 + 1, m, none⟩ (.int .u32 ((x16 + ssig0 x15 + x7 + ssig1 x2) % 4294967296))) l (ext (m + 1 - 16) (first16 l))) := Lib.hid (by rw [show m + 1 - 16 = m - 16 + 1 by omega, HE.out]; exact hE2.out.put _ m HL.out hlt)
            first
            | exact ⟨m + 1, by omega, by omega, by go_num, HR⟩
            | ((repeat apply Exists.intro); exact ⟨⟨m + 1, by omega, by omega, by go_num, HR⟩, rfl⟩)
          case measure => simp [intOf]; omega
        · obtain rfl : m = 64 := by omega
          have HL := Lib.hid hlen
          clear hlen
          have hE0 := hE.out
          rw [sched_eq] at hE0
          have hl0 := HL.out
          rw [sched_eq] at hl0
          have hwl : (wv (sched l)).length = 64 := by simp [wv, hl0]
          have hcells : wr.rangeAt (w.heap.size + 1 + 1) 0 (wv (sched l)) := hE0.cells
          have HC := Lib.hid hcells
          have HT : Hid (wr.there (w.heap.size + 1) 0 (wv (sched l)).toArray.size) := Lib.hid (by simp only [List.size_toArray]; rw [hwl]; exact hE.out.res)
          have HONE : Hid ((wv (sched l)).toArray.all (·.oneCell') = true) := Lib.hid (all_oneCell_toArray (wv_one _))
          have HI1 : Hid ((Tryd.prog.info? 105).map (·.size) = some (wv (sched l)).length) := Lib.hid (by rw [hwl]; exact size64)
          have HI2 : Hid ((Tryd.prog.info? 105).map (·.size) = some (wv (sched l)).toArray.size) := Lib.hid (by rw [List.size_toArray, hwl]; exact size64)
          have HB : Hid (Below w.heap.size w wr) := Lib.hid hE0.below
          clear hwl hcells hE0 hl0
          go_wp2_with (first
            | (refine wpList_load_mid rfl 105 _ rfl (w.heap.size + 1 + 1) 0 rfl (wv (sched l)) _ HC.out Tryd.underlying105 rfl HI1.out ?_)
            | (refine wpList_store_mid rfl 105 _ _ rfl (w.heap.size + 1) 0 (wv (sched l)).toArray rfl rfl HT.out HI2.out HONE.out ?_))
          have hR : (wr.setCells (w.heap.size + 1) 0 (wv (sched l))).rangeAt (w.heap.size + 1) 0 (wv (sched l)) := World.rangeAt_setCells_same _ _ _ _ (by have h := HT.out; rw [List.size_toArray] at h; exact h)
          refine bodyPost_ret (v := .agg (wv (sched l)).toArray) ?_ rfl ⟨rfl, ?_⟩
          · refine results_cell_mid (ty := 105) (p := 2) (b := w.heap.size + 1) (o := 0) (cs := wv (sched l)) (d := .array 64 23) Tryd.results61 _ _ ?_ hR Tryd.underlying105 rfl HI1.out
            rfl
          exact below_setCells HB.out _ (by omega) _ _ _ HB.out

end Go.Proofs.YthddiijnomhpfaaDoor
