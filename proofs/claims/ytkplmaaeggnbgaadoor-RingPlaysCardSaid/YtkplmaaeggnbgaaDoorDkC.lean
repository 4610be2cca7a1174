/- The walk of add: its contract. No condition but those that each states. -/
import Derived.Test.YtkplmaaeggnbgaaDoorDkW
namespace Go.Proofs.YtkplmaaeggnbgaaDoor.Dk
open Go.RowKit
attribute [local go_sem ↓] Go.wp_at_zero Go.wp_at_succ

theorem fold_set (k : Nat) : ∀ (c pre Z : List Value), pre.length = k → Z.length = c.length → (c.zipIdx k).foldl (fun (cs : Array Value) x => cs.setIfInBounds (0 + x.2) x.1) (pre ++ Z).toArray = (pre ++ c).toArray := by
  intro c
  induction c generalizing k with
  | nil => intro pre Z _ hZ; obtain rfl : Z = [] := List.eq_nil_of_length_eq_zero hZ; rfl
  | cons x c ih =>
    intro pre Z hp hZ
    cases Z with
    | nil => simp at hZ
    | cons z Z =>
      rw [List.zipIdx_cons, List.foldl_cons]
      have e : (pre ++ z :: Z).toArray.setIfInBounds (0 + k) x = ((pre ++ [x]) ++ Z).toArray := by
        rw [List.setIfInBounds_toArray, Nat.zero_add, List.set_append_right _ _ (by omega), hp, Nat.sub_self, List.set_cons_zero]; simp
      rw [e, ih (k + 1) (pre ++ [x]) Z (by simp [hp]) (by simpa using hZ)]
      simp

theorem run_buildSlice_one {P : Program} (t e : TypeId) (z : Value) (bytes size : Nat) (c : List Value) (W : World) (hu : P.underlying t = some (.slice e)) (hinfo : (P.info? e).map (fun i => (i.zero, i.size, i.bytes)) = some (some z, size, bytes))
    (_hz : z.cells.size = size) (hc : c.length = size) (h1 : 0 < size) (h2 : size ≤ 16777216) :
    (Instr.buildSlice t 1 #[(0, .agg c.toArray)]).run P W = .ok (.slice (some ⟨W.heap.size, 0, none⟩) 1 1) (W.alloc (.cells c.toArray e)) := by
  obtain ⟨i, hi, hz0, hs, hb⟩ := info_parts hinfo
  have hne : ¬ (16777216 < size) := by omega
  have hn0 : ¬ size = 0 := by omega
  have hfill : Instr.fill (fun i => some (i * size, size)) ((Array.range (1 * size)).map (z.cells[· % z.cells.size]!)) [(0, .agg c.toArray)] = some c.toArray := by
    have hZ : ∃ Z : List Value, (Array.range (1 * size)).map (z.cells[· % z.cells.size]!) = Z.toArray ∧ Z.length = size := ⟨((Array.range (1 * size)).map (z.cells[· % z.cells.size]!)).toList, by rw [Array.toArray_toList], by simp⟩
    obtain ⟨Z, e1, e2⟩ := hZ
    rw [e1]
    have hf := fold_set 0 c [] Z rfl (by omega)
    simp only [List.nil_append] at hf
    simp [Instr.fill, Value.cells, hc, e2]
    rw [← hf]
    simp
  simp [Instr.buildSlice, run_underlying hu, sizeOf, typeInfo, hi, hs, zeroValue, hz0, hne, hn0]
  rw [Nat.one_mul] at hfill
  rw [hfill]
  simp [newRow, go_sem]

theorem exec_buildSlice {P : Program} (t e : TypeId) (z : Value) (bytes size : Nat) (c : List Value) (W : World) (hu : P.underlying t = some (.slice e)) (hinfo : (P.info? e).map (fun i => (i.zero, i.size, i.bytes)) = some (some z, size, bytes))
    (hz : z.cells.size = size) (hc : c.length = size) (h1 : 0 < size) (h2 : size ≤ 16777216) (ρ : Operand → Value) (o : Oper) (x : Operand) (ho : o.op = .buildSlice t 1 #[(0, x)]) (hx : ρ x = .agg c.toArray) :
    (execOp ρ o).run P W = .ok (.value (.slice (some ⟨W.heap.size, 0, none⟩) 1 1)) (W.alloc (.cells c.toArray e)) := by
  have hr := run_buildSlice_one t e z bytes size c W hu hinfo hz hc h1 h2
  have hp : (#[(0, x)] : Array (Nat × Operand)).map (fun p => (p.1, ρ p.2)) = #[(0, .agg c.toArray)] := by simp [hx]
  unfold execOp
  simp only [ho, Sem.run_bind]
  show (Sem.run P (Instr.buildSlice t 1 ((#[(0, x)] : Array (Nat × Operand)).map (fun p => (p.1, ρ p.2)))) W).andThen _ = _
  rw [hp, hr]
  rfl

theorem w_info : (Tryd.prog.info? 136).map (fun i => (i.zero, i.size, i.bytes)) = some (some (.agg (wcell (0, zeroB)).toArray), 65, 72) := by kernel_rfl

theorem zero_write (W : World) : (zeroValue 136).run Tryd.prog W = .ok (.agg (Value.int .i64 0 :: bv zeroB).toArray) W := by kernel_rfl
theorem info_w : (Tryd.prog.info? 136).map (·.size) = some 65 := by kernel_rfl

theorem law_int : Maps.Keyed Tryd.prog 3 := Maps.int_keyed Tryd.underlying3
theorem key_of (i : Nat) (h : i < 2 ^ 63) : keyOf Tryd.prog 3 (.int .i64 (i : Int)) = some (key i) := Maps.keyOf_int_mk Tryd.underlying3 (by simp [Lit.wf, IntKind.min, IntKind.max, IntKind.signed, IntKind.bits]; omega)
theorem elem_of (j : Nat) (h : j < 2 ^ 63) : plainElem (H := Unit) Tryd.prog 3 (.int .i64 (j : Int)) = some (.lit (.int .i64 (j : Int)), []) := plainElem_int Tryd.underlying3 (by simp [Lit.wf, IntKind.min, IntKind.max, IntKind.signed, IntKind.bits]; omega)

/-- The last step of an add. -/
theorem add_done {w W5 W7 : World} {g gd cd gm : Nat} {vp : Value} {S : DS} {D : DataW Unit} {i : Nat} {s : Bytes} (hD : DiskIn w g gd cd gm vp S D) (hi : i < S.L.length) (hs : s.length = 64)
    (h5 : Only (fun k => k = gm) w W5) (hm : W5.ownsMap Tryd.prog 3 (plainElem Tryd.prog 3) gm (S.c + 1) (D.put (key i) (.lit (.int .i64 (S.W.length : Int)))))
    (h7 : Only (fun k => vp.ownBlock = some k) W5 W7) (g' cap : Nat) (hrow : W7.ownsRow 0 136 65 (.slice (some ⟨g', 0, none⟩) (S.W.length + 1) cap) (S.W.length + 1) (wcells S.W ++ wcell (i, s)))
    (hg : vp.ownBlock = some g' ∨ W5.heap.size ≤ g') (hlt : g' < W7.heap.size) :
    DiskAt (W7.setCell ⟨g, 3, none⟩ (.slice (some ⟨g', 0, none⟩) (S.W.length + 1) cap)) (fun k => k = g ∨ k = gd ∨ k = gm ∨ vp.ownBlock = some k ∨ w.heap.size ≤ k) g (S.put i s) ∧
    Only (fun k => k = g ∨ k = gd ∨ k = gm ∨ vp.ownBlock = some k) w (W7.setCell ⟨g, 3, none⟩ (.slice (some ⟨g', 0, none⟩) (S.W.length + 1) cap)) := by
  obtain ⟨l1, l2, l3⟩ := hD.lt
  obtain ⟨n1, n2, n3⟩ := hD.ne
  have s5 := h5.size
  have s7 := h7.size
  have nvg : vp.ownBlock ≠ some g := fun e => (hD.nep g e).2.1 rfl
  have nvd : vp.ownBlock ≠ some gd := fun e => (hD.nep gd e).2.2.1 rfl
  have nvm : vp.ownBlock ≠ some gm := fun e => (hD.nep gm e).2.2.2 rfl
  have bg : W7.heap[g]? = w.heap[g]? := (h7.block g (by omega) nvg).trans (h5.block g l1 (fun e => n2 e))
  have bd : W7.heap[gd]? = w.heap[gd]? := (h7.block gd (by omega) nvd).trans (h5.block gd l2 (fun e => n3 e))
  have bm : W7.heap[gm]? = W5.heap[gm]? := h7.block gm (by omega) nvm
  have hcg : ∀ o, W7.cell? ⟨g, o, none⟩ = w.cell? ⟨g, o, none⟩ := fun o => World.cell?_of_block (a := ⟨g, o, none⟩) bg
  have ne' : g' ≠ g ∧ g' ≠ gd ∧ g' ≠ gm := by
    rcases hg with e | e
    · have := hD.nep g' e; exact this.2
    · omega
  obtain ⟨V, hV⟩ : ∃ V, V = Value.slice (some ⟨g', 0, none⟩) (S.W.length + 1) cap := ⟨_, rfl⟩
  rw [← hV] at hrow ⊢
  have hown : V.ownBlock = some g' := by rw [hV]; rfl
  have hbs : ∀ k, k ≠ g → (W7.setCell ⟨g, 3, none⟩ V).heap[k]? = W7.heap[k]? := fun k hk => Below.heap_setCell _ _ _ _ hk
  have hco : ∀ o, o ≠ 3 → (W7.setCell ⟨g, 3, none⟩ V).cell? ⟨g, o, none⟩ = w.cell? ⟨g, o, none⟩ := fun o ho => by
    rw [World.cell?_setCell_other _ _ _ _ (by intro e; simp at e; first | done | exact ho e.symm)]; exact hcg o
  have hrm : (W7.setCell ⟨g, 3, none⟩ V).there g 0 9 := there_setCell (there_block hD.room bg) _ _
  refine ⟨⟨gd, cd, gm, V, D.put (key i) (.lit (.int .i64 (S.W.length : Int))), ⟨hrm, (hco 0 (by decide)).trans hD.self, (hco 1 (by decide)).trans hD.on, (hco 2 (by decide)).trans hD.dur, ?_, (hco 4 (by decide)).trans hD.last, (hco 5 (by decide)).trans hD.ops, fun j v hv => ?_, ?_, ?_, hD.cap, ?_, ?_, hD.mapOk.put hD.map.isMap i s, hD.ok.put hi hs, ?_, hD.ne, fun b hb => ?_⟩, .inl rfl, .inr (.inl rfl), .inr (.inr (.inl rfl)), fun b hb => ?_⟩, ?_⟩
  · exact World.cell?_setCell_same _ _ _ ((hcg 3).trans hD.pend)
  · rw [hco _ (by omega)]; exact hD.plan j v hv
  · exact rangeAt_block (rangeAt_block hD.durs bd) (hbs _ (Ne.symm n1))
  · exact there_block (there_block hD.room2 bd) (hbs _ (Ne.symm n1))
  · show (W7.setCell ⟨g, 3, none⟩ V).ownsRow 0 _ 65 V (S.W ++ [(i, s)]).length (wcells (S.W ++ [(i, s)]))
    rw [List.length_append, List.length_singleton, wcells_put]
    exact ownsRow_block hrow (fun b hb => hbs b (by rw [hown] at hb; cases hb; exact ne'.1))
  · exact ownsMap_block (ownsMap_block hm bm) (hbs _ (Ne.symm n2))
  · simp; omega
  · rw [hown] at hb; cases hb; simp; exact ⟨hlt, ne'⟩
  · rw [hown] at hb; cases hb
    rcases hg with e | e
    · exact .inr (.inr (.inr (.inl e)))
    · exact .inr (.inr (.inr (.inr (by omega))))
  · refine Only.setCell ?_ ⟨g, 3, none⟩ (.inl rfl) _
    have h57 : Only (fun k => k = gm ∨ vp.ownBlock = some k) w W7 := (h5.mono (fun _ e => .inl e)).trans h7 (fun _ _ e => .inr e)
    exact h57.mono (fun k e => e.elim (fun e => .inr (.inr (.inl e))) (fun e => .inr (.inr (.inr e))))

set_option maxHeartbeats 2000000 in
set_option maxRecDepth 100000 in
theorem add_in (g gd cd gm : Nat) (vp : Value) (S : DS) (D : DataW Unit) (i : Nat) (s : Bytes) (w : World) (hD : DiskIn w g gd cd gm vp S D) (hi : i < S.L.length) (hs : s.length = 64) (hc : S.c ≤ 2 ^ 40) :
    Calls Tryd.prog 58 #[.pointer (some ⟨g, 0, none⟩), .int .i64 (i : Int), .string (strOf s)] w fun e w' => e = .returned (.tuple #[]) ∧ DiskAt w' (fun k => k = g ∨ k = gd ∨ k = gm ∨ vp.ownBlock = some k ∨ w.heap.size ≤ k) g (S.put i s) ∧ Only (fun k => k = g ∨ k = gd ∨ k = gm ∨ vp.ownBlock = some k) w w' := by
  have HD := Lib.hid hD
  have hz := zero_write
  have hsl := slice_all (P := Tryd.prog) 134 5 64 (by kernel_rfl) (by kernel_rfl)
  have hzl : (bv zeroB).length = 64 := rfl
  have HONE : Hid ((Value.int .i64 (i : Int) :: bv zeroB).toArray.all (·.oneCell') = true) := Lib.hid (all_oneCell_toArray (wcell_one (i, zeroB)))
  generalize bv zeroB = ZB at hz HONE hzl
  have HZL := Lib.hid hzl
  have HTH : Hid ((w.alloc (.cells (Value.int .i64 0 :: ZB).toArray 136)).there w.heap.size 0 (Value.int .i64 (i : Int) :: ZB).toArray.size) := Lib.hid (by
    have h := there_new w (Value.int .i64 0 :: ZB).toArray 136
    simpa using h)
  have HINF : Hid ((Tryd.prog.info? 136).map (·.size) = some (Value.int .i64 (i : Int) :: ZB).toArray.size) := Lib.hid (by rw [info_w]; simp [hzl])
  clear hD hzl
  go_enter Tryd.func58, Tryd.ntmps58
  go_wp2_with (first | (refine wpList_store_mid rfl 136 _ _ rfl w.heap.size 0 (Value.int .i64 (i : Int) :: ZB).toArray rfl rfl HTH.out HINF.out HONE.out ?_))
  generalize hW2 : World.setCells (World.alloc w (Obj.cells (Value.int .i64 0 :: ZB).toArray 136)) w.heap.size 0 (Value.int .i64 (i : Int) :: ZB) = W2
  have hB2 : Below w.heap.size w W2 := by rw [← hW2]; exact below_setCells (Below.refl _ _) _ (Nat.le_refl _) _ _ _ ((Below.refl _ _).alloc (Nat.le_refl _) _)
  have hS2 : W2.heap.size = w.heap.size + 1 := by rw [← hW2, size_setCells]; simp
  have hR2 : W2.rangeAt w.heap.size 0 (Value.int .i64 (i : Int) :: ZB) := by rw [← hW2]; exact World.rangeAt_setCells_same _ _ _ _ (by have := HTH.out; simpa using this)
  have hT2 : W2.there w.heap.size 0 65 := by
    rw [← hW2]
    have := World.there_setCells HTH.out w.heap.size 0 (Value.int .i64 (i : Int) :: ZB)
    simpa [HZL.out] using this
  have hcp := run_copy_string (P := Tryd.prog) W2 85 9 3 5 w.heap.size 1 64 64 64 (strOf s) (by kernel_rfl) (by kernel_rfl) (by rw [strOf_size, hs]; rfl) (fun j hj => by have := hT2 (1 + j) (by omega); rwa [Nat.zero_add] at this)
  rw [hcp]
  simp only [Result.andThen]
  rw [Oper.upon_value]
  have hst : (strOf s).data.toList.take 64 = s := by rw [strOf_toList, List.take_of_length_le (by omega)]
  rw [hst]
  generalize hW3 : World.setCells W2 w.heap.size 1 (bv s) = W3
  have hB3 : Below w.heap.size w W3 := by rw [← hW3]; exact below_setCells hB2 _ (Nat.le_refl _) _ _ _ hB2
  have hS3 : W3.heap.size = w.heap.size + 1 := by rw [← hW3, size_setCells, hS2]
  have hR3 : W3.rangeAt w.heap.size 0 (wcell (i, s)) := by
    have h1 : W2.rangeAt w.heap.size 0 [Value.int .i64 (i : Int)] := rangeAt_left (xs := [Value.int .i64 (i : Int)]) (ys := ZB) hR2
    have h2 := World.rangeAt_setCells_apart h1 w.heap.size 1 (bv s) (.inr (.inl (by simp)))
    have h3 := World.rangeAt_setCells_same W2 w.heap.size 1 (bv s) (fun j hj => by
      rw [bv_length, hs] at hj
      have := hT2 (1 + j) (by omega); rwa [Nat.zero_add] at this)
    rw [hW3] at h2 h3
    exact rangeAt_add (xs := [Value.int .i64 (i : Int)]) (ys := bv s) h2 h3
  clear hcp hW3 hW2 hB2 hS2 hR2 hT2 hst hsl hz HONE HZL HTH HINF
  have HB3 := Lib.hid hB3
  have HS3 := Lib.hid hS3
  have HR3 := Lib.hid hR3
  clear hB3 hS3 hR3
  obtain ⟨pa, pc, hvp⟩ : ∃ pa pc, vp = .slice pa S.W.length pc := by
    rcases HD.out.row.2 with ⟨h, h0⟩ | ⟨g0, c0, cur, h, _⟩
    · exact ⟨none, 0, by rw [h, h0]⟩
    · exact ⟨_, _, h⟩
  obtain ⟨W4, hw4, hcell4, -, hheap4, hbel4⟩ := drawn_world W3
  have hlt := HD.out.lt
  have hc4 : W4.cell? ⟨g, 4, none⟩ = some (.map (some gm)) := (hcell4 _).trans ((HB3.out.cell (p := ⟨g, 4, none⟩) hlt.1).trans HD.out.last)
  have hc3 : W4.cell? ⟨g, 3, none⟩ = some (.slice pa S.W.length pc) := (hcell4 _).trans ((HB3.out.cell (p := ⟨g, 3, none⟩) hlt.1).trans (hvp ▸ HD.out.pend))
  have hB4 : Below w.heap.size w W4 := HB3.out.trans (hbel4.out.mono (by rw [HS3.out]; omega))
  have hmap : W4.ownsMap Tryd.prog 3 (plainElem Tryd.prog 3) gm S.c D := ownsMap_block HD.out.map (hB4.block gm hlt.2.2)
  have HMAP := Lib.hid hmap
  have hfew := HD.out.ok.few
  have hhi := HD.out.ok.hi
  have HKEY := Lib.hid (key_of i (by omega))
  have HEL := Lib.hid (elem_of S.W.length (by omega))
  have HS4 : Hid (W4.heap.size = w.heap.size + 1) := Lib.hid (by rw [hheap4.out, HS3.out])
  have HR4 : Hid (W4.rangeAt w.heap.size 0 (wcell (i, s))) := Lib.hid (fun j v hv => (hcell4 _).trans (HR3.out j v hv))
  have HB4 := Lib.hid hB4
  have HV := Lib.hid hvp
  have HC4 := Lib.hid hc4
  have HC3 := Lib.hid hc3
  clear hcell4 hheap4 hbel4 hB4 hmap hvp
  go_wp2
  refine region_still_tail 10 (by kernel_rfl) (by kernel_rfl) W4 hw4.out ?_
  simp only [List.take_succ_cons, List.take_zero, List.drop_succ_cons, List.drop_zero]
  repeat still_step
  refine wpStill_nil ?_
  clear hc4 hc3
  go_wp2_with (at_mapUpdate; refine wpList_mapUpdate_own _ rfl _ _ _ 98 rfl 3 3 law_int Tryd.underlying98 _ gm S.c D rfl HMAP.out (by unfold maxLen; omega) _ _ _ rfl rfl HKEY.out _ [] HEL.out ?_; intro W5 hown5 hgrow5)
  obtain ⟨W6, hw6, hcell6, -, hheap6, hbel6⟩ := drawn_world W5
  have hb5g : ∀ k, k < w.heap.size → k ≠ gm → W6.heap[k]? = w.heap[k]? := fun k h1 h2 => by
    rw [hheap6.out, hgrow5.block k (by rw [HS4.out]; omega) (fun e => h2 (by cases e; rfl))]; exact HB4.out.block k h1
  have hc63 : W6.cell? ⟨g, 3, none⟩ = some (.slice pa S.W.length pc) := (World.cell?_of_block (a := ⟨g, 3, none⟩) (hb5g g hlt.1 HD.out.ne.2.1)).trans (HV.out ▸ HD.out.pend)
  have HC63 := Lib.hid hc63
  have hs5 := hgrow5.size
  have hR6 : W6.rangeAt w.heap.size 0 (wcell (i, s)) := rangeAt_block HR4.out (by rw [hheap6.out]; exact hgrow5.block _ (by rw [HS4.out]; omega) (fun e => by cases e; omega))
  have HR6 := Lib.hid hR6
  have hO6 : Only (fun k => k = gm) w W6 := ((Only.of_below HB4.out).trans (Only.of_grown (F := fun k => k = gm) hgrow5 (fun k e => by cases e; rfl)) (fun _ _ h => h)).trans (Only.of_below hbel6.out) (fun _ _ h => h)
  have HO6 := Lib.hid hO6
  have hm6 : W6.ownsMap Tryd.prog 3 (plainElem Tryd.prog 3) gm (S.c + 1) (D.put (key i) (.lit (.int .i64 (S.W.length : Int)))) := ownsMap_block hown5 (by rw [hheap6.out])
  have HM6 := Lib.hid hm6
  have hw65 : (wcell (i, s)).length = 65 := by rw [wcell, List.length_cons, bv_length, hs]
  have HW65 := Lib.hid hw65
  have HI : Hid ((Tryd.prog.info? 136).map (·.size) = some (wcell (i, s)).length) := Lib.hid (by rw [hw65]; exact info_w)
  have hrow6 : W6.ownsRow 0 136 65 (.slice pa S.W.length pc) S.W.length (wcells S.W) := by
    have := ownsRow_block (w' := W6) HD.out.row (fun b hb => hb5g b (HD.out.nep b hb).1 (HD.out.nep b hb).2.2.2)
    rwa [HV.out] at this
  have HROW := Lib.hid hrow6
  have HG65 : Hid (w.heap.size + 1 ≤ W6.heap.size) := Lib.hid (by rw [hheap6.out]; have := HS4.out; omega)
  have aggS : ∀ w, (isAgg 99).run Tryd.prog w = .ok false w := fun w => by kernel_rfl
  have wone := wcell_one (i, s)
  have HONE := Lib.hid wone
  obtain ⟨i0, hi0, hz0, hz1, hz2⟩ := info_parts w_info
  have HDONE : Hid (∀ W7 g' cap, Only (fun k => vp.ownBlock = some k) W6 W7 → W7.ownsRow 0 136 65 (.slice (some ⟨g', 0, none⟩) (S.W.length + 1) cap) (S.W.length + 1) (wcells S.W ++ wcell (i, s)) → (vp.ownBlock = some g' ∨ W6.heap.size ≤ g') → g' < W7.heap.size → _ ∧ _) :=
    Lib.hid (fun W7 g' cap h7 hr hg hl => add_done HD.out hi hs hO6 hm6 h7 g' cap hr hg hl)
  generalize wcell (i, s) = WC at *
  have HNEWS : Hid (∀ j u, WC[j]? = some u → (W6.alloc (.cells WC.toArray 136)).cell? ((⟨W6.heap.size, 0, none⟩ : Addr).add j) = some u) := Lib.hid (fun j u hu => news_at W6 WC.toArray _ j u (by simpa using hu))
  have HB1 : Hid (S.W.length + 1 ≤ maxLen) := Lib.hid (by unfold maxLen; omega)
  have HB2 : Hid ((S.W.length + 1) * 72 ≤ 140737488355328) := Lib.hid (by omega)
  have HLT6 : Hid (g < W6.heap.size) := Lib.hid (by have := HG65.out; omega)
  have HF63 : Hid (W6.frozen? ⟨g, 3, none⟩ = false) := Lib.hid (by
    have := HD.out.room 3 (by decide)
    rw [Nat.zero_add] at this
    rw [World.frozen?_of_block (w := w) (w' := W6) (a := ⟨g, 3, none⟩) (hO6.block g hlt.1 HD.out.ne.2.1)]; exact this.2)
  clear hcell6 hbel6 hb5g hc63 hs5 hR6 hO6 hm6 hw65 hrow6 hgrow5 hown5 hheap6 HC3 HC4 HB4 HR4 HS4 HEL HKEY HMAP hw4 HB3 HS3 HR3 wone
  refine region_held_at (by kernel_rfl) W6 hw6.out ?_
  refine wpAnyH_take (i := 0) (v := .pointer (some ⟨g, 0, none⟩)) rfl (by kernel_rfl) (by kernel_rfl) (by kernel_rfl) (fun _ _ _ h => h) (.inl ⟨by kernel_rfl, fun _ _ => by kernel_rfl⟩) trivial ?_
  refine wpAnyH_take (i := 1) (v := .pointer (some ⟨g, 0, none⟩)) rfl (by kernel_rfl) (by kernel_rfl) (by kernel_rfl) (fun _ _ _ h => h) (.inl ⟨by kernel_rfl, fun _ _ => by kernel_rfl⟩) trivial ?_
  refine wpAnyH_take (i := 2) (v := .pointer (some ⟨g, 0, none⟩)) rfl (by kernel_rfl) (by kernel_rfl) (by kernel_rfl) (fun _ _ _ h => h) (.inl ⟨by kernel_rfl, fun _ _ => by kernel_rfl⟩) trivial ?_
  refine wpAnyH_take (i := 3) (v := .pointer (some ⟨g, 3, none⟩)) rfl (by kernel_rfl) (by kernel_rfl) (by kernel_rfl) (fun _ _ _ h => h) (.inl ⟨by kernel_rfl, fun _ _ => by kernel_rfl⟩) trivial ?_
  refine wpAnyH_all (rs := [4, 5]) (by kernel_rfl) (by decide) ?_
  intro q hq
  rcases (show q = 4 ∨ q = 5 by simpa using hq) with rfl | rfl
  all_goals clear hq
  · refine YieldsIf.wpOp (S := fun w' => w' = W6) rfl (yieldsIf_load_cell (S := fun w' => w' = W6) (by kernel_rfl) 99 (.tmp 26) (by kernel_rfl) ⟨g, 3, none⟩ (by kernel_rfl) (.slice pa S.W.length pc) (fun w' hw => by rw [hw]; exact HC63.out) aggS) rfl ⟨trivial, ?_⟩
    refine wpAnyH_all (rs := [5]) (by kernel_rfl) (by decide) ?_
    intro q hq
    obtain rfl : q = 5 := by simpa using hq
    refine YieldsIf.wpOp (S := fun w' => w' = W6) rfl (yieldsIf_load_mid (S := fun w' => w' = W6) (by kernel_rfl) 136 (.tmp 6) (by kernel_rfl) w.heap.size 0 (by kernel_rfl) WC _ (fun w' hw => by rw [hw]; exact HR6.out) Tryd.underlying136 rfl HI.out) rfl ⟨trivial, ?_⟩
    refine held_rest 6 _ (by kernel_rfl) (by kernel_rfl) ?_
    simp only [List.drop_succ_cons, List.drop_zero]
    refine wpList_run rfl (exec_buildSlice 99 136 _ 72 65 WC W6 Tryd.underlying99 w_info rfl HW65.out (by decide) (by decide) _ _ (.tmp 28) rfl (by kernel_rfl)) ?_
    refine wpList_append_lies _ rfl (.tmp 27) (.tmp 29) 99 rfl 0 136 i0 _ 65 72 Tryd.underlying99 hi0 hz0 hz1 hz2 rfl (by decide) (.slice pa S.W.length pc) S.W.length (wcells S.W) (by kernel_rfl) (HROW.out.alloc _) ⟨W6.heap.size, 0, none⟩ 1 1 WC (by kernel_rfl) (by rw [HW65.out]) HNEWS.out HONE.out (by decide) HB1.out HB2.out (Nat.zero_le _) (W6.heap.size + 1) (by simp) ?_
    intro g' cap W7 hrow hgr hgl hlt7
    have hne3 : some g ≠ (Value.slice pa S.W.length pc).ownBlock := fun e => by rw [← HV.out] at e; exact (HD.out.nep g e.symm).2.1 rfl
    have c73 : W7.cell? ⟨g, 3, none⟩ = some (.slice pa S.W.length pc) := (hgr.cell_far ⟨g, 3, none⟩ (by have := HLT6.out; simp; omega) hne3).trans ((World.cell?_of_block (a := ⟨g, 3, none⟩) (Below.heap_alloc W6 _ g HLT6.out)).trans HC63.out)
    have f73 : W7.frozen? ⟨g, 3, none⟩ = false := (hgr.frozen_far ⟨g, 3, none⟩ (by have := HLT6.out; simp; omega) hne3).trans ((World.frozen?_of_block (a := ⟨g, 3, none⟩) (Below.heap_alloc W6 _ g HLT6.out)).trans HF63.out)
    have HFIN := Lib.hid (HDONE.out W7 g' cap (by rw [HV.out]; exact ((Only.refl _ W6).alloc _).trans (Only.of_grown hgr (fun k e => e)) (fun _ _ h => h)) hrow (by rw [HV.out]; exact hgl.imp id (fun e => by omega)) hlt7)
    clear hrow hgr hgl hlt7 hne3
    simp only [Act.put, List.setIfInBounds_toArray]
    go_wp2
    refine NoPanic.normal ?_
    clear c73 f73
    go_wp2
    refine bodyPost_end (results_none rfl _ _ _) rfl ⟨rfl, HFIN.out⟩
  · refine YieldsIf.wpOp (S := fun w' => w' = W6) rfl (yieldsIf_load_mid (S := fun w' => w' = W6) (by kernel_rfl) 136 (.tmp 6) (by kernel_rfl) w.heap.size 0 (by kernel_rfl) WC _ (fun w' hw => by rw [hw]; exact HR6.out) Tryd.underlying136 rfl HI.out) rfl ⟨trivial, ?_⟩
    refine wpAnyH_all (rs := [4, 6]) (by kernel_rfl) (by decide) ?_
    intro q hq
    rcases (show q = 4 ∨ q = 6 by simpa using hq) with rfl | rfl
    all_goals clear hq
    · refine YieldsIf.wpOp (S := fun w' => w' = W6) rfl (yieldsIf_load_cell (S := fun w' => w' = W6) (by kernel_rfl) 99 (.tmp 26) (by kernel_rfl) ⟨g, 3, none⟩ (by kernel_rfl) (.slice pa S.W.length pc) (fun w' hw => by rw [hw]; exact HC63.out) aggS) rfl ⟨trivial, ?_⟩
      refine held_rest 6 _ (by kernel_rfl) (by kernel_rfl) ?_
      simp only [List.drop_succ_cons, List.drop_zero]
      refine wpList_run rfl (exec_buildSlice 99 136 _ 72 65 WC W6 Tryd.underlying99 w_info rfl HW65.out (by decide) (by decide) _ _ (.tmp 28) rfl (by kernel_rfl)) ?_
      refine wpList_append_lies _ rfl (.tmp 27) (.tmp 29) 99 rfl 0 136 i0 _ 65 72 Tryd.underlying99 hi0 hz0 hz1 hz2 rfl (by decide) (.slice pa S.W.length pc) S.W.length (wcells S.W) (by kernel_rfl) (HROW.out.alloc _) ⟨W6.heap.size, 0, none⟩ 1 1 WC (by kernel_rfl) (by rw [HW65.out]) HNEWS.out HONE.out (by decide) HB1.out HB2.out (Nat.zero_le _) (W6.heap.size + 1) (by simp) ?_
      intro g' cap W7 hrow hgr hgl hlt7
      have hne3 : some g ≠ (Value.slice pa S.W.length pc).ownBlock := fun e => by rw [← HV.out] at e; exact (HD.out.nep g e.symm).2.1 rfl
      have c73 : W7.cell? ⟨g, 3, none⟩ = some (.slice pa S.W.length pc) := (hgr.cell_far ⟨g, 3, none⟩ (by have := HLT6.out; simp; omega) hne3).trans ((World.cell?_of_block (a := ⟨g, 3, none⟩) (Below.heap_alloc W6 _ g HLT6.out)).trans HC63.out)
      have f73 : W7.frozen? ⟨g, 3, none⟩ = false := (hgr.frozen_far ⟨g, 3, none⟩ (by have := HLT6.out; simp; omega) hne3).trans ((World.frozen?_of_block (a := ⟨g, 3, none⟩) (Below.heap_alloc W6 _ g HLT6.out)).trans HF63.out)
      have HFIN := Lib.hid (HDONE.out W7 g' cap (by rw [HV.out]; exact ((Only.refl _ W6).alloc _).trans (Only.of_grown hgr (fun k e => e)) (fun _ _ h => h)) hrow (by rw [HV.out]; exact hgl.imp id (fun e => by omega)) hlt7)
      clear hrow hgr hgl hlt7 hne3
      simp only [Act.put, List.setIfInBounds_toArray]
      go_wp2
      refine NoPanic.normal ?_
      clear c73 f73
      go_wp2
      refine bodyPost_end (results_none rfl _ _ _) rfl ⟨rfl, HFIN.out⟩
    · refine wpOp_run rfl (by kernel_rfl) (exec_buildSlice 99 136 _ 72 65 WC W6 Tryd.underlying99 w_info rfl HW65.out (by decide) (by decide) _ _ (.tmp 28) rfl (by kernel_rfl)) ⟨trivial, ?_⟩
      refine wpAnyH_all (rs := [4]) (by kernel_rfl) (by decide) ?_
      intro q hq
      obtain rfl : q = 4 := by simpa using hq
      refine YieldsIf.wpOp (S := fun w' => w' = W6.alloc (.cells WC.toArray 136)) rfl (yieldsIf_load_cell (S := fun w' => w' = W6.alloc (.cells WC.toArray 136)) (by kernel_rfl) 99 (.tmp 26) (by kernel_rfl) ⟨g, 3, none⟩ (by kernel_rfl) (.slice pa S.W.length pc) (fun w' hw => by rw [hw]; exact (World.cell?_of_block (a := ⟨g, 3, none⟩) (Below.heap_alloc W6 _ g HLT6.out)).trans HC63.out) aggS) rfl ⟨trivial, ?_⟩
      refine held_rest 7 _ (by kernel_rfl) (by kernel_rfl) ?_
      simp only [List.drop_succ_cons, List.drop_zero]
      refine wpList_append_lies _ rfl (.tmp 27) (.tmp 29) 99 rfl 0 136 i0 _ 65 72 Tryd.underlying99 hi0 hz0 hz1 hz2 rfl (by decide) (.slice pa S.W.length pc) S.W.length (wcells S.W) (by kernel_rfl) (HROW.out.alloc _) ⟨W6.heap.size, 0, none⟩ 1 1 WC (by kernel_rfl) (by rw [HW65.out]) HNEWS.out HONE.out (by decide) HB1.out HB2.out (Nat.zero_le _) (W6.heap.size + 1) (by simp) ?_
      intro g' cap W7 hrow hgr hgl hlt7
      have hne3 : some g ≠ (Value.slice pa S.W.length pc).ownBlock := fun e => by rw [← HV.out] at e; exact (HD.out.nep g e.symm).2.1 rfl
      have c73 : W7.cell? ⟨g, 3, none⟩ = some (.slice pa S.W.length pc) := (hgr.cell_far ⟨g, 3, none⟩ (by have := HLT6.out; simp; omega) hne3).trans ((World.cell?_of_block (a := ⟨g, 3, none⟩) (Below.heap_alloc W6 _ g HLT6.out)).trans HC63.out)
      have f73 : W7.frozen? ⟨g, 3, none⟩ = false := (hgr.frozen_far ⟨g, 3, none⟩ (by have := HLT6.out; simp; omega) hne3).trans ((World.frozen?_of_block (a := ⟨g, 3, none⟩) (Below.heap_alloc W6 _ g HLT6.out)).trans HF63.out)
      have HFIN := Lib.hid (HDONE.out W7 g' cap (by rw [HV.out]; exact ((Only.refl _ W6).alloc _).trans (Only.of_grown hgr (fun k e => e)) (fun _ _ h => h)) hrow (by rw [HV.out]; exact hgl.imp id (fun e => by omega)) hlt7)
      clear hrow hgr hgl hlt7 hne3
      simp only [Act.put, List.setIfInBounds_toArray]
      go_wp2
      refine NoPanic.normal ?_
      clear c73 f73
      go_wp2
      refine bodyPost_end (results_none rfl _ _ _) rfl ⟨rfl, HFIN.out⟩

end Go.Proofs.YtkplmaaeggnbgaaDoor.Dk
