/- The walk of RingCrashes: it returns true (printed by gen_rgcw.py). No condition but those that each states. -/
import Derived.Test.YthddiijnomhpfaaDoorRgCH
namespace Go.Proofs.YthddiijnomhpfaaDoor.Rg
open Go.RowKit Dk

set_option maxHeartbeats 40000000 in
set_option maxRecDepth 100000 in
theorem crashes_law (pa : Option Addr) (len cap : Nat) (hl : len ≤ maxLen) (w : World) (HK : HasK w) (hc : ∀ j, j < len → ∃ (b off : Nat) (o : OpC), pa = some ⟨b, off, none⟩ ∧ b < w.heap.size ∧ o.Ok ∧ w.rangeAt b (off + j * 9) o.cells) :
    Calls Tryd.prog 5 #[.slice pa len cap] w fun e w' => e = .returned (.bool true) ∧ Below w.heap.size w w' := by
  unfold maxLen at hl
  have HC := Lib.hid hc
  have HHK := Lib.hid HK
  clear hc HK
  go_enter Tryd.func5, Tryd.ntmps5
  go_wp2_with fail
  refine (new_dk 16 (by decide) (by decide) w).mono ?_
  rintro e w1 ⟨rfl, hb⟩
  have H1 := Lib.hid (solo_new hb)
  clear hb
  have HW0 : Hid (CrW w (w1.alloc (.cells Ent.zero.cells.toArray 47)) w1.heap.size (w.heap.size + 2) (new 16)) := Lib.hid (by
    refine ⟨(H1.out.fresh (D := fun k => k = w1.heap.size) ((Below.refl _ _).alloc (Nat.le_refl _) _) (fun k hk => ⟨Nat.le_of_eq hk.symm, by subst hk; simp⟩)).less (fun k hk => .inr hk), ?_⟩
    rw [new_last 16 (by decide)]
    exact eb_new w1 Ent.zero _)
  replace HW0 : Hid (CrW w (w1.alloc (.cells #[.int .i64 0, .int .i64 0, .int .i64 0, .int .i64 0, .string ⟨#[]⟩] 47)) w1.heap.size (w.heap.size + 2) (new 16)) := HW0
  go_wp2
  have hAw : w.heap.size ≤ w1.heap.size := H1.out.below.size
  generalize w1.heap.size = A at HW0 hAw ⊢
  go_loopw [6, 7] (fun vh vi wr => ∃ (i : Nat) (S : DS), i ≤ 40 ∧ vh = .bool (lastE S).isSome ∧ vi = .int .i64 i ∧ CrOk i S ∧ Hid (CrW w wr A (w.heap.size + 2) S)) (fun _ vi _ => 40 - (intOf vi).toNat)
  case atStart => exact ⟨0, new 16, Nat.zero_le _, by rw [new_last 16 (by decide)]; rfl, rfl, crOk_new, HW0⟩
  case round =>
    clear HW0 H1
    obtain ⟨i, S, hi, rfl, rfl, hO, hI⟩ := hrel
    have z0 : (0 : Int) ≤ (i : Int) := by omega
    by_cases hgo : i < len ∧ i < 40
    · obtain ⟨hlen, h40⟩ := hgo
      have z1 : (i : Int) < (len : Int) := by omega
      have z2 : (i : Int) < 40 := by omega
      obtain ⟨b, off, o, rfl, hb, ho, hr⟩ := HC.out i hlen
      have HRO : Hid (wr.rangeAt b (off + i * 9) o.cells) := Lib.hid (rangeAt_block hr (hI.out.solo.below.block b hb))
      have HOI := Lib.hid (oc_info o)
      have HPUT := Lib.hid (ob_put wr o)
      have HROOM := Lib.hid (ob_room wr)
      have hA := hI.out.last.lt
      have hw0 := hI.out.solo.below.size
      clear hr hb
      generalize hx : (lastE S).isSome = has
      go_wp2_with (first
        | (refine wpList_load_mid rfl 46 _ rfl b (off + i * 9) rfl o.cells _ HRO.out Tryd.underlying46 rfl HOI.out ?_)
        | (refine wpList_store_mid rfl 46 (.tmp 8) (.tmp 44) rfl wr.heap.size 0 o.cells.toArray rfl rfl HROOM.out (oc_infoA o) (oc_all o) ?_; generalize World.setCells _ _ _ _ = W2 at HPUT ⊢))
      have HX0 : Hid (CrX w W2 wr.heap.size A (w.heap.size + 2) S ((lastE S).getD Ent.zero) o) := Lib.hid (by
        have hs := HPUT.out.2
        refine ⟨(hI.out.solo.fresh (D := fun i => wr.heap.size ≤ i ∧ i < W2.heap.size) hs (fun i hi => hi)), hI.out.last.later hs, HPUT.out.1, ⟨hA, hw0⟩⟩)
      have hxn : ((lastE S).getD Ent.zero).number = lastN S := rfl
      have hlN := hO.last
      obtain ⟨bN, _⟩ := lastN_ok S
      generalize hX : (lastE S).getD Ent.zero = x at HX0 hxn
      have hX6 := HX0.out.op.c6
      have hX1 : W2.cell? ⟨A, 1, none⟩ = some (.int .i64 x.number) := HX0.out.last.cell1
      have b3 := cnt_lt o.i 3 (by decide)
      have b2 := cnt_lt o.i 2 (by decide)
      have CC3 : Hid (∀ W, Calls Tryd.prog 32 #[.int .i64 o.i, .int .i64 3] W fun e w' => e = .returned (.int .i64 (cnt o.i 3)) ∧ W = w') := Lib.hid (fun W => count_any o.i 3 W ho.i (by decide) (by decide))
      have CC2 : Hid (∀ W, Calls Tryd.prog 32 #[.int .i64 o.i, .int .i64 2] W fun e w' => e = .returned (.int .i64 (cnt o.i 2)) ∧ W = w') := Lib.hid (fun W => count_any o.i 2 W ho.i (by decide) (by decide))
      have HVAL := Lib.hid (wantE_valid (i := i) (n := x.number + 1) b3 b2 (by omega) (by omega))
      have CSM : Hid (∀ W, Calls Tryd.prog 33 #[.int .u8 (IntKind.u8.wrap (i : Int))] W fun e w' => e = .returned (.string (strOf (sumB (UInt8.ofNat i)))) ∧ Below W.heap.size W w') := Lib.hid (fun W => by
        have := sum_any (UInt8.ofNat i) W
        rwa [show (((UInt8.ofNat i).toNat : Nat) : Int) = IntKind.u8.wrap (i : Int) by rw [UInt8.toNat_ofNat', IntWalk.u8_in _ (by omega)]; omega] at this)
      have HEC : Hid (wantE (cnt o.i 3) (cnt o.i 2) (x.number + 1) i = ⟨1 + cnt o.i 3, x.number + 1, cnt o.i 2, i, sumB (UInt8.ofNat i)⟩) := Lib.hid rfl
      generalize hE : wantE (cnt o.i 3) (cnt o.i 2) (x.number + 1) i = E at HEC HVAL
      have HEE : Hid (Value.agg #[.int .i64 (1 + cnt o.i 3), .int .i64 (x.number + 1), .int .i64 (cnt o.i 2), .int .i64 (i : Int), .string (strOf (sumB (UInt8.ofNat i)))] = .agg E.cells.toArray) := Lib.hid (by rw [HEC.out]; rfl)
      have HNUM : Hid (E.number = x.number + 1) := Lib.hid (by rw [HEC.out])
      clear HEC hE
      have HEC := HEE
      clear HEE
      generalize cnt o.i 3 = c3 at *
      generalize cnt o.i 2 = c2 at *
      generalize strOf (sumB (UInt8.ofNat i)) = ss at *
      have y1 : IntKind.i64.wrap (x.number + 1) = x.number + 1 := IntWalk.i64_in _ (by omega)
      have y2 : IntKind.i64.wrap (1 + c3) = 1 + c3 := IntWalk.i64_in _ (by omega)
      have y3 : (0 : Int) ≤ x.number := by omega
      have y4 : x.number ≤ 40 := by omega
      have b3a := b3.1
      have b3b : c3 < 3 := b3.2
      have b2a := b2.1
      have b2b : c2 < 2 := b2.2
      have HXN := Lib.hid hxn
      clear hxn
      clear hI HPUT HROOM HRO b3 b2
      generalize wr.heap.size = b0 at HX0 hA hw0 hX6 ⊢
      have hS2 : W2.drew.cell? ⟨b0, 6, none⟩ = some (.int .i64 o.i) ∧ W2.drew.cell? ⟨A, 1, none⟩ = some (.int .i64 x.number) ∧ CrX w W2.drew b0 A (w.heap.size + 2) S x o :=
        ⟨(World.cell?_of_block (a := ⟨b0, 6, none⟩) (w := W2) (w' := W2.drew) rfl).trans hX6, (World.cell?_of_block (a := ⟨A, 1, none⟩) (w := W2) (w' := W2.drew) rfl).trans hX1, HX0.out.later ⟨rfl, rfl, rfl, Nat.le_refl _, fun _ _ => rfl⟩⟩
      have hKEEP : Hid (∀ W1 W2, Below W1.heap.size W1 W2 → (W1.cell? ⟨b0, 6, none⟩ = some (.int .i64 o.i) ∧ W1.cell? ⟨A, 1, none⟩ = some (.int .i64 x.number) ∧ CrX w W1 b0 A (w.heap.size + 2) S x o) → (W2.cell? ⟨b0, 6, none⟩ = some (.int .i64 o.i) ∧ W2.cell? ⟨A, 1, none⟩ = some (.int .i64 x.number) ∧ CrX w W2 b0 A (w.heap.size + 2) S x o)) := Lib.hid (fun W1 W2 hb h => by
        have h2 := h.2.2.later hb
        exact ⟨h2.op.c6, h2.last.cell1, h2⟩)
      have hNEW : Hid (∀ W, (W.cell? ⟨b0, 6, none⟩ = some (.int .i64 o.i) ∧ W.cell? ⟨A, 1, none⟩ = some (.int .i64 x.number) ∧ CrX w W b0 A (w.heap.size + 2) S x o) → EB (W.alloc (.cells #[.int .i64 0, .int .i64 0, .int .i64 0, .int .i64 0, .string ⟨#[]⟩] 47)) W.heap.size Ent.zero ∧ b0 < W.heap.size) := Lib.hid (fun W h => ⟨ebt_zero W _, h.2.2.op.lt⟩)
      have hPUT : Hid (∀ W B, EB W B Ent.zero ∧ b0 < B → (W.cell? ⟨b0, 6, none⟩ = some (.int .i64 o.i) ∧ W.cell? ⟨A, 1, none⟩ = some (.int .i64 x.number) ∧ CrX w W b0 A (w.heap.size + 2) S x o) → ((W.setCells B 0 E.cells.toArray.toList).cell? ⟨b0, 6, none⟩ = some (.int .i64 o.i) ∧ (W.setCells B 0 E.cells.toArray.toList).cell? ⟨A, 1, none⟩ = some (.int .i64 x.number) ∧ CrX w (W.setCells B 0 E.cells.toArray.toList) b0 A (w.heap.size + 2) S x o)) := Lib.hid (fun W B hB h => by
        have h2 := h.2.2.put hB.2 hB.1.lt E.cells.toArray.toList
        exact ⟨h2.op.c6, h2.last.cell1, h2⟩)
      have hEND : Hid (∀ W B, EB W B Ent.zero ∧ b0 < B → (W.cell? ⟨b0, 6, none⟩ = some (.int .i64 o.i) ∧ W.cell? ⟨A, 1, none⟩ = some (.int .i64 x.number) ∧ CrX w W b0 A (w.heap.size + 2) S x o) → CrY w (W.setCells B 0 E.cells.toArray.toList) b0 A B (w.heap.size + 2) S x E o) := Lib.hid (fun W B hB h => ⟨h.2.2.put hB.2 hB.1.lt _, hB.1.set E, hB.2⟩)
      clear hX6 hX1 HX0
      apply region_at (F := fun B W3 => CrY w W3 b0 A B (w.heap.size + 2) S x E o)
      case h =>
        refine wp_region_noPanic (wp_region_held_drew (S := fun W => W.cell? ⟨b0, 6, none⟩ = some (.int .i64 o.i) ∧ W.cell? ⟨A, 1, none⟩ = some (.int .i64 x.number) ∧ CrX w W b0 A (w.heap.size + 2) S x o) (by kernel_rfl) hS2 (fun hHeld => ?_))
        refine wpAnyH_take (i := 0) (v := ?_) rfl (by kernel_rfl) (by kernel_rfl) (by kernel_rfl) (fun _ _ _ h => h) (Or.inl ⟨by rfl, ?_⟩) (by assumption) ?_
        rotate_left
        · intro w' hSw
          obtain ⟨hs6, hs1, -⟩ := hSw
          go_simp
          first | done | with_reducible rfl
        simp only [Act.put, List.getElem_toArray, List.getElem_cons_zero, List.setIfInBounds_toArray, List.set_cons_zero, List.set_cons_succ]
        refine wpAnyH_take (i := 1) (v := ?_) rfl (by kernel_rfl) (by kernel_rfl) (by kernel_rfl) (fun _ _ _ h => h) (Or.inl ⟨by rfl, ?_⟩) (by assumption) ?_
        rotate_left
        · intro w' hSw
          obtain ⟨hs6, hs1, -⟩ := hSw
          go_simp
          first | done | with_reducible rfl
        simp only [Act.put, List.getElem_toArray, List.getElem_cons_succ, List.getElem_cons_zero, List.setIfInBounds_toArray, List.set_cons_zero, List.set_cons_succ]
        refine wpAnyH_take (i := 4) (v := ?_) rfl (by kernel_rfl) (by kernel_rfl) (by kernel_rfl) (fun _ _ _ h => h) (Or.inl ⟨by rfl, ?_⟩) (by assumption) ?_
        rotate_left
        · intro w' hSw
          obtain ⟨hs6, hs1, -⟩ := hSw
          go_simp
          first | done | with_reducible rfl
        simp only [Act.put, List.getElem_toArray, List.getElem_cons_succ, List.getElem_cons_zero, List.setIfInBounds_toArray, List.set_cons_zero, List.set_cons_succ]
        refine wpAnyH_take (i := 5) (v := ?_) rfl (by kernel_rfl) (by kernel_rfl) (by kernel_rfl) (fun _ _ _ h => h) (Or.inl ⟨by rfl, ?_⟩) (by assumption) ?_
        rotate_left
        · intro w' hSw
          obtain ⟨hs6, hs1, -⟩ := hSw
          go_simp
          first | done | with_reducible rfl
        simp only [Act.put, List.getElem_toArray, List.getElem_cons_succ, List.getElem_cons_zero, List.setIfInBounds_toArray, List.set_cons_zero, List.set_cons_succ]
        refine wpAnyH_take (i := 7) (v := ?_) rfl (by kernel_rfl) (by kernel_rfl) (by kernel_rfl) (fun _ _ _ h => h) (Or.inl ⟨by rfl, ?_⟩) (by assumption) ?_
        rotate_left
        · intro w' hSw
          obtain ⟨hs6, hs1, -⟩ := hSw
          go_simp
          first | done | with_reducible rfl
        simp only [Act.put, List.getElem_toArray, List.getElem_cons_succ, List.getElem_cons_zero, List.setIfInBounds_toArray, List.set_cons_zero, List.set_cons_succ]
        refine wpAnyH_take (i := 8) (v := ?_) rfl (by kernel_rfl) (by kernel_rfl) (by kernel_rfl) (fun _ _ _ h => h) (Or.inl ⟨by rfl, ?_⟩) (by assumption) ?_
        rotate_left
        · intro w' hSw
          obtain ⟨hs6, hs1, -⟩ := hSw
          go_simp
          first | done | with_reducible rfl
        simp only [Act.put, List.getElem_toArray, List.getElem_cons_succ, List.getElem_cons_zero, List.setIfInBounds_toArray, List.set_cons_zero, List.set_cons_succ]
        refine wpAnyH_take (i := 9) (v := ?_) rfl (by kernel_rfl) (by kernel_rfl) (by kernel_rfl) (fun _ _ _ h => h) (Or.inl ⟨by rfl, ?_⟩) (by assumption) ?_
        rotate_left
        · intro w' hSw
          obtain ⟨hs6, hs1, -⟩ := hSw
          go_simp
          first | done | with_reducible rfl
        simp only [Act.put, List.getElem_toArray, List.getElem_cons_succ, List.getElem_cons_zero, List.setIfInBounds_toArray, List.set_cons_zero, List.set_cons_succ]
        refine wpAnyH_take (i := 11) (v := ?_) rfl (by kernel_rfl) (by kernel_rfl) (by kernel_rfl) (fun _ _ _ h => h) (Or.inl ⟨by rfl, ?_⟩) (by assumption) ?_
        rotate_left
        · intro w' hSw
          obtain ⟨hs6, hs1, -⟩ := hSw
          go_simp
          first | done | with_reducible rfl
        simp only [Act.put, List.getElem_toArray, List.getElem_cons_succ, List.getElem_cons_zero, List.setIfInBounds_toArray, List.set_cons_zero, List.set_cons_succ]
        refine wpAnyH_take (i := 12) (v := ?_) rfl (by kernel_rfl) (by kernel_rfl) (by kernel_rfl) (fun _ _ _ h => h) (Or.inl ⟨by rfl, ?_⟩) (by assumption) ?_
        rotate_left
        · intro w' hSw
          obtain ⟨hs6, hs1, -⟩ := hSw
          go_simp
          first | done | with_reducible rfl
        simp only [Act.put, List.getElem_toArray, List.getElem_cons_succ, List.getElem_cons_zero, List.setIfInBounds_toArray, List.set_cons_zero, List.set_cons_succ]
        refine wpAnyH_take (i := 13) (v := ?_) rfl (by kernel_rfl) (by kernel_rfl) (by kernel_rfl) (fun _ _ _ h => h) (Or.inl ⟨by rfl, ?_⟩) (by assumption) ?_
        rotate_left
        · intro w' hSw
          obtain ⟨hs6, hs1, -⟩ := hSw
          go_simp
          first | done | with_reducible rfl
        simp only [Act.put, List.getElem_toArray, List.getElem_cons_succ, List.getElem_cons_zero, List.setIfInBounds_toArray, List.set_cons_zero, List.set_cons_succ]
        refine wpAnyH_all (rs := [2, 15]) (by kernel_rfl) (by simp) (fun q hq => ?_)
        rcases List.mem_cons.1 hq with rfl | hq2
        · clear hq
          refine wpOp_wp rfl (by rfl) (fun K' hK => ?_)
          go_simp
          refine (CC3.out _).mono ?_
          rintro e w' ⟨rfl, rfl⟩
          refine hK.out _ _ ⟨by assumption, ?_⟩
          clear hK K'
          try simp only [Act.put, List.getElem_toArray, List.getElem_cons_succ, List.getElem_cons_zero, List.setIfInBounds_toArray, List.set_cons_zero, List.set_cons_succ]
          refine wpAnyH_take (i := 3) (v := ?_) rfl (by kernel_rfl) (by kernel_rfl) (by kernel_rfl) (fun _ _ _ h => h) (Or.inl ⟨by rfl, ?_⟩) (by assumption) ?_
          rotate_left
          · intro w' hSw
            obtain ⟨hs6, hs1, -⟩ := hSw
            go_simp
            first | done | with_reducible rfl
          simp only [Act.put, List.getElem_toArray, List.getElem_cons_succ, List.getElem_cons_zero, List.setIfInBounds_toArray, List.set_cons_zero, List.set_cons_succ]
          refine wpAnyH_all (rs := [6, 15]) (by kernel_rfl) (by simp) (fun q hq => ?_)
          rcases List.mem_cons.1 hq with rfl | hq2
          · clear hq
            refine wpOp_wp rfl (by rfl) (fun K' hK => ?_)
            go_simp
            refine (CC2.out _).mono ?_
            rintro e w' ⟨rfl, rfl⟩
            refine hK.out _ _ ⟨by assumption, ?_⟩
            clear hK K'
            try simp only [Act.put, List.getElem_toArray, List.getElem_cons_succ, List.getElem_cons_zero, List.setIfInBounds_toArray, List.set_cons_zero, List.set_cons_succ]
            refine wpAnyH_all (rs := [10, 15]) (by kernel_rfl) (by simp) (fun q hq => ?_)
            rcases List.mem_cons.1 hq with rfl | hq2
            · clear hq
              refine wpOp_wp rfl (by rfl) (fun K' hK => ?_)
              go_simp
              refine (CSM.out _).mono ?_
              rintro e W5 ⟨rfl, hb⟩
              have hS5 := hKEEP.out _ _ hb (by assumption)
              refine hK.out _ _ ⟨hS5, ?_⟩
              clear hb
              clear hK K'
              try simp only [Act.put, List.getElem_toArray, List.getElem_cons_succ, List.getElem_cons_zero, List.setIfInBounds_toArray, List.set_cons_zero, List.set_cons_succ]
              refine wpAnyH_take (i := 14) (v := ?_) rfl (by kernel_rfl) (by kernel_rfl) (by kernel_rfl) (fun _ _ _ h => h) (Or.inl ⟨by rfl, ?_⟩) (by assumption) ?_
              rotate_left
              · intro w' hSw
                obtain ⟨hs6, hs1, -⟩ := hSw
                go_simp
                first | done | with_reducible rfl
              simp only [Act.put, List.getElem_toArray, List.getElem_cons_succ, List.getElem_cons_zero, List.setIfInBounds_toArray, List.set_cons_zero, List.set_cons_succ]
              refine wpAnyH_all (rs := [15]) (by kernel_rfl) (by simp) (fun q hq => ?_)
              obtain rfl := List.mem_singleton.1 hq
              clear hq
              refine wpOp_wp rfl (by rfl) (fun K' hK => ?_)
              go_simp
              refine hK.out _ _ ⟨hKEEP.out _ _ ((Below.refl _ _).alloc (Nat.le_refl _) _) (by assumption), ?_⟩
              clear hK K'
              have HE := Lib.hid (hNEW.out _ (by assumption))
              have hS4 := hKEEP.out _ _ ((Below.refl _ _).alloc (Nat.le_refl _) (Obj.cells #[Value.int IntKind.i64 0, Value.int IntKind.i64 0, Value.int IntKind.i64 0, Value.int IntKind.i64 0, Value.string { data := #[] }] 47)) (by assumption)
              try simp only [Act.put, List.getElem_toArray, List.getElem_cons_succ, List.getElem_cons_zero, List.setIfInBounds_toArray, List.set_cons_zero, List.set_cons_succ]
              generalize (World.heap W5).size = B9 at HE ⊢
              refine wpAnyH_all (rs := [16]) (by kernel_rfl) (by simp) (fun q hq => ?_)
              obtain rfl := List.mem_singleton.1 hq
              refine wpOp_wp rfl (by rfl) (fun K' hK => ?_)
              refine wp_store_mid 47 (.tmp 9) (.tmp 59) rfl B9 0 E.cells.toArray rfl HEC.out HE.out.1.room (e_infoA _) (e_all _) ?_
              refine hK.out _ _ ⟨hPUT.out _ _ HE.out (by assumption), ?_⟩
              clear hK K'
              try simp only [Act.put, List.getElem_toArray, List.getElem_cons_succ, List.getElem_cons_zero]
              refine wpAnyH_done (by kernel_rfl) (NoPanic.normal ?_) _
              exact ⟨rfl, B9, rfl, hEND.out _ _ HE.out (by assumption)⟩
            · clear hq
              obtain rfl := List.mem_singleton.1 hq2
              clear hq2
              refine wpOp_wp rfl (by rfl) (fun K' hK => ?_)
              go_simp
              refine hK.out _ _ ⟨hKEEP.out _ _ ((Below.refl _ _).alloc (Nat.le_refl _) _) (by assumption), ?_⟩
              clear hK K'
              have HE := Lib.hid (hNEW.out _ (by assumption))
              have hS4 := hKEEP.out _ _ ((Below.refl _ _).alloc (Nat.le_refl _) (Obj.cells #[Value.int IntKind.i64 0, Value.int IntKind.i64 0, Value.int IntKind.i64 0, Value.int IntKind.i64 0, Value.string { data := #[] }] 47)) (by assumption)
              try simp only [Act.put, List.getElem_toArray, List.getElem_cons_succ, List.getElem_cons_zero, List.setIfInBounds_toArray, List.set_cons_zero, List.set_cons_succ]
              replace HE : Hid (EB _ W2.heap.size Ent.zero ∧ b0 < W2.heap.size) := HE
              generalize (World.heap W2).size = B9 at HE ⊢
              refine wpAnyH_all (rs := [10]) (by kernel_rfl) (by simp) (fun q hq => ?_)
              obtain rfl := List.mem_singleton.1 hq
              clear hq
              refine wpOp_wp rfl (by rfl) (fun K' hK => ?_)
              go_simp
              refine (CSM.out _).mono ?_
              rintro e W5 ⟨rfl, hb⟩
              have hS5 := hKEEP.out _ _ hb (by assumption)
              have HE5 := Lib.hid (And.intro (HE.out.1.later hb) HE.out.2)
              clear HE
              have HE := HE5
              clear HE5
              refine hK.out _ _ ⟨hS5, ?_⟩
              clear hb
              clear hK K'
              try simp only [Act.put, List.getElem_toArray, List.getElem_cons_succ, List.getElem_cons_zero, List.setIfInBounds_toArray, List.set_cons_zero, List.set_cons_succ]
              refine wpAnyH_take (i := 14) (v := ?_) rfl (by kernel_rfl) (by kernel_rfl) (by kernel_rfl) (fun _ _ _ h => h) (Or.inl ⟨by rfl, ?_⟩) (by assumption) ?_
              rotate_left
              · intro w' hSw
                obtain ⟨hs6, hs1, -⟩ := hSw
                go_simp
                first | done | with_reducible rfl
              simp only [Act.put, List.getElem_toArray, List.getElem_cons_succ, List.getElem_cons_zero, List.setIfInBounds_toArray, List.set_cons_zero, List.set_cons_succ]
              refine wpAnyH_all (rs := [16]) (by kernel_rfl) (by simp) (fun q hq => ?_)
              obtain rfl := List.mem_singleton.1 hq
              refine wpOp_wp rfl (by rfl) (fun K' hK => ?_)
              refine wp_store_mid 47 (.tmp 9) (.tmp 59) rfl B9 0 E.cells.toArray rfl HEC.out HE.out.1.room (e_infoA _) (e_all _) ?_
              refine hK.out _ _ ⟨hPUT.out _ _ HE.out (by assumption), ?_⟩
              clear hK K'
              try simp only [Act.put, List.getElem_toArray, List.getElem_cons_succ, List.getElem_cons_zero]
              refine wpAnyH_done (by kernel_rfl) (NoPanic.normal ?_) _
              exact ⟨rfl, B9, rfl, hEND.out _ _ HE.out (by assumption)⟩
          · clear hq
            obtain rfl := List.mem_singleton.1 hq2
            clear hq2
            refine wpOp_wp rfl (by rfl) (fun K' hK => ?_)
            go_simp
            refine hK.out _ _ ⟨hKEEP.out _ _ ((Below.refl _ _).alloc (Nat.le_refl _) _) (by assumption), ?_⟩
            clear hK K'
            have HE := Lib.hid (hNEW.out _ (by assumption))
            have hS4 := hKEEP.out _ _ ((Below.refl _ _).alloc (Nat.le_refl _) (Obj.cells #[Value.int IntKind.i64 0, Value.int IntKind.i64 0, Value.int IntKind.i64 0, Value.int IntKind.i64 0, Value.string { data := #[] }] 47)) (by assumption)
            try simp only [Act.put, List.getElem_toArray, List.getElem_cons_succ, List.getElem_cons_zero, List.setIfInBounds_toArray, List.set_cons_zero, List.set_cons_succ]
            replace HE : Hid (EB _ W2.heap.size Ent.zero ∧ b0 < W2.heap.size) := HE
            generalize (World.heap W2).size = B9 at HE ⊢
            refine wpAnyH_all (rs := [6]) (by kernel_rfl) (by simp) (fun q hq => ?_)
            obtain rfl := List.mem_singleton.1 hq
            clear hq
            refine wpOp_wp rfl (by rfl) (fun K' hK => ?_)
            go_simp
            refine (CC2.out _).mono ?_
            rintro e w' ⟨rfl, rfl⟩
            refine hK.out _ _ ⟨by assumption, ?_⟩
            clear hK K'
            try simp only [Act.put, List.getElem_toArray, List.getElem_cons_succ, List.getElem_cons_zero, List.setIfInBounds_toArray, List.set_cons_zero, List.set_cons_succ]
            refine wpAnyH_all (rs := [10]) (by kernel_rfl) (by simp) (fun q hq => ?_)
            obtain rfl := List.mem_singleton.1 hq
            clear hq
            refine wpOp_wp rfl (by rfl) (fun K' hK => ?_)
            go_simp
            refine (CSM.out _).mono ?_
            rintro e W5 ⟨rfl, hb⟩
            have hS5 := hKEEP.out _ _ hb (by assumption)
            have HE5 := Lib.hid (And.intro (HE.out.1.later hb) HE.out.2)
            clear HE
            have HE := HE5
            clear HE5
            refine hK.out _ _ ⟨hS5, ?_⟩
            clear hb
            clear hK K'
            try simp only [Act.put, List.getElem_toArray, List.getElem_cons_succ, List.getElem_cons_zero, List.setIfInBounds_toArray, List.set_cons_zero, List.set_cons_succ]
            refine wpAnyH_take (i := 14) (v := ?_) rfl (by kernel_rfl) (by kernel_rfl) (by kernel_rfl) (fun _ _ _ h => h) (Or.inl ⟨by rfl, ?_⟩) (by assumption) ?_
            rotate_left
            · intro w' hSw
              obtain ⟨hs6, hs1, -⟩ := hSw
              go_simp
              first | done | with_reducible rfl
            simp only [Act.put, List.getElem_toArray, List.getElem_cons_succ, List.getElem_cons_zero, List.setIfInBounds_toArray, List.set_cons_zero, List.set_cons_succ]
            refine wpAnyH_all (rs := [16]) (by kernel_rfl) (by simp) (fun q hq => ?_)
            obtain rfl := List.mem_singleton.1 hq
            refine wpOp_wp rfl (by rfl) (fun K' hK => ?_)
            refine wp_store_mid 47 (.tmp 9) (.tmp 59) rfl B9 0 E.cells.toArray rfl HEC.out HE.out.1.room (e_infoA _) (e_all _) ?_
            refine hK.out _ _ ⟨hPUT.out _ _ HE.out (by assumption), ?_⟩
            clear hK K'
            try simp only [Act.put, List.getElem_toArray, List.getElem_cons_succ, List.getElem_cons_zero]
            refine wpAnyH_done (by kernel_rfl) (NoPanic.normal ?_) _
            exact ⟨rfl, B9, rfl, hEND.out _ _ HE.out (by assumption)⟩
        · clear hq
          obtain rfl := List.mem_singleton.1 hq2
          clear hq2
          refine wpOp_wp rfl (by rfl) (fun K' hK => ?_)
          go_simp
          refine hK.out _ _ ⟨hKEEP.out _ _ ((Below.refl _ _).alloc (Nat.le_refl _) _) (by assumption), ?_⟩
          clear hK K'
          have HE := Lib.hid (hNEW.out _ (by assumption))
          have hS4 := hKEEP.out _ _ ((Below.refl _ _).alloc (Nat.le_refl _) (Obj.cells #[Value.int IntKind.i64 0, Value.int IntKind.i64 0, Value.int IntKind.i64 0, Value.int IntKind.i64 0, Value.string { data := #[] }] 47)) (by assumption)
          try simp only [Act.put, List.getElem_toArray, List.getElem_cons_succ, List.getElem_cons_zero, List.setIfInBounds_toArray, List.set_cons_zero, List.set_cons_succ]
          replace HE : Hid (EB _ W2.heap.size Ent.zero ∧ b0 < W2.heap.size) := HE
          generalize (World.heap W2).size = B9 at HE ⊢
          refine wpAnyH_all (rs := [2]) (by kernel_rfl) (by simp) (fun q hq => ?_)
          obtain rfl := List.mem_singleton.1 hq
          clear hq
          refine wpOp_wp rfl (by rfl) (fun K' hK => ?_)
          go_simp
          refine (CC3.out _).mono ?_
          rintro e w' ⟨rfl, rfl⟩
          refine hK.out _ _ ⟨by assumption, ?_⟩
          clear hK K'
          try simp only [Act.put, List.getElem_toArray, List.getElem_cons_succ, List.getElem_cons_zero, List.setIfInBounds_toArray, List.set_cons_zero, List.set_cons_succ]
          refine wpAnyH_take (i := 3) (v := ?_) rfl (by kernel_rfl) (by kernel_rfl) (by kernel_rfl) (fun _ _ _ h => h) (Or.inl ⟨by rfl, ?_⟩) (by assumption) ?_
          rotate_left
          · intro w' hSw
            obtain ⟨hs6, hs1, -⟩ := hSw
            go_simp
            first | done | with_reducible rfl
          simp only [Act.put, List.getElem_toArray, List.getElem_cons_succ, List.getElem_cons_zero, List.setIfInBounds_toArray, List.set_cons_zero, List.set_cons_succ]
          refine wpAnyH_all (rs := [6]) (by kernel_rfl) (by simp) (fun q hq => ?_)
          obtain rfl := List.mem_singleton.1 hq
          clear hq
          refine wpOp_wp rfl (by rfl) (fun K' hK => ?_)
          go_simp
          refine (CC2.out _).mono ?_
          rintro e w' ⟨rfl, rfl⟩
          refine hK.out _ _ ⟨by assumption, ?_⟩
          clear hK K'
          try simp only [Act.put, List.getElem_toArray, List.getElem_cons_succ, List.getElem_cons_zero, List.setIfInBounds_toArray, List.set_cons_zero, List.set_cons_succ]
          refine wpAnyH_all (rs := [10]) (by kernel_rfl) (by simp) (fun q hq => ?_)
          obtain rfl := List.mem_singleton.1 hq
          clear hq
          refine wpOp_wp rfl (by rfl) (fun K' hK => ?_)
          go_simp
          refine (CSM.out _).mono ?_
          rintro e W5 ⟨rfl, hb⟩
          have hS5 := hKEEP.out _ _ hb (by assumption)
          have HE5 := Lib.hid (And.intro (HE.out.1.later hb) HE.out.2)
          clear HE
          have HE := HE5
          clear HE5
          refine hK.out _ _ ⟨hS5, ?_⟩
          clear hb
          clear hK K'
          try simp only [Act.put, List.getElem_toArray, List.getElem_cons_succ, List.getElem_cons_zero, List.setIfInBounds_toArray, List.set_cons_zero, List.set_cons_succ]
          refine wpAnyH_take (i := 14) (v := ?_) rfl (by kernel_rfl) (by kernel_rfl) (by kernel_rfl) (fun _ _ _ h => h) (Or.inl ⟨by rfl, ?_⟩) (by assumption) ?_
          rotate_left
          · intro w' hSw
            obtain ⟨hs6, hs1, -⟩ := hSw
            go_simp
            first | done | with_reducible rfl
          simp only [Act.put, List.getElem_toArray, List.getElem_cons_succ, List.getElem_cons_zero, List.setIfInBounds_toArray, List.set_cons_zero, List.set_cons_succ]
          refine wpAnyH_all (rs := [16]) (by kernel_rfl) (by simp) (fun q hq => ?_)
          obtain rfl := List.mem_singleton.1 hq
          refine wpOp_wp rfl (by rfl) (fun K' hK => ?_)
          refine wp_store_mid 47 (.tmp 9) (.tmp 59) rfl B9 0 E.cells.toArray rfl HEC.out HE.out.1.room (e_infoA _) (e_all _) ?_
          refine hK.out _ _ ⟨hPUT.out _ _ HE.out (by assumption), ?_⟩
          clear hK K'
          try simp only [Act.put, List.getElem_toArray, List.getElem_cons_succ, List.getElem_cons_zero]
          refine wpAnyH_done (by kernel_rfl) (NoPanic.normal ?_) _
          exact ⟨rfl, B9, rfl, hEND.out _ _ HE.out (by assumption)⟩
      case k =>
        intro B9 W3 HY
        have HR3 := Lib.hid HY.rnd
        have c0 := HY.x.op.c0
        have hPA0 : PA A b0 W3 A := .inl rfl
        have hPB0 : PA A b0 W3 b0 := .inr ⟨Nat.le_refl _, HY.x.op.lt⟩
        have hXE : E.number = x.number + 1 := HNUM.out
        have hxE : decide (x = E) = false := decide_eq_false (fun e => by have := congrArg Ent.number e; omega)
        have HIE := Lib.hid e_info
        clear HY hS2 hKEEP hNEW hPUT hEND
        generalize PA A b0 W3 = P3 at HR3 hPA0 hPB0
        have hPA := hPA0
        obtain ⟨kk, hkk⟩ : ∃ kk : Nat, c3 = (kk : Int) := ⟨c3.toNat, by omega⟩
        have hkk3 : kk < 3 := by omega
        try dsimp only
        by_cases hk2 : o.kind = 2
        · have t2 : decide (o.kind = 2) = true := decide_eq_true hk2
          have t3 : (o.kind == 2) = true := by simpa using hk2
          have cd := Lib.hid (fun (W : World) (h : Rnd w W P3 (w.heap.size + 2) S (fun U => EB U A x ∧ OB U b0 o ∧ EB U B9 E)) => h.cut kk o.mask (by omega) ho.mask)
          go_wp2_with fail
          clear c0
          have hS0 : W3.drew.cell? ⟨b0, 6, none⟩ = some (.int .i64 o.i) ∧ W3.drew.cell? ⟨b0, 8, none⟩ = some (.int .u64 (o.mask : Int)) ∧ OB W3.drew b0 o := by
            have h := HR3.out.inv.2.1.of_block (W' := W3.drew) rfl (Nat.le_refl _)
            exact ⟨h.c6, h.c8, h⟩
          have hK2 : Hid (∀ W1 W2, Only (fun k => ¬P3 k) W1 W2 → (W1.cell? ⟨b0, 6, none⟩ = some (.int .i64 o.i) ∧ W1.cell? ⟨b0, 8, none⟩ = some (.int .u64 (o.mask : Int)) ∧ OB W1 b0 o) → (W2.cell? ⟨b0, 6, none⟩ = some (.int .i64 o.i) ∧ W2.cell? ⟨b0, 8, none⟩ = some (.int .u64 (o.mask : Int)) ∧ OB W2 b0 o)) := Lib.hid (fun W1 W2 hb h => by
            have h2 := h.2.2.only hb (fun e => e hPB0)
            exact ⟨h2.c6, h2.c8, h2⟩)
          have hD0 : Rnd w W3.drew P3 (w.heap.size + 2) S (fun U => EB U A x ∧ OB U b0 o ∧ EB U B9 E) := HR3.out.later ⟨rfl, rfl, rfl, Nat.le_refl _, fun _ _ => rfl⟩
          go_region_held3 (fun W => W.cell? ⟨b0, 6, none⟩ = some (.int .i64 o.i) ∧ W.cell? ⟨b0, 8, none⟩ = some (.int .u64 (o.mask : Int)) ∧ OB W b0 o) (first | assumption | exact hK2.out _ _ (by assumption) (by assumption)) (first
            | (go_at_call 32; (with_reducible refine (CC3.out _).mono ?_); rintro e W4 ⟨rfl, rfl⟩)
            | (go_at_call 21; (with_reducible refine (cd.out _ (by assumption)).mono ?_); rintro e W4 ⟨rfl, hd, ho2⟩))
          have hz := ‹Rnd w _ P3 (w.heap.size + 2) (S.plan kk o.mask) _›
          have HZ := Lib.hid hz
          have hO1 : CrOk i (S.plan kk o.mask) := hO.plan (by omega) ho.mask
          have hl1 : lastE (S.plan kk o.mask) = lastE S := rfl
          have hlN1 : lastN (S.plan kk o.mask) = lastN S := rfl
          clear hz hS0 hK2 hD0 cd hd ho2 HR3
          generalize S.plan kk o.mask = S1 at *
          have HXX := Lib.hid hX
          have HHAS := Lib.hid hx
          have HXE := Lib.hid hXE
          have HNB : Hid (0 ≤ E.number ∧ E.number ≤ 41) := Lib.hid (by omega)
          have HL1 := Lib.hid hl1
          clear CC3 CC2 CSM HEC HOI y1 y2 y3 y4 b3a b3b b2a b2b
          obtain ⟨xx, f, hCR, hOU⟩ := cr_step (m := o.mask) hO1 (by omega) (e := E) (by rw [hXE, HXN.out, hlN1]) HVAL.out
          have HCR := Lib.hid hCR
          have hcode := hCR.code
          have hap := app_cases hO1.ok hO1.on hO1.wait (e := E) (by rw [hXE, HXN.out, hlN1]) HVAL.out (k := (E.number % 8).toNat) (by have := HXN.out; omega)
          have HFEW : Hid (((DS.app S1 E).1.plan 1099511627776 0).c ≤ 2 ^ 40) := Lib.hid (by have h1 := hap.2.2.2.1; have h2 := hO1.few; show (DS.app S1 E).1.c ≤ _; omega)
          clear hCR hap
          obtain ⟨U, hU⟩ : ∃ U, crU (DS.app S1 E).1 o.mask = U := ⟨_, rfl⟩
          have HST := Lib.hid HCR.out.stay
          rw [hU] at hOU hcode HST
          have HU : Hid ((((DS.app S1 E).1.plan 1099511627776 0).fail o.mask).start = U) := Lib.hid hU
          clear hU hX hx hXE hl1 hlN1 bN hlN hkk hkk3
          rcases hcode with ⟨rfl, hxx, hlu⟩ | ⟨rfl, hlu | hlu⟩
          · have hy : (lastE U).getD Ent.zero = E := by rw [hlu]; rfl
            have his : (lastE U).isSome = true := by rw [hlu]; rfl
            clear hlu HL1 HXX HHAS
            rw [hxx] at HCR
            clear hxx
            as_aux_lemma =>
              have HY1 := Lib.hid hy
              have HY2 := Lib.hid his
              clear hy his
              go_wp2_with fail
              refine (HZ.out.scan HHK.out hO1.on (by have := hO1.few; omega)).mono ?_
              rintro e W5 ⟨v1, rfl, hsc⟩
              have HZ5 := Lib.hid (HZ.out.addR hsc)
              obtain ⟨P5, hP5e, hPA5⟩ : ∃ P5 : Nat → Prop, (fun k => P3 k ∨ (W4.heap.size ≤ k ∧ k < W5.heap.size)) = P5 ∧ P5 A := ⟨_, rfl, .inl hPA⟩
              rw [hP5e] at HZ5
              clear hP5e
              obtain ⟨pa1, n1, cap1, rfl, hn1, hpa1⟩ := HZ5.out.inv.2.1.form3
              have hn8 : n1 ≤ 8 := by rw [hn1]; exact scan_length _ _
              have HN1 := Lib.hid hn1
              have HPA1 := Lib.hid hpa1
              clear hsc HZ hn1 hpa1
              have HN6 := Lib.hid (fun W => ebt_zero W 47)
              have HP6 := Lib.hid (fun W => ebt_put W 47 E)
              have HP9 := Lib.hid (fun W => ebt_put W 47 E)
              go_wp2_with (first
                | (refine wpList_load_mid rfl 47 (.tmp 9) rfl B9 0 rfl E.cells _ HZ5.out.inv.1.2.2.cells Tryd.underlying47 rfl (HIE.out _) ?_))
              refine (HZ5.out.app HHK.out E (by have := hO1.few; omega) (by have := hO1.few; omega) HCR.out.app).mono ?_
              rintro y W6 ⟨rfl, hz6, -⟩
              have HZ6 := Lib.hid hz6
              have HQ6 := Lib.hid (HP6.out W6)
              have HR6 := Lib.hid (HN6.out W6)
              clear hz6 HZ5
              go_wp2_with (first
                | (refine wpList_store_mid rfl 47 (.tmp 12) (.tmp 79) rfl W6.heap.size 0 E.cells.toArray rfl rfl HR6.out.room (e_infoA _) (e_all _) ?_; generalize World.setCells _ _ _ _ = W7 at HQ6 ⊢; have HZ7 := Lib.hid (HZ6.out.addE HQ6.out.2 rfl HQ6.out.1); clear HQ6 HR6 HZ6)
                | (refine wpList_load_want (by rfl) 47 (.tmp 12) rfl W6.heap.size 0 rfl E.cells _ HZ7.out.inv.2.cells Tryd.underlying47 rfl (HIE.out _) ?_)
                | (refine wpList_load_want (by rfl) 47 (.tmp 9) rfl B9 0 rfl E.cells _ HZ7.out.inv.1.1.2.2.cells Tryd.underlying47 rfl (HIE.out _) ?_)
                | (refine wpList_neq (e := E) (f := E) (by rfl) (.tmp 84) (.tmp 85) rfl rfl rfl false (by simp) ?_)
                | fail)
              refine (HZ7.out.cut 1099511627776 0 (by decide) (by decide)).mono ?_
              rintro y W8 ⟨rfl, hz8, -⟩
              have HZ8 := Lib.hid hz8
              clear hz8 HZ7
              have c8 := HZ8.out.inv.1.1.2.1.c8
              go_wp2_with fail
              clear c8
              refine (HZ8.out.fail o.mask ho.mask HFEW.out).mono ?_
              rintro y W9 ⟨rfl, hz9, -⟩
              have HZ9 := Lib.hid hz9
              clear hz9 HZ8
              go_wp2_with fail
              refine HZ9.out.start.mono ?_
              rintro y W10 ⟨rfl, hz10, -⟩
              have HZ10 : Hid (Rnd w W10 _ (w.heap.size + 2) U _) := Lib.hid (by rw [← HU.out]; exact hz10)
              clear hz10 HZ9
              go_wp2_with fail
              refine (HZ10.out.last HHK.out hOU.on (by have := hOU.few; omega) HY1.out HY2.out).mono ?_
              rintro y W11 ⟨rfl, hb⟩
              have HZ11 := Lib.hid (HZ10.out.later hb)
              clear hb HZ10
              have HQ11 := Lib.hid (HP9.out W11)
              have HR11 := Lib.hid (HN6.out W11)
              go_wp2_with (first
                | (refine wpList_store_mid rfl 47 (.tmp 14) (.tmp 107) rfl W11.heap.size 0 E.cells.toArray rfl rfl HR11.out.room (e_infoA _) (e_all _) ?_; generalize World.setCells _ _ _ _ = W12 at HQ11 ⊢; have HZ12 := Lib.hid (HZ11.out.addE HQ11.out.2 rfl HQ11.out.1); clear HQ11 HR11 HZ11))
              refine (HZ12.out.scan HHK.out hOU.on (by have := hOU.few; omega)).mono ?_
              rintro y W13 ⟨v2, rfl, hsc⟩
              have HZ13 := Lib.hid (HZ12.out.addR hsc)
              have HB13 : Hid (Below W12.heap.size W12 W13) := Lib.hid hsc.below
              clear hsc HZ12 HN6 HP6 HP9
              go_wp2_with (first
                | (refine wpList_load_want (by rfl) 47 (.tmp 14) rfl W11.heap.size 0 rfl E.cells _ HZ13.out.inv.1.2.cells Tryd.underlying47 rfl (HIE.out _) ?_)
                | (refine wpList_load_want (by rfl) 47 (.tmp 9) rfl B9 0 rfl E.cells _ HZ13.out.inv.1.1.1.1.2.2.cells Tryd.underlying47 rfl (HIE.out _) ?_)
                | (refine wpList_load_want (by rfl) 47 (.tmp 5) rfl A 0 rfl x.cells _ HZ13.out.inv.1.1.1.1.1.cells Tryd.underlying47 rfl (HIE.out _) ?_)
                | (refine wpList_neq (e := E) (f := E) (by rfl) (.tmp 128) (.tmp 129) rfl rfl rfl false (by simp) ?_))
              generalize W11.heap.size = B14 at HZ13 ⊢
              go_loopw [19] (fun vq wq => ∃ q : Nat, q ≤ n1 ∧ vq = .int .i64 q ∧ Hid (Below W13.heap.size W13 wq)) (fun vq _ => n1 - (intOf vq).toNat)
              case atStart => exact ⟨0, Nat.zero_le _, rfl, Lib.hid (Below.refl _ _)⟩
              case round =>
                obtain ⟨q, hq, rfl, hQ⟩ := hrel
                have q0 : (0 : Int) ≤ (q : Int) := by omega
                have q8 : (q : Int) ≤ 8 := by omega
                by_cases hqn : q < n1
                · have q1 : (q : Int) < (n1 : Int) := by omega
                  obtain ⟨g1, rfl⟩ := HPA1.out (by omega)
                  obtain ⟨y1, hy1⟩ : ∃ y1, (scan S1.read 8)[q]? = some y1 := ⟨_, List.getElem?_eq_getElem (by have := HN1.out; omega)⟩
                  have hmem := List.mem_of_getElem? hy1
                  obtain ⟨qs, hqs⟩ : ∃ qs, strOf y1.sum = qs := ⟨_, rfl⟩
                  have HSS : Hid (∀ W, Below W13.heap.size W13 W → (W.cell? ⟨g1, q * 5, none⟩ = some (.int .i64 y1.kind) ∧ W.cell? ⟨g1, q * 5 + 1, none⟩ = some (.int .i64 y1.number) ∧ W.cell? ⟨g1, q * 5 + 2, none⟩ = some (.int .i64 y1.slot) ∧ W.cell? ⟨g1, q * 5 + 3, none⟩ = some (.int .i64 y1.size) ∧ W.cell? ⟨g1, q * 5 + 4, none⟩ = some (.string qs) ∧ W.cell? ⟨B9, 1, none⟩ = some (.int .i64 E.number) ∧ Below W13.heap.size W13 W)) := Lib.hid (fun W hb => by
                    have h := (HZ13.out.later hb).inv
                    have hr := h.1.1.1.2.1.at HN1.out hy1
                    rw [← hqs]
                    exact ⟨hr 0 _ rfl, hr 1 _ rfl, hr 2 _ rfl, hr 3 _ rfl, hr 4 _ rfl, h.1.1.1.1.2.2.cell1, hb⟩)
                  have hb1 : Below W13.heap.size W13 wr.drew := hQ.out.drew
                  have hS0 := HSS.out wr.drew hb1
                  have hK3 : Hid (∀ W1 W2, Below W1.heap.size W1 W2 → (W1.cell? ⟨g1, q * 5, none⟩ = some (.int .i64 y1.kind) ∧ W1.cell? ⟨g1, q * 5 + 1, none⟩ = some (.int .i64 y1.number) ∧ W1.cell? ⟨g1, q * 5 + 2, none⟩ = some (.int .i64 y1.slot) ∧ W1.cell? ⟨g1, q * 5 + 3, none⟩ = some (.int .i64 y1.size) ∧ W1.cell? ⟨g1, q * 5 + 4, none⟩ = some (.string qs) ∧ W1.cell? ⟨B9, 1, none⟩ = some (.int .i64 E.number) ∧ Below W13.heap.size W13 W1) → (W2.cell? ⟨g1, q * 5, none⟩ = some (.int .i64 y1.kind) ∧ W2.cell? ⟨g1, q * 5 + 1, none⟩ = some (.int .i64 y1.number) ∧ W2.cell? ⟨g1, q * 5 + 2, none⟩ = some (.int .i64 y1.slot) ∧ W2.cell? ⟨g1, q * 5 + 3, none⟩ = some (.int .i64 y1.size) ∧ W2.cell? ⟨g1, q * 5 + 4, none⟩ = some (.string qs) ∧ W2.cell? ⟨B9, 1, none⟩ = some (.int .i64 E.number) ∧ Below W13.heap.size W13 W2)) := Lib.hid (fun W1 W2 hb h => HSS.out W2 (chain2 h.2.2.2.2.2.2 hb))
                  have ew : IntKind.i64.wrap (E.number - 8) = E.number - 8 := IntWalk.i64_in _ (by have := HNB.out; omega)
                  by_cases hgt : E.number - 8 < y1.number
                  · have d1 : decide (E.number - 8 < y1.number) = true := decide_eq_true hgt
                    have CAM : Hid (∀ W, Below W13.heap.size W13 W → Calls Tryd.prog 34 #[v2, .agg #[.int .i64 y1.kind, .int .i64 y1.number, .int .i64 y1.slot, .int .i64 y1.size, .string qs]] W fun x w' => x = .returned (.bool true) ∧ Below W.heap.size W w') := Lib.hid (fun W hb => by
                      have := among_yes v2 (scan U.read 8) y1 (scan_length _ _) (HST.out y1 hmem hgt) W (HZ13.out.later hb).inv.2.1
                      rw [← hqs]
                      exact this)
                    clear hqs hmem hy1 HSS
                    go_wp2
                    go_region_held3 (fun W => W.cell? ⟨g1, q * 5, none⟩ = some (.int .i64 y1.kind) ∧ W.cell? ⟨g1, q * 5 + 1, none⟩ = some (.int .i64 y1.number) ∧ W.cell? ⟨g1, q * 5 + 2, none⟩ = some (.int .i64 y1.slot) ∧ W.cell? ⟨g1, q * 5 + 3, none⟩ = some (.int .i64 y1.size) ∧ W.cell? ⟨g1, q * 5 + 4, none⟩ = some (.string qs) ∧ W.cell? ⟨B9, 1, none⟩ = some (.int .i64 E.number) ∧ Below W13.heap.size W13 W) (first | assumption | exact hK3.out _ _ (by assumption) (by assumption)) (first
                      | (go_at_call 34; (with_reducible refine (CAM.out _ (by assumption)).mono ?_); rintro e W20 ⟨rfl, hb20⟩))
                    have HB20 := Lib.hid (chain2 hb1 hb20)
                    clear hS0 hK3 hb1 hb20
                    go_wp2
                    go_roundw
                    case rel => exact ⟨q + 1, by omega, by go_num, HB20⟩
                    case measure => simp [intOf]; omega
                  · have d1 : decide (E.number - 8 < y1.number) = false := decide_eq_false hgt
                    obtain ⟨e0, e1, e2, e3, e4, e5, -⟩ := HSS.out wr hQ.out
                    clear hqs hmem hy1 hgt HSS hS0 hK3 hb1 e0 e2 e3 e4
                    go_wp2
                    go_quiet (fail)
                    have HB20 := Lib.hid (chain2 hQ.out (below_drewQ wr nq))
                    clear e1 e5
                    go_wp2
                    go_roundw
                    case rel => exact ⟨q + 1, by omega, by go_num, HB20⟩
                    case measure => simp [intOf]; omega
                · obtain rfl : q = n1 := by omega
                  have HZQ := Lib.hid (HZ13.out.later hQ.out)
                  have HNX : Hid (CrW w (wr.setCells A 0 E.cells.toArray.toList) A (w.heap.size + 2) U) := Lib.hid (by
                    have h := HZQ.out.inv
                    refine ⟨(solo_wrote HZQ.out.solo (G := fun k => k = A) (Only.setCells (F := fun k => k = A) A rfl _ 0 wr (Only.refl _ _)) (fun i hi => by subst hi; exact ⟨.inl (.inl (.inl hPA5)), hAw⟩)).less (fun k hk => by subst hk; exact .inl (.inl (.inl hPA5))), ?_⟩
                    rw [HY1.out]
                    exact h.1.1.1.1.1.set E)
                  clear HZ13 hQ
                  go_wp2_with (first
                    | (refine wpList_load_mid rfl 47 (.tmp 14) rfl B14 0 rfl E.cells _ HZQ.out.inv.1.2.cells Tryd.underlying47 rfl (HIE.out _) ?_)
                    | (refine wpList_store_mid rfl 47 (.tmp 5) (.tmp 181) rfl A 0 E.cells.toArray rfl rfl HZQ.out.inv.1.1.1.1.1.room (e_infoA _) (e_all _) ?_; generalize World.setCells _ _ _ _ = W30 at HNX ⊢))
                  go_roundw
                  case rel => exact ⟨i + 1, U, by omega, by rw [HY2.out], by go_num, hOU, HNX⟩
                  case measure => simp [intOf]; omega
          · have hy : (lastE U).getD Ent.zero = E := by rw [hlu]; rfl
            have his : (lastE U).isSome = true := by rw [hlu]; rfl
            clear hlu HL1 HXX HHAS
            as_aux_lemma =>
              have HY1 := Lib.hid hy
              have HY2 := Lib.hid his
              clear hy his
              go_wp2_with fail
              refine (HZ.out.scan HHK.out hO1.on (by have := hO1.few; omega)).mono ?_
              rintro e W5 ⟨v1, rfl, hsc⟩
              have HZ5 := Lib.hid (HZ.out.addR hsc)
              obtain ⟨P5, hP5e, hPA5⟩ : ∃ P5 : Nat → Prop, (fun k => P3 k ∨ (W4.heap.size ≤ k ∧ k < W5.heap.size)) = P5 ∧ P5 A := ⟨_, rfl, .inl hPA⟩
              rw [hP5e] at HZ5
              clear hP5e
              obtain ⟨pa1, n1, cap1, rfl, hn1, hpa1⟩ := HZ5.out.inv.2.1.form3
              have hn8 : n1 ≤ 8 := by rw [hn1]; exact scan_length _ _
              have HN1 := Lib.hid hn1
              have HPA1 := Lib.hid hpa1
              clear hsc HZ hn1 hpa1
              have HN6 := Lib.hid (fun W => ebt_zero W 47)
              have HP6 := Lib.hid (fun W => ebt_put W 47 xx)
              have HP9 := Lib.hid (fun W => ebt_put W 47 E)
              go_wp2_with (first
                | (refine wpList_load_mid rfl 47 (.tmp 9) rfl B9 0 rfl E.cells _ HZ5.out.inv.1.2.2.cells Tryd.underlying47 rfl (HIE.out _) ?_))
              refine (HZ5.out.app HHK.out E (by have := hO1.few; omega) (by have := hO1.few; omega) HCR.out.app).mono ?_
              rintro y W6 ⟨rfl, hz6, -⟩
              have HZ6 := Lib.hid hz6
              have HQ6 := Lib.hid (HP6.out W6)
              have HR6 := Lib.hid (HN6.out W6)
              clear hz6 HZ5
              go_wp2_with (first
                | (refine wpList_store_mid rfl 47 (.tmp 12) (.tmp 79) rfl W6.heap.size 0 xx.cells.toArray rfl rfl HR6.out.room (e_infoA _) (e_all _) ?_; generalize World.setCells _ _ _ _ = W7 at HQ6 ⊢; have HZ7 := Lib.hid (HZ6.out.addE HQ6.out.2 rfl HQ6.out.1); clear HQ6 HR6 HZ6)
                | fail)
              refine (HZ7.out.cut 1099511627776 0 (by decide) (by decide)).mono ?_
              rintro y W8 ⟨rfl, hz8, -⟩
              have HZ8 := Lib.hid hz8
              clear hz8 HZ7
              have c8 := HZ8.out.inv.1.1.2.1.c8
              go_wp2_with fail
              clear c8
              refine (HZ8.out.fail o.mask ho.mask HFEW.out).mono ?_
              rintro y W9 ⟨rfl, hz9, -⟩
              have HZ9 := Lib.hid hz9
              clear hz9 HZ8
              go_wp2_with fail
              refine HZ9.out.start.mono ?_
              rintro y W10 ⟨rfl, hz10, -⟩
              have HZ10 : Hid (Rnd w W10 _ (w.heap.size + 2) U _) := Lib.hid (by rw [← HU.out]; exact hz10)
              clear hz10 HZ9
              go_wp2_with fail
              refine (HZ10.out.last HHK.out hOU.on (by have := hOU.few; omega) HY1.out HY2.out).mono ?_
              rintro y W11 ⟨rfl, hb⟩
              have HZ11 := Lib.hid (HZ10.out.later hb)
              clear hb HZ10
              have HQ11 := Lib.hid (HP9.out W11)
              have HR11 := Lib.hid (HN6.out W11)
              go_wp2_with (first
                | (refine wpList_store_mid rfl 47 (.tmp 14) (.tmp 107) rfl W11.heap.size 0 E.cells.toArray rfl rfl HR11.out.room (e_infoA _) (e_all _) ?_; generalize World.setCells _ _ _ _ = W12 at HQ11 ⊢; have HZ12 := Lib.hid (HZ11.out.addE HQ11.out.2 rfl HQ11.out.1); clear HQ11 HR11 HZ11))
              refine (HZ12.out.scan HHK.out hOU.on (by have := hOU.few; omega)).mono ?_
              rintro y W13 ⟨v2, rfl, hsc⟩
              have HZ13 := Lib.hid (HZ12.out.addR hsc)
              have HB13 : Hid (Below W12.heap.size W12 W13) := Lib.hid hsc.below
              clear hsc HZ12 HN6 HP6 HP9
              go_wp2_with (first
                | (refine wpList_load_want (by rfl) 47 (.tmp 14) rfl W11.heap.size 0 rfl E.cells _ HZ13.out.inv.1.2.cells Tryd.underlying47 rfl (HIE.out _) ?_)
                | (refine wpList_load_want (by rfl) 47 (.tmp 9) rfl B9 0 rfl E.cells _ HZ13.out.inv.1.1.1.1.2.2.cells Tryd.underlying47 rfl (HIE.out _) ?_)
                | (refine wpList_load_want (by rfl) 47 (.tmp 5) rfl A 0 rfl x.cells _ HZ13.out.inv.1.1.1.1.1.cells Tryd.underlying47 rfl (HIE.out _) ?_)
                | (refine wpList_eql (e := E) (f := E) (by rfl) (.tmp 140) (.tmp 141) rfl rfl rfl true (by simp) ?_))
              generalize W11.heap.size = B14 at HZ13 ⊢
              go_loopw [19] (fun vq wq => ∃ q : Nat, q ≤ n1 ∧ vq = .int .i64 q ∧ Hid (Below W13.heap.size W13 wq)) (fun vq _ => n1 - (intOf vq).toNat)
              case atStart => exact ⟨0, Nat.zero_le _, rfl, Lib.hid (Below.refl _ _)⟩
              case round =>
                obtain ⟨q, hq, rfl, hQ⟩ := hrel
                have q0 : (0 : Int) ≤ (q : Int) := by omega
                have q8 : (q : Int) ≤ 8 := by omega
                by_cases hqn : q < n1
                · have q1 : (q : Int) < (n1 : Int) := by omega
                  obtain ⟨g1, rfl⟩ := HPA1.out (by omega)
                  obtain ⟨y1, hy1⟩ : ∃ y1, (scan S1.read 8)[q]? = some y1 := ⟨_, List.getElem?_eq_getElem (by have := HN1.out; omega)⟩
                  have hmem := List.mem_of_getElem? hy1
                  obtain ⟨qs, hqs⟩ : ∃ qs, strOf y1.sum = qs := ⟨_, rfl⟩
                  have HSS : Hid (∀ W, Below W13.heap.size W13 W → (W.cell? ⟨g1, q * 5, none⟩ = some (.int .i64 y1.kind) ∧ W.cell? ⟨g1, q * 5 + 1, none⟩ = some (.int .i64 y1.number) ∧ W.cell? ⟨g1, q * 5 + 2, none⟩ = some (.int .i64 y1.slot) ∧ W.cell? ⟨g1, q * 5 + 3, none⟩ = some (.int .i64 y1.size) ∧ W.cell? ⟨g1, q * 5 + 4, none⟩ = some (.string qs) ∧ W.cell? ⟨B9, 1, none⟩ = some (.int .i64 E.number) ∧ Below W13.heap.size W13 W)) := Lib.hid (fun W hb => by
                    have h := (HZ13.out.later hb).inv
                    have hr := h.1.1.1.2.1.at HN1.out hy1
                    rw [← hqs]
                    exact ⟨hr 0 _ rfl, hr 1 _ rfl, hr 2 _ rfl, hr 3 _ rfl, hr 4 _ rfl, h.1.1.1.1.2.2.cell1, hb⟩)
                  have hb1 : Below W13.heap.size W13 wr.drew := hQ.out.drew
                  have hS0 := HSS.out wr.drew hb1
                  have hK3 : Hid (∀ W1 W2, Below W1.heap.size W1 W2 → (W1.cell? ⟨g1, q * 5, none⟩ = some (.int .i64 y1.kind) ∧ W1.cell? ⟨g1, q * 5 + 1, none⟩ = some (.int .i64 y1.number) ∧ W1.cell? ⟨g1, q * 5 + 2, none⟩ = some (.int .i64 y1.slot) ∧ W1.cell? ⟨g1, q * 5 + 3, none⟩ = some (.int .i64 y1.size) ∧ W1.cell? ⟨g1, q * 5 + 4, none⟩ = some (.string qs) ∧ W1.cell? ⟨B9, 1, none⟩ = some (.int .i64 E.number) ∧ Below W13.heap.size W13 W1) → (W2.cell? ⟨g1, q * 5, none⟩ = some (.int .i64 y1.kind) ∧ W2.cell? ⟨g1, q * 5 + 1, none⟩ = some (.int .i64 y1.number) ∧ W2.cell? ⟨g1, q * 5 + 2, none⟩ = some (.int .i64 y1.slot) ∧ W2.cell? ⟨g1, q * 5 + 3, none⟩ = some (.int .i64 y1.size) ∧ W2.cell? ⟨g1, q * 5 + 4, none⟩ = some (.string qs) ∧ W2.cell? ⟨B9, 1, none⟩ = some (.int .i64 E.number) ∧ Below W13.heap.size W13 W2)) := Lib.hid (fun W1 W2 hb h => HSS.out W2 (chain2 h.2.2.2.2.2.2 hb))
                  have ew : IntKind.i64.wrap (E.number - 8) = E.number - 8 := IntWalk.i64_in _ (by have := HNB.out; omega)
                  by_cases hgt : E.number - 8 < y1.number
                  · have d1 : decide (E.number - 8 < y1.number) = true := decide_eq_true hgt
                    have CAM : Hid (∀ W, Below W13.heap.size W13 W → Calls Tryd.prog 34 #[v2, .agg #[.int .i64 y1.kind, .int .i64 y1.number, .int .i64 y1.slot, .int .i64 y1.size, .string qs]] W fun x w' => x = .returned (.bool true) ∧ Below W.heap.size W w') := Lib.hid (fun W hb => by
                      have := among_yes v2 (scan U.read 8) y1 (scan_length _ _) (HST.out y1 hmem hgt) W (HZ13.out.later hb).inv.2.1
                      rw [← hqs]
                      exact this)
                    clear hqs hmem hy1 HSS
                    go_wp2
                    go_region_held3 (fun W => W.cell? ⟨g1, q * 5, none⟩ = some (.int .i64 y1.kind) ∧ W.cell? ⟨g1, q * 5 + 1, none⟩ = some (.int .i64 y1.number) ∧ W.cell? ⟨g1, q * 5 + 2, none⟩ = some (.int .i64 y1.slot) ∧ W.cell? ⟨g1, q * 5 + 3, none⟩ = some (.int .i64 y1.size) ∧ W.cell? ⟨g1, q * 5 + 4, none⟩ = some (.string qs) ∧ W.cell? ⟨B9, 1, none⟩ = some (.int .i64 E.number) ∧ Below W13.heap.size W13 W) (first | assumption | exact hK3.out _ _ (by assumption) (by assumption)) (first
                      | (go_at_call 34; (with_reducible refine (CAM.out _ (by assumption)).mono ?_); rintro e W20 ⟨rfl, hb20⟩))
                    have HB20 := Lib.hid (chain2 hb1 hb20)
                    clear hS0 hK3 hb1 hb20
                    go_wp2
                    go_roundw
                    case rel => exact ⟨q + 1, by omega, by go_num, HB20⟩
                    case measure => simp [intOf]; omega
                  · have d1 : decide (E.number - 8 < y1.number) = false := decide_eq_false hgt
                    obtain ⟨e0, e1, e2, e3, e4, e5, -⟩ := HSS.out wr hQ.out
                    clear hqs hmem hy1 hgt HSS hS0 hK3 hb1 e0 e2 e3 e4
                    go_wp2
                    go_quiet (fail)
                    have HB20 := Lib.hid (chain2 hQ.out (below_drewQ wr nq))
                    clear e1 e5
                    go_wp2
                    go_roundw
                    case rel => exact ⟨q + 1, by omega, by go_num, HB20⟩
                    case measure => simp [intOf]; omega
                · obtain rfl : q = n1 := by omega
                  have HZQ := Lib.hid (HZ13.out.later hQ.out)
                  have HNX : Hid (CrW w (wr.setCells A 0 E.cells.toArray.toList) A (w.heap.size + 2) U) := Lib.hid (by
                    have h := HZQ.out.inv
                    refine ⟨(solo_wrote HZQ.out.solo (G := fun k => k = A) (Only.setCells (F := fun k => k = A) A rfl _ 0 wr (Only.refl _ _)) (fun i hi => by subst hi; exact ⟨.inl (.inl (.inl hPA5)), hAw⟩)).less (fun k hk => by subst hk; exact .inl (.inl (.inl hPA5))), ?_⟩
                    rw [HY1.out]
                    exact h.1.1.1.1.1.set E)
                  clear HZ13 hQ
                  go_wp2_with (first
                    | (refine wpList_load_mid rfl 47 (.tmp 14) rfl B14 0 rfl E.cells _ HZQ.out.inv.1.2.cells Tryd.underlying47 rfl (HIE.out _) ?_)
                    | (refine wpList_store_mid rfl 47 (.tmp 5) (.tmp 181) rfl A 0 E.cells.toArray rfl rfl HZQ.out.inv.1.1.1.1.1.room (e_infoA _) (e_all _) ?_; generalize World.setCells _ _ _ _ = W30 at HNX ⊢))
                  go_roundw
                  case rel => exact ⟨i + 1, U, by omega, by rw [HY2.out], by go_num, hOU, HNX⟩
                  case measure => simp [intOf]; omega
          · have hy : (lastE U).getD Ent.zero = x := by rw [hlu]; rw [HL1.out]; exact HXX.out
            have his : (lastE U).isSome = has := by rw [hlu]; rw [HL1.out]; exact HHAS.out
            clear hlu HL1 HXX HHAS
            cases has
            all_goals
              as_aux_lemma =>
                have HY1 := Lib.hid hy
                have HY2 := Lib.hid his
                clear hy his
                go_wp2_with fail
                refine (HZ.out.scan HHK.out hO1.on (by have := hO1.few; omega)).mono ?_
                rintro e W5 ⟨v1, rfl, hsc⟩
                have HZ5 := Lib.hid (HZ.out.addR hsc)
                obtain ⟨P5, hP5e, hPA5⟩ : ∃ P5 : Nat → Prop, (fun k => P3 k ∨ (W4.heap.size ≤ k ∧ k < W5.heap.size)) = P5 ∧ P5 A := ⟨_, rfl, .inl hPA⟩
                rw [hP5e] at HZ5
                clear hP5e
                obtain ⟨pa1, n1, cap1, rfl, hn1, hpa1⟩ := HZ5.out.inv.2.1.form3
                have hn8 : n1 ≤ 8 := by rw [hn1]; exact scan_length _ _
                have HN1 := Lib.hid hn1
                have HPA1 := Lib.hid hpa1
                clear hsc HZ hn1 hpa1
                have HN6 := Lib.hid (fun W => ebt_zero W 47)
                have HP6 := Lib.hid (fun W => ebt_put W 47 xx)
                have HP9 := Lib.hid (fun W => ebt_put W 47 x)
                go_wp2_with (first
                  | (refine wpList_load_mid rfl 47 (.tmp 9) rfl B9 0 rfl E.cells _ HZ5.out.inv.1.2.2.cells Tryd.underlying47 rfl (HIE.out _) ?_))
                refine (HZ5.out.app HHK.out E (by have := hO1.few; omega) (by have := hO1.few; omega) HCR.out.app).mono ?_
                rintro y W6 ⟨rfl, hz6, -⟩
                have HZ6 := Lib.hid hz6
                have HQ6 := Lib.hid (HP6.out W6)
                have HR6 := Lib.hid (HN6.out W6)
                clear hz6 HZ5
                go_wp2_with (first
                  | (refine wpList_store_mid rfl 47 (.tmp 12) (.tmp 79) rfl W6.heap.size 0 xx.cells.toArray rfl rfl HR6.out.room (e_infoA _) (e_all _) ?_; generalize World.setCells _ _ _ _ = W7 at HQ6 ⊢; have HZ7 := Lib.hid (HZ6.out.addE HQ6.out.2 rfl HQ6.out.1); clear HQ6 HR6 HZ6)
                  | fail)
                refine (HZ7.out.cut 1099511627776 0 (by decide) (by decide)).mono ?_
                rintro y W8 ⟨rfl, hz8, -⟩
                have HZ8 := Lib.hid hz8
                clear hz8 HZ7
                have c8 := HZ8.out.inv.1.1.2.1.c8
                go_wp2_with fail
                clear c8
                refine (HZ8.out.fail o.mask ho.mask HFEW.out).mono ?_
                rintro y W9 ⟨rfl, hz9, -⟩
                have HZ9 := Lib.hid hz9
                clear hz9 HZ8
                go_wp2_with fail
                refine HZ9.out.start.mono ?_
                rintro y W10 ⟨rfl, hz10, -⟩
                have HZ10 : Hid (Rnd w W10 _ (w.heap.size + 2) U _) := Lib.hid (by rw [← HU.out]; exact hz10)
                clear hz10 HZ9
                go_wp2_with fail
                refine (HZ10.out.last HHK.out hOU.on (by have := hOU.few; omega) HY1.out HY2.out).mono ?_
                rintro y W11 ⟨rfl, hb⟩
                have HZ11 := Lib.hid (HZ10.out.later hb)
                clear hb HZ10
                have HQ11 := Lib.hid (HP9.out W11)
                have HR11 := Lib.hid (HN6.out W11)
                go_wp2_with (first
                  | (refine wpList_store_mid rfl 47 (.tmp 14) (.tmp 107) rfl W11.heap.size 0 x.cells.toArray rfl rfl HR11.out.room (e_infoA _) (e_all _) ?_; generalize World.setCells _ _ _ _ = W12 at HQ11 ⊢; have HZ12 := Lib.hid (HZ11.out.addE HQ11.out.2 rfl HQ11.out.1); clear HQ11 HR11 HZ11))
                refine (HZ12.out.scan HHK.out hOU.on (by have := hOU.few; omega)).mono ?_
                rintro y W13 ⟨v2, rfl, hsc⟩
                have HZ13 := Lib.hid (HZ12.out.addR hsc)
                have HB13 : Hid (Below W12.heap.size W12 W13) := Lib.hid hsc.below
                clear hsc HZ12 HN6 HP6 HP9
                go_wp2_with (first
                  | (refine wpList_load_want (by rfl) 47 (.tmp 14) rfl W11.heap.size 0 rfl x.cells _ HZ13.out.inv.1.2.cells Tryd.underlying47 rfl (HIE.out _) ?_)
                  | (refine wpList_load_want (by rfl) 47 (.tmp 9) rfl B9 0 rfl E.cells _ HZ13.out.inv.1.1.1.1.2.2.cells Tryd.underlying47 rfl (HIE.out _) ?_)
                  | (refine wpList_load_want (by rfl) 47 (.tmp 5) rfl A 0 rfl x.cells _ HZ13.out.inv.1.1.1.1.1.cells Tryd.underlying47 rfl (HIE.out _) ?_)
                  | (refine wpList_eql (e := x) (f := E) (by rfl) (.tmp 140) (.tmp 141) rfl rfl rfl false hxE ?_)
                  | (refine wpList_neq (e := x) (f := x) (by rfl) (.tmp 151) (.tmp 152) rfl rfl rfl false (by simp) ?_))
                generalize W11.heap.size = B14 at HZ13 ⊢
                go_loopw [19] (fun vq wq => ∃ q : Nat, q ≤ n1 ∧ vq = .int .i64 q ∧ Hid (Below W13.heap.size W13 wq)) (fun vq _ => n1 - (intOf vq).toNat)
                case atStart => exact ⟨0, Nat.zero_le _, rfl, Lib.hid (Below.refl _ _)⟩
                case round =>
                  obtain ⟨q, hq, rfl, hQ⟩ := hrel
                  have q0 : (0 : Int) ≤ (q : Int) := by omega
                  have q8 : (q : Int) ≤ 8 := by omega
                  by_cases hqn : q < n1
                  · have q1 : (q : Int) < (n1 : Int) := by omega
                    obtain ⟨g1, rfl⟩ := HPA1.out (by omega)
                    obtain ⟨y1, hy1⟩ : ∃ y1, (scan S1.read 8)[q]? = some y1 := ⟨_, List.getElem?_eq_getElem (by have := HN1.out; omega)⟩
                    have hmem := List.mem_of_getElem? hy1
                    obtain ⟨qs, hqs⟩ : ∃ qs, strOf y1.sum = qs := ⟨_, rfl⟩
                    have HSS : Hid (∀ W, Below W13.heap.size W13 W → (W.cell? ⟨g1, q * 5, none⟩ = some (.int .i64 y1.kind) ∧ W.cell? ⟨g1, q * 5 + 1, none⟩ = some (.int .i64 y1.number) ∧ W.cell? ⟨g1, q * 5 + 2, none⟩ = some (.int .i64 y1.slot) ∧ W.cell? ⟨g1, q * 5 + 3, none⟩ = some (.int .i64 y1.size) ∧ W.cell? ⟨g1, q * 5 + 4, none⟩ = some (.string qs) ∧ W.cell? ⟨B9, 1, none⟩ = some (.int .i64 E.number) ∧ Below W13.heap.size W13 W)) := Lib.hid (fun W hb => by
                      have h := (HZ13.out.later hb).inv
                      have hr := h.1.1.1.2.1.at HN1.out hy1
                      rw [← hqs]
                      exact ⟨hr 0 _ rfl, hr 1 _ rfl, hr 2 _ rfl, hr 3 _ rfl, hr 4 _ rfl, h.1.1.1.1.2.2.cell1, hb⟩)
                    have hb1 : Below W13.heap.size W13 wr.drew := hQ.out.drew
                    have hS0 := HSS.out wr.drew hb1
                    have hK3 : Hid (∀ W1 W2, Below W1.heap.size W1 W2 → (W1.cell? ⟨g1, q * 5, none⟩ = some (.int .i64 y1.kind) ∧ W1.cell? ⟨g1, q * 5 + 1, none⟩ = some (.int .i64 y1.number) ∧ W1.cell? ⟨g1, q * 5 + 2, none⟩ = some (.int .i64 y1.slot) ∧ W1.cell? ⟨g1, q * 5 + 3, none⟩ = some (.int .i64 y1.size) ∧ W1.cell? ⟨g1, q * 5 + 4, none⟩ = some (.string qs) ∧ W1.cell? ⟨B9, 1, none⟩ = some (.int .i64 E.number) ∧ Below W13.heap.size W13 W1) → (W2.cell? ⟨g1, q * 5, none⟩ = some (.int .i64 y1.kind) ∧ W2.cell? ⟨g1, q * 5 + 1, none⟩ = some (.int .i64 y1.number) ∧ W2.cell? ⟨g1, q * 5 + 2, none⟩ = some (.int .i64 y1.slot) ∧ W2.cell? ⟨g1, q * 5 + 3, none⟩ = some (.int .i64 y1.size) ∧ W2.cell? ⟨g1, q * 5 + 4, none⟩ = some (.string qs) ∧ W2.cell? ⟨B9, 1, none⟩ = some (.int .i64 E.number) ∧ Below W13.heap.size W13 W2)) := Lib.hid (fun W1 W2 hb h => HSS.out W2 (chain2 h.2.2.2.2.2.2 hb))
                    have ew : IntKind.i64.wrap (E.number - 8) = E.number - 8 := IntWalk.i64_in _ (by have := HNB.out; omega)
                    by_cases hgt : E.number - 8 < y1.number
                    · have d1 : decide (E.number - 8 < y1.number) = true := decide_eq_true hgt
                      have CAM : Hid (∀ W, Below W13.heap.size W13 W → Calls Tryd.prog 34 #[v2, .agg #[.int .i64 y1.kind, .int .i64 y1.number, .int .i64 y1.slot, .int .i64 y1.size, .string qs]] W fun x w' => x = .returned (.bool true) ∧ Below W.heap.size W w') := Lib.hid (fun W hb => by
                        have := among_yes v2 (scan U.read 8) y1 (scan_length _ _) (HST.out y1 hmem hgt) W (HZ13.out.later hb).inv.2.1
                        rw [← hqs]
                        exact this)
                      clear hqs hmem hy1 HSS
                      go_wp2
                      go_region_held3 (fun W => W.cell? ⟨g1, q * 5, none⟩ = some (.int .i64 y1.kind) ∧ W.cell? ⟨g1, q * 5 + 1, none⟩ = some (.int .i64 y1.number) ∧ W.cell? ⟨g1, q * 5 + 2, none⟩ = some (.int .i64 y1.slot) ∧ W.cell? ⟨g1, q * 5 + 3, none⟩ = some (.int .i64 y1.size) ∧ W.cell? ⟨g1, q * 5 + 4, none⟩ = some (.string qs) ∧ W.cell? ⟨B9, 1, none⟩ = some (.int .i64 E.number) ∧ Below W13.heap.size W13 W) (first | assumption | exact hK3.out _ _ (by assumption) (by assumption)) (first
                        | (go_at_call 34; (with_reducible refine (CAM.out _ (by assumption)).mono ?_); rintro e W20 ⟨rfl, hb20⟩))
                      have HB20 := Lib.hid (chain2 hb1 hb20)
                      clear hS0 hK3 hb1 hb20
                      go_wp2
                      go_roundw
                      case rel => exact ⟨q + 1, by omega, by go_num, HB20⟩
                      case measure => simp [intOf]; omega
                    · have d1 : decide (E.number - 8 < y1.number) = false := decide_eq_false hgt
                      obtain ⟨e0, e1, e2, e3, e4, e5, -⟩ := HSS.out wr hQ.out
                      clear hqs hmem hy1 hgt HSS hS0 hK3 hb1 e0 e2 e3 e4
                      go_wp2
                      go_quiet (fail)
                      have HB20 := Lib.hid (chain2 hQ.out (below_drewQ wr nq))
                      clear e1 e5
                      go_wp2
                      go_roundw
                      case rel => exact ⟨q + 1, by omega, by go_num, HB20⟩
                      case measure => simp [intOf]; omega
                  · obtain rfl : q = n1 := by omega
                    have HZQ := Lib.hid (HZ13.out.later hQ.out)
                    have HNX : Hid (CrW w (wr.setCells A 0 x.cells.toArray.toList) A (w.heap.size + 2) U) := Lib.hid (by
                      have h := HZQ.out.inv
                      refine ⟨(solo_wrote HZQ.out.solo (G := fun k => k = A) (Only.setCells (F := fun k => k = A) A rfl _ 0 wr (Only.refl _ _)) (fun i hi => by subst hi; exact ⟨.inl (.inl (.inl hPA5)), hAw⟩)).less (fun k hk => by subst hk; exact .inl (.inl (.inl hPA5))), ?_⟩
                      rw [HY1.out]
                      exact h.1.1.1.1.1.set x)
                    clear HZ13 hQ
                    go_wp2_with (first
                      | (refine wpList_load_mid rfl 47 (.tmp 14) rfl B14 0 rfl x.cells _ HZQ.out.inv.1.2.cells Tryd.underlying47 rfl (HIE.out _) ?_)
                      | (refine wpList_store_mid rfl 47 (.tmp 5) (.tmp 181) rfl A 0 x.cells.toArray rfl rfl HZQ.out.inv.1.1.1.1.1.room (e_infoA _) (e_all _) ?_; generalize World.setCells _ _ _ _ = W30 at HNX ⊢))
                    go_roundw
                    case rel => exact ⟨i + 1, U, by omega, by rw [HY2.out], by go_num, hOU, HNX⟩
                    case measure => simp [intOf]; omega
        · have t2 : decide (o.kind = 2) = false := decide_eq_false hk2
          have t3 : (o.kind == 2) = false := by simpa using hk2
          have HZ := HR3
          have hO1 := hO
          have hl1 : lastE S = lastE S := rfl
          have hlN1 : lastN S = lastN S := rfl
          clear HR3
          obtain ⟨S1, hS1⟩ : ∃ S1, S = S1 := ⟨_, rfl⟩
          rw [hS1] at HZ hO1
          replace hl1 : lastE S1 = lastE S := by rw [← hS1]
          replace hlN1 : lastN S1 = lastN S := by rw [← hS1]
          clear hS1
          obtain ⟨W4, hW4⟩ : ∃ W4, W3 = W4 := ⟨_, rfl⟩
          rw [hW4] at HZ c0 ⊢
          clear hW4
          have HXX := Lib.hid hX
          have HHAS := Lib.hid hx
          have HXE := Lib.hid hXE
          have HNB : Hid (0 ≤ E.number ∧ E.number ≤ 41) := Lib.hid (by omega)
          have HL1 := Lib.hid hl1
          clear CC3 CC2 CSM HEC HOI y1 y2 y3 y4 b3a b3b b2a b2b
          obtain ⟨xx, f, hCR, hOU⟩ := cr_step (m := o.mask) hO1 (by omega) (e := E) (by rw [hXE, HXN.out, hlN1]) HVAL.out
          have HCR := Lib.hid hCR
          have hcode := hCR.code
          have hap := app_cases hO1.ok hO1.on hO1.wait (e := E) (by rw [hXE, HXN.out, hlN1]) HVAL.out (k := (E.number % 8).toNat) (by have := HXN.out; omega)
          have HFEW : Hid (((DS.app S1 E).1.plan 1099511627776 0).c ≤ 2 ^ 40) := Lib.hid (by have h1 := hap.2.2.2.1; have h2 := hO1.few; show (DS.app S1 E).1.c ≤ _; omega)
          clear hCR hap
          obtain ⟨U, hU⟩ : ∃ U, crU (DS.app S1 E).1 o.mask = U := ⟨_, rfl⟩
          have HST := Lib.hid HCR.out.stay
          rw [hU] at hOU hcode HST
          have HU : Hid ((((DS.app S1 E).1.plan 1099511627776 0).fail o.mask).start = U) := Lib.hid hU
          clear hU hX hx hXE hl1 hlN1 bN hlN hkk hkk3
          rcases hcode with ⟨rfl, hxx, hlu⟩ | ⟨rfl, hlu | hlu⟩
          · have hy : (lastE U).getD Ent.zero = E := by rw [hlu]; rfl
            have his : (lastE U).isSome = true := by rw [hlu]; rfl
            clear hlu HL1 HXX HHAS
            rw [hxx] at HCR
            clear hxx
            as_aux_lemma =>
              have HY1 := Lib.hid hy
              have HY2 := Lib.hid his
              clear hy his
              go_wp2_with fail
              refine (HZ.out.scan HHK.out hO1.on (by have := hO1.few; omega)).mono ?_
              rintro e W5 ⟨v1, rfl, hsc⟩
              have HZ5 := Lib.hid (HZ.out.addR hsc)
              obtain ⟨P5, hP5e, hPA5⟩ : ∃ P5 : Nat → Prop, (fun k => P3 k ∨ (W4.heap.size ≤ k ∧ k < W5.heap.size)) = P5 ∧ P5 A := ⟨_, rfl, .inl hPA⟩
              rw [hP5e] at HZ5
              clear hP5e
              obtain ⟨pa1, n1, cap1, rfl, hn1, hpa1⟩ := HZ5.out.inv.2.1.form3
              have hn8 : n1 ≤ 8 := by rw [hn1]; exact scan_length _ _
              have HN1 := Lib.hid hn1
              have HPA1 := Lib.hid hpa1
              clear hsc HZ hn1 hpa1
              have HN6 := Lib.hid (fun W => ebt_zero W 47)
              have HP6 := Lib.hid (fun W => ebt_put W 47 E)
              have HP9 := Lib.hid (fun W => ebt_put W 47 E)
              go_wp2_with (first
                | (refine wpList_load_mid rfl 47 (.tmp 9) rfl B9 0 rfl E.cells _ HZ5.out.inv.1.2.2.cells Tryd.underlying47 rfl (HIE.out _) ?_))
              refine (HZ5.out.app HHK.out E (by have := hO1.few; omega) (by have := hO1.few; omega) HCR.out.app).mono ?_
              rintro y W6 ⟨rfl, hz6, -⟩
              have HZ6 := Lib.hid hz6
              have HQ6 := Lib.hid (HP6.out W6)
              have HR6 := Lib.hid (HN6.out W6)
              clear hz6 HZ5
              go_wp2_with (first
                | (refine wpList_store_mid rfl 47 (.tmp 12) (.tmp 79) rfl W6.heap.size 0 E.cells.toArray rfl rfl HR6.out.room (e_infoA _) (e_all _) ?_; generalize World.setCells _ _ _ _ = W7 at HQ6 ⊢; have HZ7 := Lib.hid (HZ6.out.addE HQ6.out.2 rfl HQ6.out.1); clear HQ6 HR6 HZ6)
                | (refine wpList_load_want (by rfl) 47 (.tmp 12) rfl W6.heap.size 0 rfl E.cells _ HZ7.out.inv.2.cells Tryd.underlying47 rfl (HIE.out _) ?_)
                | (refine wpList_load_want (by rfl) 47 (.tmp 9) rfl B9 0 rfl E.cells _ HZ7.out.inv.1.1.2.2.cells Tryd.underlying47 rfl (HIE.out _) ?_)
                | (refine wpList_neq (e := E) (f := E) (by rfl) (.tmp 84) (.tmp 85) rfl rfl rfl false (by simp) ?_)
                | fail)
              refine (HZ7.out.cut 1099511627776 0 (by decide) (by decide)).mono ?_
              rintro y W8 ⟨rfl, hz8, -⟩
              have HZ8 := Lib.hid hz8
              clear hz8 HZ7
              have c8 := HZ8.out.inv.1.1.2.1.c8
              go_wp2_with fail
              clear c8
              refine (HZ8.out.fail o.mask ho.mask HFEW.out).mono ?_
              rintro y W9 ⟨rfl, hz9, -⟩
              have HZ9 := Lib.hid hz9
              clear hz9 HZ8
              go_wp2_with fail
              refine HZ9.out.start.mono ?_
              rintro y W10 ⟨rfl, hz10, -⟩
              have HZ10 : Hid (Rnd w W10 _ (w.heap.size + 2) U _) := Lib.hid (by rw [← HU.out]; exact hz10)
              clear hz10 HZ9
              go_wp2_with fail
              refine (HZ10.out.last HHK.out hOU.on (by have := hOU.few; omega) HY1.out HY2.out).mono ?_
              rintro y W11 ⟨rfl, hb⟩
              have HZ11 := Lib.hid (HZ10.out.later hb)
              clear hb HZ10
              have HQ11 := Lib.hid (HP9.out W11)
              have HR11 := Lib.hid (HN6.out W11)
              go_wp2_with (first
                | (refine wpList_store_mid rfl 47 (.tmp 14) (.tmp 107) rfl W11.heap.size 0 E.cells.toArray rfl rfl HR11.out.room (e_infoA _) (e_all _) ?_; generalize World.setCells _ _ _ _ = W12 at HQ11 ⊢; have HZ12 := Lib.hid (HZ11.out.addE HQ11.out.2 rfl HQ11.out.1); clear HQ11 HR11 HZ11))
              refine (HZ12.out.scan HHK.out hOU.on (by have := hOU.few; omega)).mono ?_
              rintro y W13 ⟨v2, rfl, hsc⟩
              have HZ13 := Lib.hid (HZ12.out.addR hsc)
              have HB13 : Hid (Below W12.heap.size W12 W13) := Lib.hid hsc.below
              clear hsc HZ12 HN6 HP6 HP9
              go_wp2_with (first
                | (refine wpList_load_want (by rfl) 47 (.tmp 14) rfl W11.heap.size 0 rfl E.cells _ HZ13.out.inv.1.2.cells Tryd.underlying47 rfl (HIE.out _) ?_)
                | (refine wpList_load_want (by rfl) 47 (.tmp 9) rfl B9 0 rfl E.cells _ HZ13.out.inv.1.1.1.1.2.2.cells Tryd.underlying47 rfl (HIE.out _) ?_)
                | (refine wpList_load_want (by rfl) 47 (.tmp 5) rfl A 0 rfl x.cells _ HZ13.out.inv.1.1.1.1.1.cells Tryd.underlying47 rfl (HIE.out _) ?_)
                | (refine wpList_neq (e := E) (f := E) (by rfl) (.tmp 128) (.tmp 129) rfl rfl rfl false (by simp) ?_))
              generalize W11.heap.size = B14 at HZ13 ⊢
              go_loopw [19] (fun vq wq => ∃ q : Nat, q ≤ n1 ∧ vq = .int .i64 q ∧ Hid (Below W13.heap.size W13 wq)) (fun vq _ => n1 - (intOf vq).toNat)
              case atStart => exact ⟨0, Nat.zero_le _, rfl, Lib.hid (Below.refl _ _)⟩
              case round =>
                obtain ⟨q, hq, rfl, hQ⟩ := hrel
                have q0 : (0 : Int) ≤ (q : Int) := by omega
                have q8 : (q : Int) ≤ 8 := by omega
                by_cases hqn : q < n1
                · have q1 : (q : Int) < (n1 : Int) := by omega
                  obtain ⟨g1, rfl⟩ := HPA1.out (by omega)
                  obtain ⟨y1, hy1⟩ : ∃ y1, (scan S1.read 8)[q]? = some y1 := ⟨_, List.getElem?_eq_getElem (by have := HN1.out; omega)⟩
                  have hmem := List.mem_of_getElem? hy1
                  obtain ⟨qs, hqs⟩ : ∃ qs, strOf y1.sum = qs := ⟨_, rfl⟩
                  have HSS : Hid (∀ W, Below W13.heap.size W13 W → (W.cell? ⟨g1, q * 5, none⟩ = some (.int .i64 y1.kind) ∧ W.cell? ⟨g1, q * 5 + 1, none⟩ = some (.int .i64 y1.number) ∧ W.cell? ⟨g1, q * 5 + 2, none⟩ = some (.int .i64 y1.slot) ∧ W.cell? ⟨g1, q * 5 + 3, none⟩ = some (.int .i64 y1.size) ∧ W.cell? ⟨g1, q * 5 + 4, none⟩ = some (.string qs) ∧ W.cell? ⟨B9, 1, none⟩ = some (.int .i64 E.number) ∧ Below W13.heap.size W13 W)) := Lib.hid (fun W hb => by
                    have h := (HZ13.out.later hb).inv
                    have hr := h.1.1.1.2.1.at HN1.out hy1
                    rw [← hqs]
                    exact ⟨hr 0 _ rfl, hr 1 _ rfl, hr 2 _ rfl, hr 3 _ rfl, hr 4 _ rfl, h.1.1.1.1.2.2.cell1, hb⟩)
                  have hb1 : Below W13.heap.size W13 wr.drew := hQ.out.drew
                  have hS0 := HSS.out wr.drew hb1
                  have hK3 : Hid (∀ W1 W2, Below W1.heap.size W1 W2 → (W1.cell? ⟨g1, q * 5, none⟩ = some (.int .i64 y1.kind) ∧ W1.cell? ⟨g1, q * 5 + 1, none⟩ = some (.int .i64 y1.number) ∧ W1.cell? ⟨g1, q * 5 + 2, none⟩ = some (.int .i64 y1.slot) ∧ W1.cell? ⟨g1, q * 5 + 3, none⟩ = some (.int .i64 y1.size) ∧ W1.cell? ⟨g1, q * 5 + 4, none⟩ = some (.string qs) ∧ W1.cell? ⟨B9, 1, none⟩ = some (.int .i64 E.number) ∧ Below W13.heap.size W13 W1) → (W2.cell? ⟨g1, q * 5, none⟩ = some (.int .i64 y1.kind) ∧ W2.cell? ⟨g1, q * 5 + 1, none⟩ = some (.int .i64 y1.number) ∧ W2.cell? ⟨g1, q * 5 + 2, none⟩ = some (.int .i64 y1.slot) ∧ W2.cell? ⟨g1, q * 5 + 3, none⟩ = some (.int .i64 y1.size) ∧ W2.cell? ⟨g1, q * 5 + 4, none⟩ = some (.string qs) ∧ W2.cell? ⟨B9, 1, none⟩ = some (.int .i64 E.number) ∧ Below W13.heap.size W13 W2)) := Lib.hid (fun W1 W2 hb h => HSS.out W2 (chain2 h.2.2.2.2.2.2 hb))
                  have ew : IntKind.i64.wrap (E.number - 8) = E.number - 8 := IntWalk.i64_in _ (by have := HNB.out; omega)
                  by_cases hgt : E.number - 8 < y1.number
                  · have d1 : decide (E.number - 8 < y1.number) = true := decide_eq_true hgt
                    have CAM : Hid (∀ W, Below W13.heap.size W13 W → Calls Tryd.prog 34 #[v2, .agg #[.int .i64 y1.kind, .int .i64 y1.number, .int .i64 y1.slot, .int .i64 y1.size, .string qs]] W fun x w' => x = .returned (.bool true) ∧ Below W.heap.size W w') := Lib.hid (fun W hb => by
                      have := among_yes v2 (scan U.read 8) y1 (scan_length _ _) (HST.out y1 hmem hgt) W (HZ13.out.later hb).inv.2.1
                      rw [← hqs]
                      exact this)
                    clear hqs hmem hy1 HSS
                    go_wp2
                    go_region_held3 (fun W => W.cell? ⟨g1, q * 5, none⟩ = some (.int .i64 y1.kind) ∧ W.cell? ⟨g1, q * 5 + 1, none⟩ = some (.int .i64 y1.number) ∧ W.cell? ⟨g1, q * 5 + 2, none⟩ = some (.int .i64 y1.slot) ∧ W.cell? ⟨g1, q * 5 + 3, none⟩ = some (.int .i64 y1.size) ∧ W.cell? ⟨g1, q * 5 + 4, none⟩ = some (.string qs) ∧ W.cell? ⟨B9, 1, none⟩ = some (.int .i64 E.number) ∧ Below W13.heap.size W13 W) (first | assumption | exact hK3.out _ _ (by assumption) (by assumption)) (first
                      | (go_at_call 34; (with_reducible refine (CAM.out _ (by assumption)).mono ?_); rintro e W20 ⟨rfl, hb20⟩))
                    have HB20 := Lib.hid (chain2 hb1 hb20)
                    clear hS0 hK3 hb1 hb20
                    go_wp2
                    go_roundw
                    case rel => exact ⟨q + 1, by omega, by go_num, HB20⟩
                    case measure => simp [intOf]; omega
                  · have d1 : decide (E.number - 8 < y1.number) = false := decide_eq_false hgt
                    obtain ⟨e0, e1, e2, e3, e4, e5, -⟩ := HSS.out wr hQ.out
                    clear hqs hmem hy1 hgt HSS hS0 hK3 hb1 e0 e2 e3 e4
                    go_wp2
                    go_quiet (fail)
                    have HB20 := Lib.hid (chain2 hQ.out (below_drewQ wr nq))
                    clear e1 e5
                    go_wp2
                    go_roundw
                    case rel => exact ⟨q + 1, by omega, by go_num, HB20⟩
                    case measure => simp [intOf]; omega
                · obtain rfl : q = n1 := by omega
                  have HZQ := Lib.hid (HZ13.out.later hQ.out)
                  have HNX : Hid (CrW w (wr.setCells A 0 E.cells.toArray.toList) A (w.heap.size + 2) U) := Lib.hid (by
                    have h := HZQ.out.inv
                    refine ⟨(solo_wrote HZQ.out.solo (G := fun k => k = A) (Only.setCells (F := fun k => k = A) A rfl _ 0 wr (Only.refl _ _)) (fun i hi => by subst hi; exact ⟨.inl (.inl (.inl hPA5)), hAw⟩)).less (fun k hk => by subst hk; exact .inl (.inl (.inl hPA5))), ?_⟩
                    rw [HY1.out]
                    exact h.1.1.1.1.1.set E)
                  clear HZ13 hQ
                  go_wp2_with (first
                    | (refine wpList_load_mid rfl 47 (.tmp 14) rfl B14 0 rfl E.cells _ HZQ.out.inv.1.2.cells Tryd.underlying47 rfl (HIE.out _) ?_)
                    | (refine wpList_store_mid rfl 47 (.tmp 5) (.tmp 181) rfl A 0 E.cells.toArray rfl rfl HZQ.out.inv.1.1.1.1.1.room (e_infoA _) (e_all _) ?_; generalize World.setCells _ _ _ _ = W30 at HNX ⊢))
                  go_roundw
                  case rel => exact ⟨i + 1, U, by omega, by rw [HY2.out], by go_num, hOU, HNX⟩
                  case measure => simp [intOf]; omega
          · have hy : (lastE U).getD Ent.zero = E := by rw [hlu]; rfl
            have his : (lastE U).isSome = true := by rw [hlu]; rfl
            clear hlu HL1 HXX HHAS
            as_aux_lemma =>
              have HY1 := Lib.hid hy
              have HY2 := Lib.hid his
              clear hy his
              go_wp2_with fail
              refine (HZ.out.scan HHK.out hO1.on (by have := hO1.few; omega)).mono ?_
              rintro e W5 ⟨v1, rfl, hsc⟩
              have HZ5 := Lib.hid (HZ.out.addR hsc)
              obtain ⟨P5, hP5e, hPA5⟩ : ∃ P5 : Nat → Prop, (fun k => P3 k ∨ (W4.heap.size ≤ k ∧ k < W5.heap.size)) = P5 ∧ P5 A := ⟨_, rfl, .inl hPA⟩
              rw [hP5e] at HZ5
              clear hP5e
              obtain ⟨pa1, n1, cap1, rfl, hn1, hpa1⟩ := HZ5.out.inv.2.1.form3
              have hn8 : n1 ≤ 8 := by rw [hn1]; exact scan_length _ _
              have HN1 := Lib.hid hn1
              have HPA1 := Lib.hid hpa1
              clear hsc HZ hn1 hpa1
              have HN6 := Lib.hid (fun W => ebt_zero W 47)
              have HP6 := Lib.hid (fun W => ebt_put W 47 xx)
              have HP9 := Lib.hid (fun W => ebt_put W 47 E)
              go_wp2_with (first
                | (refine wpList_load_mid rfl 47 (.tmp 9) rfl B9 0 rfl E.cells _ HZ5.out.inv.1.2.2.cells Tryd.underlying47 rfl (HIE.out _) ?_))
              refine (HZ5.out.app HHK.out E (by have := hO1.few; omega) (by have := hO1.few; omega) HCR.out.app).mono ?_
              rintro y W6 ⟨rfl, hz6, -⟩
              have HZ6 := Lib.hid hz6
              have HQ6 := Lib.hid (HP6.out W6)
              have HR6 := Lib.hid (HN6.out W6)
              clear hz6 HZ5
              go_wp2_with (first
                | (refine wpList_store_mid rfl 47 (.tmp 12) (.tmp 79) rfl W6.heap.size 0 xx.cells.toArray rfl rfl HR6.out.room (e_infoA _) (e_all _) ?_; generalize World.setCells _ _ _ _ = W7 at HQ6 ⊢; have HZ7 := Lib.hid (HZ6.out.addE HQ6.out.2 rfl HQ6.out.1); clear HQ6 HR6 HZ6)
                | fail)
              refine (HZ7.out.cut 1099511627776 0 (by decide) (by decide)).mono ?_
              rintro y W8 ⟨rfl, hz8, -⟩
              have HZ8 := Lib.hid hz8
              clear hz8 HZ7
              have c8 := HZ8.out.inv.1.1.2.1.c8
              go_wp2_with fail
              clear c8
              refine (HZ8.out.fail o.mask ho.mask HFEW.out).mono ?_
              rintro y W9 ⟨rfl, hz9, -⟩
              have HZ9 := Lib.hid hz9
              clear hz9 HZ8
              go_wp2_with fail
              refine HZ9.out.start.mono ?_
              rintro y W10 ⟨rfl, hz10, -⟩
              have HZ10 : Hid (Rnd w W10 _ (w.heap.size + 2) U _) := Lib.hid (by rw [← HU.out]; exact hz10)
              clear hz10 HZ9
              go_wp2_with fail
              refine (HZ10.out.last HHK.out hOU.on (by have := hOU.few; omega) HY1.out HY2.out).mono ?_
              rintro y W11 ⟨rfl, hb⟩
              have HZ11 := Lib.hid (HZ10.out.later hb)
              clear hb HZ10
              have HQ11 := Lib.hid (HP9.out W11)
              have HR11 := Lib.hid (HN6.out W11)
              go_wp2_with (first
                | (refine wpList_store_mid rfl 47 (.tmp 14) (.tmp 107) rfl W11.heap.size 0 E.cells.toArray rfl rfl HR11.out.room (e_infoA _) (e_all _) ?_; generalize World.setCells _ _ _ _ = W12 at HQ11 ⊢; have HZ12 := Lib.hid (HZ11.out.addE HQ11.out.2 rfl HQ11.out.1); clear HQ11 HR11 HZ11))
              refine (HZ12.out.scan HHK.out hOU.on (by have := hOU.few; omega)).mono ?_
              rintro y W13 ⟨v2, rfl, hsc⟩
              have HZ13 := Lib.hid (HZ12.out.addR hsc)
              have HB13 : Hid (Below W12.heap.size W12 W13) := Lib.hid hsc.below
              clear hsc HZ12 HN6 HP6 HP9
              go_wp2_with (first
                | (refine wpList_load_want (by rfl) 47 (.tmp 14) rfl W11.heap.size 0 rfl E.cells _ HZ13.out.inv.1.2.cells Tryd.underlying47 rfl (HIE.out _) ?_)
                | (refine wpList_load_want (by rfl) 47 (.tmp 9) rfl B9 0 rfl E.cells _ HZ13.out.inv.1.1.1.1.2.2.cells Tryd.underlying47 rfl (HIE.out _) ?_)
                | (refine wpList_load_want (by rfl) 47 (.tmp 5) rfl A 0 rfl x.cells _ HZ13.out.inv.1.1.1.1.1.cells Tryd.underlying47 rfl (HIE.out _) ?_)
                | (refine wpList_eql (e := E) (f := E) (by rfl) (.tmp 140) (.tmp 141) rfl rfl rfl true (by simp) ?_))
              generalize W11.heap.size = B14 at HZ13 ⊢
              go_loopw [19] (fun vq wq => ∃ q : Nat, q ≤ n1 ∧ vq = .int .i64 q ∧ Hid (Below W13.heap.size W13 wq)) (fun vq _ => n1 - (intOf vq).toNat)
              case atStart => exact ⟨0, Nat.zero_le _, rfl, Lib.hid (Below.refl _ _)⟩
              case round =>
                obtain ⟨q, hq, rfl, hQ⟩ := hrel
                have q0 : (0 : Int) ≤ (q : Int) := by omega
                have q8 : (q : Int) ≤ 8 := by omega
                by_cases hqn : q < n1
                · have q1 : (q : Int) < (n1 : Int) := by omega
                  obtain ⟨g1, rfl⟩ := HPA1.out (by omega)
                  obtain ⟨y1, hy1⟩ : ∃ y1, (scan S1.read 8)[q]? = some y1 := ⟨_, List.getElem?_eq_getElem (by have := HN1.out; omega)⟩
                  have hmem := List.mem_of_getElem? hy1
                  obtain ⟨qs, hqs⟩ : ∃ qs, strOf y1.sum = qs := ⟨_, rfl⟩
                  have HSS : Hid (∀ W, Below W13.heap.size W13 W → (W.cell? ⟨g1, q * 5, none⟩ = some (.int .i64 y1.kind) ∧ W.cell? ⟨g1, q * 5 + 1, none⟩ = some (.int .i64 y1.number) ∧ W.cell? ⟨g1, q * 5 + 2, none⟩ = some (.int .i64 y1.slot) ∧ W.cell? ⟨g1, q * 5 + 3, none⟩ = some (.int .i64 y1.size) ∧ W.cell? ⟨g1, q * 5 + 4, none⟩ = some (.string qs) ∧ W.cell? ⟨B9, 1, none⟩ = some (.int .i64 E.number) ∧ Below W13.heap.size W13 W)) := Lib.hid (fun W hb => by
                    have h := (HZ13.out.later hb).inv
                    have hr := h.1.1.1.2.1.at HN1.out hy1
                    rw [← hqs]
                    exact ⟨hr 0 _ rfl, hr 1 _ rfl, hr 2 _ rfl, hr 3 _ rfl, hr 4 _ rfl, h.1.1.1.1.2.2.cell1, hb⟩)
                  have hb1 : Below W13.heap.size W13 wr.drew := hQ.out.drew
                  have hS0 := HSS.out wr.drew hb1
                  have hK3 : Hid (∀ W1 W2, Below W1.heap.size W1 W2 → (W1.cell? ⟨g1, q * 5, none⟩ = some (.int .i64 y1.kind) ∧ W1.cell? ⟨g1, q * 5 + 1, none⟩ = some (.int .i64 y1.number) ∧ W1.cell? ⟨g1, q * 5 + 2, none⟩ = some (.int .i64 y1.slot) ∧ W1.cell? ⟨g1, q * 5 + 3, none⟩ = some (.int .i64 y1.size) ∧ W1.cell? ⟨g1, q * 5 + 4, none⟩ = some (.string qs) ∧ W1.cell? ⟨B9, 1, none⟩ = some (.int .i64 E.number) ∧ Below W13.heap.size W13 W1) → (W2.cell? ⟨g1, q * 5, none⟩ = some (.int .i64 y1.kind) ∧ W2.cell? ⟨g1, q * 5 + 1, none⟩ = some (.int .i64 y1.number) ∧ W2.cell? ⟨g1, q * 5 + 2, none⟩ = some (.int .i64 y1.slot) ∧ W2.cell? ⟨g1, q * 5 + 3, none⟩ = some (.int .i64 y1.size) ∧ W2.cell? ⟨g1, q * 5 + 4, none⟩ = some (.string qs) ∧ W2.cell? ⟨B9, 1, none⟩ = some (.int .i64 E.number) ∧ Below W13.heap.size W13 W2)) := Lib.hid (fun W1 W2 hb h => HSS.out W2 (chain2 h.2.2.2.2.2.2 hb))
                  have ew : IntKind.i64.wrap (E.number - 8) = E.number - 8 := IntWalk.i64_in _ (by have := HNB.out; omega)
                  by_cases hgt : E.number - 8 < y1.number
                  · have d1 : decide (E.number - 8 < y1.number) = true := decide_eq_true hgt
                    have CAM : Hid (∀ W, Below W13.heap.size W13 W → Calls Tryd.prog 34 #[v2, .agg #[.int .i64 y1.kind, .int .i64 y1.number, .int .i64 y1.slot, .int .i64 y1.size, .string qs]] W fun x w' => x = .returned (.bool true) ∧ Below W.heap.size W w') := Lib.hid (fun W hb => by
                      have := among_yes v2 (scan U.read 8) y1 (scan_length _ _) (HST.out y1 hmem hgt) W (HZ13.out.later hb).inv.2.1
                      rw [← hqs]
                      exact this)
                    clear hqs hmem hy1 HSS
                    go_wp2
                    go_region_held3 (fun W => W.cell? ⟨g1, q * 5, none⟩ = some (.int .i64 y1.kind) ∧ W.cell? ⟨g1, q * 5 + 1, none⟩ = some (.int .i64 y1.number) ∧ W.cell? ⟨g1, q * 5 + 2, none⟩ = some (.int .i64 y1.slot) ∧ W.cell? ⟨g1, q * 5 + 3, none⟩ = some (.int .i64 y1.size) ∧ W.cell? ⟨g1, q * 5 + 4, none⟩ = some (.string qs) ∧ W.cell? ⟨B9, 1, none⟩ = some (.int .i64 E.number) ∧ Below W13.heap.size W13 W) (first | assumption | exact hK3.out _ _ (by assumption) (by assumption)) (first
                      | (go_at_call 34; (with_reducible refine (CAM.out _ (by assumption)).mono ?_); rintro e W20 ⟨rfl, hb20⟩))
                    have HB20 := Lib.hid (chain2 hb1 hb20)
                    clear hS0 hK3 hb1 hb20
                    go_wp2
                    go_roundw
                    case rel => exact ⟨q + 1, by omega, by go_num, HB20⟩
                    case measure => simp [intOf]; omega
                  · have d1 : decide (E.number - 8 < y1.number) = false := decide_eq_false hgt
                    obtain ⟨e0, e1, e2, e3, e4, e5, -⟩ := HSS.out wr hQ.out
                    clear hqs hmem hy1 hgt HSS hS0 hK3 hb1 e0 e2 e3 e4
                    go_wp2
                    go_quiet (fail)
                    have HB20 := Lib.hid (chain2 hQ.out (below_drewQ wr nq))
                    clear e1 e5
                    go_wp2
                    go_roundw
                    case rel => exact ⟨q + 1, by omega, by go_num, HB20⟩
                    case measure => simp [intOf]; omega
                · obtain rfl : q = n1 := by omega
                  have HZQ := Lib.hid (HZ13.out.later hQ.out)
                  have HNX : Hid (CrW w (wr.setCells A 0 E.cells.toArray.toList) A (w.heap.size + 2) U) := Lib.hid (by
                    have h := HZQ.out.inv
                    refine ⟨(solo_wrote HZQ.out.solo (G := fun k => k = A) (Only.setCells (F := fun k => k = A) A rfl _ 0 wr (Only.refl _ _)) (fun i hi => by subst hi; exact ⟨.inl (.inl (.inl hPA5)), hAw⟩)).less (fun k hk => by subst hk; exact .inl (.inl (.inl hPA5))), ?_⟩
                    rw [HY1.out]
                    exact h.1.1.1.1.1.set E)
                  clear HZ13 hQ
                  go_wp2_with (first
                    | (refine wpList_load_mid rfl 47 (.tmp 14) rfl B14 0 rfl E.cells _ HZQ.out.inv.1.2.cells Tryd.underlying47 rfl (HIE.out _) ?_)
                    | (refine wpList_store_mid rfl 47 (.tmp 5) (.tmp 181) rfl A 0 E.cells.toArray rfl rfl HZQ.out.inv.1.1.1.1.1.room (e_infoA _) (e_all _) ?_; generalize World.setCells _ _ _ _ = W30 at HNX ⊢))
                  go_roundw
                  case rel => exact ⟨i + 1, U, by omega, by rw [HY2.out], by go_num, hOU, HNX⟩
                  case measure => simp [intOf]; omega
          · have hy : (lastE U).getD Ent.zero = x := by rw [hlu]; rw [HL1.out]; exact HXX.out
            have his : (lastE U).isSome = has := by rw [hlu]; rw [HL1.out]; exact HHAS.out
            clear hlu HL1 HXX HHAS
            cases has
            all_goals
              as_aux_lemma =>
                have HY1 := Lib.hid hy
                have HY2 := Lib.hid his
                clear hy his
                go_wp2_with fail
                refine (HZ.out.scan HHK.out hO1.on (by have := hO1.few; omega)).mono ?_
                rintro e W5 ⟨v1, rfl, hsc⟩
                have HZ5 := Lib.hid (HZ.out.addR hsc)
                obtain ⟨P5, hP5e, hPA5⟩ : ∃ P5 : Nat → Prop, (fun k => P3 k ∨ (W4.heap.size ≤ k ∧ k < W5.heap.size)) = P5 ∧ P5 A := ⟨_, rfl, .inl hPA⟩
                rw [hP5e] at HZ5
                clear hP5e
                obtain ⟨pa1, n1, cap1, rfl, hn1, hpa1⟩ := HZ5.out.inv.2.1.form3
                have hn8 : n1 ≤ 8 := by rw [hn1]; exact scan_length _ _
                have HN1 := Lib.hid hn1
                have HPA1 := Lib.hid hpa1
                clear hsc HZ hn1 hpa1
                have HN6 := Lib.hid (fun W => ebt_zero W 47)
                have HP6 := Lib.hid (fun W => ebt_put W 47 xx)
                have HP9 := Lib.hid (fun W => ebt_put W 47 x)
                go_wp2_with (first
                  | (refine wpList_load_mid rfl 47 (.tmp 9) rfl B9 0 rfl E.cells _ HZ5.out.inv.1.2.2.cells Tryd.underlying47 rfl (HIE.out _) ?_))
                refine (HZ5.out.app HHK.out E (by have := hO1.few; omega) (by have := hO1.few; omega) HCR.out.app).mono ?_
                rintro y W6 ⟨rfl, hz6, -⟩
                have HZ6 := Lib.hid hz6
                have HQ6 := Lib.hid (HP6.out W6)
                have HR6 := Lib.hid (HN6.out W6)
                clear hz6 HZ5
                go_wp2_with (first
                  | (refine wpList_store_mid rfl 47 (.tmp 12) (.tmp 79) rfl W6.heap.size 0 xx.cells.toArray rfl rfl HR6.out.room (e_infoA _) (e_all _) ?_; generalize World.setCells _ _ _ _ = W7 at HQ6 ⊢; have HZ7 := Lib.hid (HZ6.out.addE HQ6.out.2 rfl HQ6.out.1); clear HQ6 HR6 HZ6)
                  | fail)
                refine (HZ7.out.cut 1099511627776 0 (by decide) (by decide)).mono ?_
                rintro y W8 ⟨rfl, hz8, -⟩
                have HZ8 := Lib.hid hz8
                clear hz8 HZ7
                have c8 := HZ8.out.inv.1.1.2.1.c8
                go_wp2_with fail
                clear c8
                refine (HZ8.out.fail o.mask ho.mask HFEW.out).mono ?_
                rintro y W9 ⟨rfl, hz9, -⟩
                have HZ9 := Lib.hid hz9
                clear hz9 HZ8
                go_wp2_with fail
                refine HZ9.out.start.mono ?_
                rintro y W10 ⟨rfl, hz10, -⟩
                have HZ10 : Hid (Rnd w W10 _ (w.heap.size + 2) U _) := Lib.hid (by rw [← HU.out]; exact hz10)
                clear hz10 HZ9
                go_wp2_with fail
                refine (HZ10.out.last HHK.out hOU.on (by have := hOU.few; omega) HY1.out HY2.out).mono ?_
                rintro y W11 ⟨rfl, hb⟩
                have HZ11 := Lib.hid (HZ10.out.later hb)
                clear hb HZ10
                have HQ11 := Lib.hid (HP9.out W11)
                have HR11 := Lib.hid (HN6.out W11)
                go_wp2_with (first
                  | (refine wpList_store_mid rfl 47 (.tmp 14) (.tmp 107) rfl W11.heap.size 0 x.cells.toArray rfl rfl HR11.out.room (e_infoA _) (e_all _) ?_; generalize World.setCells _ _ _ _ = W12 at HQ11 ⊢; have HZ12 := Lib.hid (HZ11.out.addE HQ11.out.2 rfl HQ11.out.1); clear HQ11 HR11 HZ11))
                refine (HZ12.out.scan HHK.out hOU.on (by have := hOU.few; omega)).mono ?_
                rintro y W13 ⟨v2, rfl, hsc⟩
                have HZ13 := Lib.hid (HZ12.out.addR hsc)
                have HB13 : Hid (Below W12.heap.size W12 W13) := Lib.hid hsc.below
                clear hsc HZ12 HN6 HP6 HP9
                go_wp2_with (first
                  | (refine wpList_load_want (by rfl) 47 (.tmp 14) rfl W11.heap.size 0 rfl x.cells _ HZ13.out.inv.1.2.cells Tryd.underlying47 rfl (HIE.out _) ?_)
                  | (refine wpList_load_want (by rfl) 47 (.tmp 9) rfl B9 0 rfl E.cells _ HZ13.out.inv.1.1.1.1.2.2.cells Tryd.underlying47 rfl (HIE.out _) ?_)
                  | (refine wpList_load_want (by rfl) 47 (.tmp 5) rfl A 0 rfl x.cells _ HZ13.out.inv.1.1.1.1.1.cells Tryd.underlying47 rfl (HIE.out _) ?_)
                  | (refine wpList_eql (e := x) (f := E) (by rfl) (.tmp 140) (.tmp 141) rfl rfl rfl false hxE ?_)
                  | (refine wpList_neq (e := x) (f := x) (by rfl) (.tmp 151) (.tmp 152) rfl rfl rfl false (by simp) ?_))
                generalize W11.heap.size = B14 at HZ13 ⊢
                go_loopw [19] (fun vq wq => ∃ q : Nat, q ≤ n1 ∧ vq = .int .i64 q ∧ Hid (Below W13.heap.size W13 wq)) (fun vq _ => n1 - (intOf vq).toNat)
                case atStart => exact ⟨0, Nat.zero_le _, rfl, Lib.hid (Below.refl _ _)⟩
                case round =>
                  obtain ⟨q, hq, rfl, hQ⟩ := hrel
                  have q0 : (0 : Int) ≤ (q : Int) := by omega
                  have q8 : (q : Int) ≤ 8 := by omega
                  by_cases hqn : q < n1
                  · have q1 : (q : Int) < (n1 : Int) := by omega
                    obtain ⟨g1, rfl⟩ := HPA1.out (by omega)
                    obtain ⟨y1, hy1⟩ : ∃ y1, (scan S1.read 8)[q]? = some y1 := ⟨_, List.getElem?_eq_getElem (by have := HN1.out; omega)⟩
                    have hmem := List.mem_of_getElem? hy1
                    obtain ⟨qs, hqs⟩ : ∃ qs, strOf y1.sum = qs := ⟨_, rfl⟩
                    have HSS : Hid (∀ W, Below W13.heap.size W13 W → (W.cell? ⟨g1, q * 5, none⟩ = some (.int .i64 y1.kind) ∧ W.cell? ⟨g1, q * 5 + 1, none⟩ = some (.int .i64 y1.number) ∧ W.cell? ⟨g1, q * 5 + 2, none⟩ = some (.int .i64 y1.slot) ∧ W.cell? ⟨g1, q * 5 + 3, none⟩ = some (.int .i64 y1.size) ∧ W.cell? ⟨g1, q * 5 + 4, none⟩ = some (.string qs) ∧ W.cell? ⟨B9, 1, none⟩ = some (.int .i64 E.number) ∧ Below W13.heap.size W13 W)) := Lib.hid (fun W hb => by
                      have h := (HZ13.out.later hb).inv
                      have hr := h.1.1.1.2.1.at HN1.out hy1
                      rw [← hqs]
                      exact ⟨hr 0 _ rfl, hr 1 _ rfl, hr 2 _ rfl, hr 3 _ rfl, hr 4 _ rfl, h.1.1.1.1.2.2.cell1, hb⟩)
                    have hb1 : Below W13.heap.size W13 wr.drew := hQ.out.drew
                    have hS0 := HSS.out wr.drew hb1
                    have hK3 : Hid (∀ W1 W2, Below W1.heap.size W1 W2 → (W1.cell? ⟨g1, q * 5, none⟩ = some (.int .i64 y1.kind) ∧ W1.cell? ⟨g1, q * 5 + 1, none⟩ = some (.int .i64 y1.number) ∧ W1.cell? ⟨g1, q * 5 + 2, none⟩ = some (.int .i64 y1.slot) ∧ W1.cell? ⟨g1, q * 5 + 3, none⟩ = some (.int .i64 y1.size) ∧ W1.cell? ⟨g1, q * 5 + 4, none⟩ = some (.string qs) ∧ W1.cell? ⟨B9, 1, none⟩ = some (.int .i64 E.number) ∧ Below W13.heap.size W13 W1) → (W2.cell? ⟨g1, q * 5, none⟩ = some (.int .i64 y1.kind) ∧ W2.cell? ⟨g1, q * 5 + 1, none⟩ = some (.int .i64 y1.number) ∧ W2.cell? ⟨g1, q * 5 + 2, none⟩ = some (.int .i64 y1.slot) ∧ W2.cell? ⟨g1, q * 5 + 3, none⟩ = some (.int .i64 y1.size) ∧ W2.cell? ⟨g1, q * 5 + 4, none⟩ = some (.string qs) ∧ W2.cell? ⟨B9, 1, none⟩ = some (.int .i64 E.number) ∧ Below W13.heap.size W13 W2)) := Lib.hid (fun W1 W2 hb h => HSS.out W2 (chain2 h.2.2.2.2.2.2 hb))
                    have ew : IntKind.i64.wrap (E.number - 8) = E.number - 8 := IntWalk.i64_in _ (by have := HNB.out; omega)
                    by_cases hgt : E.number - 8 < y1.number
                    · have d1 : decide (E.number - 8 < y1.number) = true := decide_eq_true hgt
                      have CAM : Hid (∀ W, Below W13.heap.size W13 W → Calls Tryd.prog 34 #[v2, .agg #[.int .i64 y1.kind, .int .i64 y1.number, .int .i64 y1.slot, .int .i64 y1.size, .string qs]] W fun x w' => x = .returned (.bool true) ∧ Below W.heap.size W w') := Lib.hid (fun W hb => by
                        have := among_yes v2 (scan U.read 8) y1 (scan_length _ _) (HST.out y1 hmem hgt) W (HZ13.out.later hb).inv.2.1
                        rw [← hqs]
                        exact this)
                      clear hqs hmem hy1 HSS
                      go_wp2
                      go_region_held3 (fun W => W.cell? ⟨g1, q * 5, none⟩ = some (.int .i64 y1.kind) ∧ W.cell? ⟨g1, q * 5 + 1, none⟩ = some (.int .i64 y1.number) ∧ W.cell? ⟨g1, q * 5 + 2, none⟩ = some (.int .i64 y1.slot) ∧ W.cell? ⟨g1, q * 5 + 3, none⟩ = some (.int .i64 y1.size) ∧ W.cell? ⟨g1, q * 5 + 4, none⟩ = some (.string qs) ∧ W.cell? ⟨B9, 1, none⟩ = some (.int .i64 E.number) ∧ Below W13.heap.size W13 W) (first | assumption | exact hK3.out _ _ (by assumption) (by assumption)) (first
                        | (go_at_call 34; (with_reducible refine (CAM.out _ (by assumption)).mono ?_); rintro e W20 ⟨rfl, hb20⟩))
                      have HB20 := Lib.hid (chain2 hb1 hb20)
                      clear hS0 hK3 hb1 hb20
                      go_wp2
                      go_roundw
                      case rel => exact ⟨q + 1, by omega, by go_num, HB20⟩
                      case measure => simp [intOf]; omega
                    · have d1 : decide (E.number - 8 < y1.number) = false := decide_eq_false hgt
                      obtain ⟨e0, e1, e2, e3, e4, e5, -⟩ := HSS.out wr hQ.out
                      clear hqs hmem hy1 hgt HSS hS0 hK3 hb1 e0 e2 e3 e4
                      go_wp2
                      go_quiet (fail)
                      have HB20 := Lib.hid (chain2 hQ.out (below_drewQ wr nq))
                      clear e1 e5
                      go_wp2
                      go_roundw
                      case rel => exact ⟨q + 1, by omega, by go_num, HB20⟩
                      case measure => simp [intOf]; omega
                  · obtain rfl : q = n1 := by omega
                    have HZQ := Lib.hid (HZ13.out.later hQ.out)
                    have HNX : Hid (CrW w (wr.setCells A 0 x.cells.toArray.toList) A (w.heap.size + 2) U) := Lib.hid (by
                      have h := HZQ.out.inv
                      refine ⟨(solo_wrote HZQ.out.solo (G := fun k => k = A) (Only.setCells (F := fun k => k = A) A rfl _ 0 wr (Only.refl _ _)) (fun i hi => by subst hi; exact ⟨.inl (.inl (.inl hPA5)), hAw⟩)).less (fun k hk => by subst hk; exact .inl (.inl (.inl hPA5))), ?_⟩
                      rw [HY1.out]
                      exact h.1.1.1.1.1.set x)
                    clear HZ13 hQ
                    go_wp2_with (first
                      | (refine wpList_load_mid rfl 47 (.tmp 14) rfl B14 0 rfl x.cells _ HZQ.out.inv.1.2.cells Tryd.underlying47 rfl (HIE.out _) ?_)
                      | (refine wpList_store_mid rfl 47 (.tmp 5) (.tmp 181) rfl A 0 x.cells.toArray rfl rfl HZQ.out.inv.1.1.1.1.1.room (e_infoA _) (e_all _) ?_; generalize World.setCells _ _ _ _ = W30 at HNX ⊢))
                    go_roundw
                    case rel => exact ⟨i + 1, U, by omega, by rw [HY2.out], by go_num, hOU, HNX⟩
                    case measure => simp [intOf]; omega
    · have HB := Lib.hid hI.out.solo.below
      clear hI
      generalize (lastE S).isSome = has
      by_cases hlen : i < len
      · obtain rfl : i = 40 := by omega
        rw [show ((40 : Nat) : Int) = 40 from rfl]
        have z1 : (40 : Int) < (len : Int) := by omega
        go_wp2_with fail
        refine (known5 _ (HHK.out.later HB.out)).mono ?_
        rintro e w3 ⟨rfl, hb⟩
        have HZ := Lib.hid (chain2 HB.out hb)
        clear hb
        go_wp2
        go_ret
        exact ⟨rfl, HZ.out⟩
      · have t0 : decide ((i : Int) < (len : Int)) = false := decide_eq_false (by omega)
        have t1 : decide (i < len) = false := decide_eq_false hlen
        go_wp2_with fail
        refine (known5 _ (HHK.out.later HB.out)).mono ?_
        rintro e w3 ⟨rfl, hb⟩
        have HZ := Lib.hid (chain2 HB.out hb)
        clear hb
        go_wp2
        go_ret
        exact ⟨rfl, HZ.out⟩

end Go.Proofs.YthddiijnomhpfaaDoor.Rg
