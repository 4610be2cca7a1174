/- The walk of RingPlays: it returns true (printed by gen_rgpw.py). No condition but those that each states. -/
import Derived.Test.YtkplmaaeggnbgaaDoorRgPH
namespace Go.Proofs.YtkplmaaeggnbgaaDoor.Rg
open Go.RowKit Dk

/-- The cells of an operation that are asked for, one by one. -/
def PlO (W : World) (B : Nat) (o : OpC) : Prop := W.cell? ⟨B, 6, none⟩ = some (.int .i64 o.i) ∧ W.cell? ⟨B, 7, none⟩ = some (.string o.s) ∧ W.cell? ⟨B, 8, none⟩ = some (.int .u64 (o.mask : Int)) ∧ OB W B o
theorem plO {W : World} {B : Nat} {o : OpC} (h : OB W B o) : PlO W B o := ⟨h.c6, h.c7, h.c8, h⟩
theorem plO_only {W W' : World} {B : Nat} {o : OpC} (h : PlO W B o) (k : Only (fun k => ¬(k = B)) W W') : PlO W' B o := plO (h.2.2.2.only k (fun e => e rfl))

/-- .. and the program's answer in block A. -/
structure PlA (w W : World) (b0 A g r : Nat) (T S : DS) (o : OpC) (x : Ent) : Prop where
  pair : Pair w W (fun k => k = b0 ∨ k = A) g r T S
  op : OB W b0 o
  a : EB W A x
section
variable {w W W' : World} {b0 A g r : Nat} {S T S' T' : DS} {o : OpC} {x : Ent}
theorem plA_new (h : PlX w W b0 g r T S o) (k : Below W.heap.size W W') (hx : EB W' W.heap.size x) : PlA w W' b0 W.heap.size g r T S o x :=
  ⟨h.pair.fresh (D := fun i => i = W.heap.size) k (fun i hi => ⟨Nat.le_of_eq hi.symm, by subst hi; exact hx.lt⟩), h.op.later k, hx⟩
theorem PlA.next (h : PlA w W b0 A g r T S o x) (h2 : Pair w W' (fun k => k = b0 ∨ k = A) g r T' S') (k : Only (fun k => ¬(k = b0 ∨ k = A)) W W') : PlA w W' b0 A g r T' S' o x :=
  ⟨h2, h.op.only k (fun e => e (.inl rfl)), h.a.only k (fun e => e (.inr rfl))⟩
theorem PlA.plX (h : PlA w W b0 A g r T S o x) : PlX w W b0 g r T S o := ⟨h.pair.less (fun _ e => .inl e), h.op⟩
end

set_option maxHeartbeats 40000000 in
set_option maxRecDepth 100000 in
theorem plays_law (pa : Option Addr) (len cap : Nat) (hl : len ≤ maxLen) (w : World) (HK : HasK w) (hc : ∀ j, j < len → ∃ (b off : Nat) (o : OpC), pa = some ⟨b, off, none⟩ ∧ b < w.heap.size ∧ o.Ok ∧ w.rangeAt b (off + j * 9) o.cells) :
    Calls Tryd.prog 4 #[.slice pa len cap] w fun e w' => e = .returned (.bool true) ∧ Below w.heap.size w w' := by
  unfold maxLen at hl
  have HC := Lib.hid hc
  have HHK := Lib.hid HK
  clear hc HK
  have CN : Hid (Calls Tryd.prog 14 #[.int .i64 16] w fun e w' => e = .returned (.tuple #[.pointer (some ⟨w.heap.size + 2, 0, none⟩), .int .i64 0]) ∧ DiskAt w' (fun k => w.heap.size ≤ k) (w.heap.size + 2) (new 16) ∧ Below w.heap.size w w') := Lib.hid (new_ok_any 16 (by decide) (by decide) w)
  have CM : Hid (∀ W, Calls Tryd.prog 15 #[.int .i64 16] W fun e w' => e = .returned (.tuple #[.pointer (some ⟨W.heap.size, 0, none⟩), .int .i64 0]) ∧ RefAt w' (fun k => W.heap.size ≤ k) W.heap.size (new 16) ∧ Below W.heap.size W w') := Lib.hid (fun W => ref_new_ok 16 (by decide) (by decide) W)
  go_enter Tryd.func4, Tryd.ntmps4
  go_wp2_with fail
  refine CN.out.mono ?_
  rintro e w1 ⟨rfl, hd1, hb1⟩
  have H1 := Lib.hid (And.intro hd1 hb1)
  clear hd1 hb1
  go_wp2_with fail
  refine (CM.out w1).mono ?_
  rintro e w2 ⟨rfl, hr2, hb2⟩
  have HP := Lib.hid (pair_new 16 H1.out.1 H1.out.2 hr2 hb2)
  generalize w1.heap.size = r at HP ⊢
  generalize w.heap.size + 2 = g at HP ⊢
  clear hr2 hb2 H1 CN CM
  go_wp2
  go_loopw [7] (fun vi wr => ∃ (i : Nat) (S : DS), i ≤ 40 ∧ vi = .int .i64 i ∧ Hid (Pair w wr (fun _ => False) g r S S) ∧ S.c ≤ i ∧ S.ops ≤ 2 * i) (fun vi _ => 40 - (intOf vi).toNat)
  case atStart => exact ⟨0, _, Nat.zero_le _, rfl, HP, Nat.zero_le _, Nat.zero_le _⟩
  case round =>
    clear HP
    obtain ⟨i, S, hi, rfl, hI, hSc, hSo⟩ := hrel
    have z0 : (0 : Int) ≤ (i : Int) := by omega
    by_cases hgo : i < len ∧ i < 40
    · obtain ⟨hlen, h40⟩ := hgo
      have z1 : (i : Int) < (len : Int) := by omega
      have z2 : (i : Int) < 40 := by omega
      obtain ⟨b, off, o, rfl, hb, ho, hr⟩ := HC.out i hlen
      have HRO : Hid (wr.rangeAt b (off + i * 9) o.cells) := Lib.hid (rangeAt_block hr (hI.out.below.block b hb))
      have HOI := Lib.hid (oc_info o)
      have HPUT := Lib.hid (ob_put wr o)
      have HROOM := Lib.hid (ob_room wr)
      have hok := pair_ok hI.out
      have hki := wf_i64 ho.i
      have hsz : (strOf o.e.sum).size = o.e.sum.length := strOf_size _
      clear hr hb
      by_cases hl1 : 1000 < o.e.sum.length
      · have u0 : decide ((1000 : Int) < (o.e.sum.length : Int)) = true := decide_eq_true (by omega)
        have u1 : decide (1000 < o.e.sum.length) = true := decide_eq_true (by omega)
        go_wp2_with (first
          | (refine wpList_load_mid rfl 46 _ rfl b (off + i * 9) rfl o.cells _ HRO.out Tryd.underlying46 rfl HOI.out ?_)
          | (refine wpList_store_mid rfl 46 (.tmp 8) (.tmp 50) rfl wr.heap.size 0 o.cells.toArray rfl rfl HROOM.out (oc_infoA o) (oc_all o) ?_; generalize World.setCells _ _ _ _ = W2 at HPUT ⊢
             have hop := HPUT.out.1
             have c0 := hop.c0
             have c5 := hop.c5
             have c7 := hop.c7
             have c8 := hop.c8
             have HX := Lib.hid (PlX.mk ((hI.out.fresh (D := fun i => i = wr.heap.size) HPUT.out.2 (fun i hi => ⟨Nat.le_of_eq hi.symm, by subst hi; exact hop.lt⟩)).less (fun k hk => .inr hk)) hop)
             clear hop HPUT HROOM HRO hI HOI
             generalize wr.heap.size = b0 at c0 c5 c7 c8 HX ⊢
             generalize strOf o.e.sum = q at c5 hsz))
        clear c0 c5 c7 c8
        go_roundw
        case rel => exact ⟨i + 1, S, by omega, by go_num, Lib.hid HX.out.less, by omega, by omega⟩
        case measure => simp [intOf]; omega
      · by_cases hl2 : 1000 < o.s.size
        · have u0 : decide ((1000 : Int) < (o.e.sum.length : Int)) = false := decide_eq_false (by omega)
          have u1 : decide (1000 < o.e.sum.length) = false := decide_eq_false (by omega)
          have u2 : decide ((1000 : Int) < (o.s.size : Int)) = true := decide_eq_true (by omega)
          have u3 : decide (1000 < o.s.size) = true := decide_eq_true (by omega)
          go_wp2_with (first
            | (refine wpList_load_mid rfl 46 _ rfl b (off + i * 9) rfl o.cells _ HRO.out Tryd.underlying46 rfl HOI.out ?_)
            | (refine wpList_store_mid rfl 46 (.tmp 8) (.tmp 50) rfl wr.heap.size 0 o.cells.toArray rfl rfl HROOM.out (oc_infoA o) (oc_all o) ?_; generalize World.setCells _ _ _ _ = W2 at HPUT ⊢
               have hop := HPUT.out.1
               have c0 := hop.c0
               have c5 := hop.c5
               have c7 := hop.c7
               have c8 := hop.c8
               have HX := Lib.hid (PlX.mk ((hI.out.fresh (D := fun i => i = wr.heap.size) HPUT.out.2 (fun i hi => ⟨Nat.le_of_eq hi.symm, by subst hi; exact hop.lt⟩)).less (fun k hk => .inr hk)) hop)
               clear hop HPUT HROOM HRO hI HOI
               generalize wr.heap.size = b0 at c0 c5 c7 c8 HX ⊢
               generalize strOf o.e.sum = q at c5 hsz))
          clear c0 c5 c7 c8
          go_roundw
          case rel => exact ⟨i + 1, S, by omega, by go_num, Lib.hid HX.out.less, by omega, by omega⟩
          case measure => simp [intOf]; omega
        · have u0 : decide ((1000 : Int) < (o.e.sum.length : Int)) = false := decide_eq_false (by omega)
          have u1 : decide (1000 < o.e.sum.length) = false := decide_eq_false (by omega)
          have u2 : decide ((1000 : Int) < (o.s.size : Int)) = false := decide_eq_false (by omega)
          have u3 : decide (1000 < o.s.size) = false := decide_eq_false (by omega)
          by_cases h0 : o.kind = 0
          · have t0 : decide (o.kind = 0) = true := decide_eq_true h0
            have s0 : (o.kind == 0) = true := by simpa using h0
            go_wp2_with (first
              | (refine wpList_load_mid rfl 46 _ rfl b (off + i * 9) rfl o.cells _ HRO.out Tryd.underlying46 rfl HOI.out ?_)
              | (refine wpList_store_mid rfl 46 (.tmp 8) (.tmp 50) rfl wr.heap.size 0 o.cells.toArray rfl rfl HROOM.out (oc_infoA o) (oc_all o) ?_; generalize World.setCells _ _ _ _ = W2 at HPUT ⊢
                 have hop := HPUT.out.1
                 have c0 := hop.c0
                 have c5 := hop.c5
                 have c7 := hop.c7
                 have c8 := hop.c8
                 have HX := Lib.hid (PlX.mk ((hI.out.fresh (D := fun i => i = wr.heap.size) HPUT.out.2 (fun i hi => ⟨Nat.le_of_eq hi.symm, by subst hi; exact hop.lt⟩)).less (fun k hk => .inr hk)) hop)
                 clear hop HPUT HROOM HRO hI HOI
                 generalize wr.heap.size = b0 at c0 c5 c7 c8 HX ⊢
                 generalize strOf o.e.sum = q at c5 hsz)
              | (refine wpList_load_mid rfl 43 (.tmp 68) rfl b0 1 rfl o.e.cells _ HX.out.op.ent Tryd.underlying43 rfl (ref_info o.e) ?_))
            as_aux_lemma =>
              have CAD := Lib.hid (fun W (h : Pair w W (fun k => k = b0) g r S S) => pair_appD h HHK.out o.e (by omega) (by omega))
              have CAR := Lib.hid (fun W T A (h : Pair w W (fun k => k = b0 ∨ k = A) g r T S) => pair_appR h hok o.e (by omega) (by omega))
              have hfew : (DS.app S o.e).1.c ≤ i + 1 ∧ (DS.app S o.e).1.ops ≤ 2 * (i + 1) := by have := app_few S o.e; omega
              generalize (DS.app S o.e).2.1 = X0 at CAD CAR
              generalize (DS.app S o.e).2.2 = f0 at CAD CAR
              generalize (DS.app S o.e).1 = T at CAD CAR hfew
              have HIE := Lib.hid (ref_info o.e)
              clear c0 c5 c7 c8
              refine (given_any o.e _).mono ?_
              rintro y w3 ⟨rfl, hb⟩
              have HX3 := Lib.hid (HX.out.later hb)
              clear hb HX
              go_wp2_with fail
              refine (CAD.out _ HX3.out.pair).mono ?_
              rintro y w4 ⟨rfl, hp, ho2⟩
              have HX4 := Lib.hid (HX3.out.next hp ho2)
              clear hp ho2 HX3 CAD
              have HZ4 := Lib.hid (ebt_zero w4 47)
              have HP4 := Lib.hid (ebt_put w4 47 X0)
              go_wp2_with (first
                | (refine wpList_store_mid rfl 47 (.tmp 9) (.tmp 72) rfl w4.heap.size 0 X0.cells.toArray rfl rfl HZ4.out.room (e_infoA _) (e_all _) ?_; generalize World.setCells _ _ _ _ = W5 at HP4 ⊢; have HX5 := Lib.hid (plA_new HX4.out HP4.out.2 HP4.out.1); clear HP4 HZ4 HX4)
                | (refine wpList_load_mid rfl 43 (.tmp 76) rfl b0 1 rfl o.e.cells _ HX5.out.op.ent Tryd.underlying43 rfl HIE.out ?_))
              refine (CAR.out _ _ _ HX5.out.pair).mono ?_
              rintro y w6 ⟨rfl, hp, ho2⟩
              have HX6 := Lib.hid (HX5.out.next hp ho2)
              clear hp ho2 HX5 CAR
              have HZ6 := Lib.hid (ebt_zero w6 43)
              have HP6 := Lib.hid (ebt_put w6 43 X0)
              go_wp2_with (first
                | (refine wpList_store_mid rfl 43 (.tmp 11) (.tmp 79) rfl w6.heap.size 0 X0.cells.toArray rfl rfl HZ6.out.room (ref_infoA _) (e_all _) ?_; generalize World.setCells _ _ _ _ = W7 at HP6 ⊢; have HE7 := Lib.hid (show PlE w W7 b0 g r w4.heap.size w6.heap.size T T o X0 X0 from ⟨HX6.out.plX.later HP6.out.2, HX6.out.a.later HP6.out.2, HP6.out.1⟩); clear HP6 HZ6 HX6))
              generalize w4.heap.size = A0 at HE7 ⊢
              generalize w6.heap.size = B0 at HE7 ⊢
              have hS7 : PlE w W7.drew b0 g r A0 B0 T T o X0 X0 := HE7.out.later ⟨rfl, rfl, rfl, Nat.le_refl _, fun _ _ => rfl⟩
              clear HE7
              have CTK0 : Hid (∀ W, Calls Tryd.prog 19 #[.agg X0.cells.toArray] W fun y w' => y = .returned (.agg X0.cells.toArray) ∧ Below W.heap.size W w') := Lib.hid (fun W => taken_any X0 W)
              refine wp_region_noPanic (wp_region_held_drew (S := fun W => PlE w W b0 g r A0 B0 T T o X0 X0) (by kernel_rfl) hS7 (fun hHeld => ?_))
              refine wpAnyH_take (i := 0) (v := .agg X0.cells.toArray) rfl (by kernel_rfl) (by kernel_rfl) (by kernel_rfl) (fun _ _ _ h => h) (Or.inl ⟨by rfl, ?_⟩) (by assumption) ?_
              · intro w' hSw
                exact exec_load_mid 47 (.tmp 9) rfl A0 (0) rfl X0.cells _ hSw.a.cells Tryd.underlying47 rfl (e_info X0)
              simp only [Act.put, List.getElem_toArray, List.getElem_cons_zero, List.setIfInBounds_toArray, List.set_cons_zero, List.set_cons_succ]
              refine wpAnyH_take (i := 2) (v := .agg X0.cells.toArray) rfl (by kernel_rfl) (by kernel_rfl) (by kernel_rfl) (fun _ _ _ h => h) (Or.inl ⟨by rfl, ?_⟩) (by assumption) ?_
              · intro w' hSw
                exact exec_load_mid 43 (.tmp 11) rfl B0 (0) rfl X0.cells _ hSw.b.cells Tryd.underlying43 rfl (ref_info X0)
              simp only [Act.put, List.getElem_toArray, List.getElem_cons_succ, List.getElem_cons_zero, List.setIfInBounds_toArray, List.set_cons_zero, List.set_cons_succ]
              refine wpAnyH_all (rs := [1]) (by kernel_rfl) (by simp) (fun q hq => ?_)
              obtain rfl := List.mem_singleton.1 hq
              clear hq
              refine wpOp_wp rfl (by rfl) (fun K' hK => ?_)
              go_simp
              refine (CTK0.out _).mono ?_
              rintro y W8 ⟨rfl, hb⟩
              have hS8 := hS7.later hb
              refine hK.out _ _ ⟨hS8, ?_⟩
              clear hb
              clear hK K'
              try simp only [Act.put, List.getElem_toArray, List.getElem_cons_succ, List.getElem_cons_zero, List.setIfInBounds_toArray, List.set_cons_zero, List.set_cons_succ]
              refine wpAnyH_take (i := 3) (v := .bool false) rfl (by kernel_rfl) (by kernel_rfl) (by kernel_rfl) (fun _ _ _ h => h) (Or.inl ⟨by rfl, ?_⟩) (by assumption) ?_
              · intro w' hSw
                exact exec_same (e := X0) rfl rfl rfl
              simp only [Act.put, List.getElem_toArray, List.getElem_cons_succ, List.getElem_cons_zero, List.setIfInBounds_toArray, List.set_cons_zero, List.set_cons_succ]
              refine wpAnyH_take (i := 4) (v := ?_) rfl (by kernel_rfl) (by kernel_rfl) (by kernel_rfl) (fun _ _ _ h => h) (Or.inl ⟨by rfl, ?_⟩) (by assumption) ?_
              rotate_left
              · intro w' hSw
                go_simp
                first | done | with_reducible rfl
              simp only [Act.put, List.getElem_toArray, List.getElem_cons_succ, List.getElem_cons_zero, List.setIfInBounds_toArray, List.set_cons_zero, List.set_cons_succ]
              refine wpAnyH_take (i := 5) (v := ?_) rfl (by kernel_rfl) (by kernel_rfl) (by kernel_rfl) (fun _ _ _ h => h) (Or.inl ⟨by rfl, ?_⟩) (by assumption) ?_
              rotate_left
              · intro w' hSw
                go_simp
                first | done | with_reducible rfl
              simp only [Act.put, List.getElem_toArray, List.getElem_cons_succ, List.getElem_cons_zero, List.setIfInBounds_toArray, List.set_cons_zero, List.set_cons_succ]
              refine wpAnyH_take (i := 6) (v := ?_) rfl (by kernel_rfl) (by kernel_rfl) (by kernel_rfl) (fun _ _ _ h => h) (Or.inl ⟨by rfl, ?_⟩) (by assumption) ?_
              rotate_left
              · intro w' hSw
                go_simp
                first | done | with_reducible rfl
              simp only [Act.put, List.getElem_toArray, List.getElem_cons_succ, List.getElem_cons_zero, List.setIfInBounds_toArray, List.set_cons_zero, List.set_cons_succ]
              refine wpAnyH_take (i := 7) (v := ?_) rfl (by kernel_rfl) (by kernel_rfl) (by kernel_rfl) (fun _ _ _ h => h) (Or.inl ⟨by rfl, ?_⟩) (by assumption) ?_
              rotate_left
              · intro w' hSw
                go_simp
                first | done | with_reducible rfl
              simp only [Act.put, List.getElem_toArray, List.getElem_cons_succ, List.getElem_cons_zero, List.setIfInBounds_toArray, List.set_cons_zero, List.set_cons_succ]
              refine wpAnyH_take (i := 8) (v := ?_) rfl (by kernel_rfl) (by kernel_rfl) (by kernel_rfl) (fun _ _ _ h => h) (Or.inl ⟨by rfl, ?_⟩) (by assumption) ?_
              rotate_left
              · intro w' hSw
                go_simp
                first | done | with_reducible rfl
              simp only [Act.put, List.getElem_toArray, List.getElem_cons_succ, List.getElem_cons_zero, List.setIfInBounds_toArray, List.set_cons_zero, List.set_cons_succ]
              refine wpAnyH_done (by kernel_rfl) (NoPanic.normal ?_) _
              have HT := Lib.hid hS8.p.less
              clear hS8 hS7 CTK0 HIE
              have hokT := pair_ok HT.out
              have HFEW := Lib.hid hfew
              obtain ⟨l, hl⟩ : ∃ l, (DS.scn T).1 = l := ⟨_, rfl⟩
              have hl8 : l.length ≤ 8 := by rw [← hl]; exact scn_len T
              have CSD := Lib.hid (fun W (h : Pair w W (fun _ => False) g r T T) => pair_scanD h HHK.out (by omega))
              have CSR := Lib.hid (fun W (h : Pair w W (fun _ => False) g r T T) => pair_scanR h hokT (by omega))
              have CLD := Lib.hid (fun W (h : Pair w W (fun _ => False) g r T T) => pair_lastD h HHK.out (by omega))
              have CLR := Lib.hid (fun W (h : Pair w W (fun _ => False) g r T T) => pair_lastR h hokT (by omega))
              rw [hl] at CSD CSR
              clear hl hokT hfew
              generalize (DS.scn T).2 = fs at CSD CSR
              generalize (DS.last T).1 = X at CLD CLR
              generalize (DS.last T).2.1 = xis at CLD CLR
              generalize (DS.last T).2.2 = fl at CLD CLR
              go_wp2_with fail
              refine (CSD.out _ HT.out).mono ?_
              rintro y w10 ⟨va, rfl, hra, hb⟩
              have HRA := Lib.hid hra
              have HT10 := Lib.hid (HT.out.later hb)
              clear hra hb HT CSD
              go_wp2_with fail
              refine (CSR.out _ HT10.out).mono ?_
              rintro y w11 ⟨vb, rfl, hrb, hb⟩
              have HRB := Lib.hid hrb
              have HRA1 := Lib.hid (HRA.out.later hb)
              have HT11 := Lib.hid (HT10.out.later hb)
              clear hrb hb HT10 HRA CSR
              go_wp2_with fail
              refine (CLD.out _ HT11.out).mono ?_
              rintro y w12 ⟨rfl, hb⟩
              have HRB2 := Lib.hid (HRB.out.later hb)
              have HRA2 := Lib.hid (HRA1.out.later hb)
              have HT12 := Lib.hid (HT11.out.later hb)
              clear hb HT11 HRA1 HRB CLD
              have HZ12 := Lib.hid (ebt_zero w12 47)
              have HP12 := Lib.hid (ebt_put w12 47 X)
              go_wp2_with (first
                | (refine wpList_store_mid rfl 47 (.tmp 17) (.tmp 157) rfl w12.heap.size 0 X.cells.toArray rfl rfl HZ12.out.room (e_infoA _) (e_all _) ?_; generalize World.setCells _ _ _ _ = W13 at HP12 ⊢; have HA13 := Lib.hid HP12.out.1; have HRB3 := Lib.hid (HRB2.out.later HP12.out.2); have HRA3 := Lib.hid (HRA2.out.later HP12.out.2); have HT13 := Lib.hid (HT12.out.later HP12.out.2); clear HP12 HZ12 HT12 HRA2 HRB2)
                | (go_at_call 32; (with_reducible refine (CLR.out _ HT13.out).mono ?_); rintro y w14 ⟨rfl, hb⟩; have HA14 := Lib.hid (HA13.out.later hb); have HRB4 := Lib.hid (HRB3.out.later hb); have HRA4 := Lib.hid (HRA3.out.later hb); have HT14 := Lib.hid (HT13.out.later hb); clear hb HT13 HRA3 HRB3 HA13 CLR; have HZ14 := Lib.hid (ebt_zero w14 43); have HP14 := Lib.hid (ebt_put w14 43 X))
                | (refine wpList_store_mid rfl 43 (.tmp 20) (.tmp 163) rfl w14.heap.size 0 X.cells.toArray rfl rfl HZ14.out.room (ref_infoA _) (e_all _) ?_; generalize World.setCells _ _ _ _ = W15 at HP14 ⊢; have HF15 := Lib.hid (show PlF w W15 g r w12.heap.size w14.heap.size T va vb l X from ⟨HT14.out.later HP14.out.2, HRA4.out.later HP14.out.2, HRB4.out.later HP14.out.2, HA14.out.later HP14.out.2, HP14.out.1⟩); clear HP14 HZ14 HT14 HRA4 HRB4 HA14))
              generalize w12.heap.size = A at HF15 ⊢
              generalize w14.heap.size = B at HF15 ⊢
              have hS9 : PlF w W15.drew g r A B T va vb l X := HF15.out.later ⟨rfl, rfl, rfl, Nat.le_refl _, fun _ _ => rfl⟩
              clear HF15
              have CSA := Lib.hid (fun W (h : PlF w W g r A B T va vb l X) => same_yes va vb l hl8 W h.ra h.rb)
              have CTK : Hid (∀ W, Calls Tryd.prog 19 #[.agg X.cells.toArray] W fun y w' => y = .returned (.agg X.cells.toArray) ∧ Below W.heap.size W w') := Lib.hid (fun W => taken_any X W)
              refine wp_region_noPanic (wp_region_held_drew (S := fun W => PlF w W g r A B T va vb l X) (by kernel_rfl) hS9 (fun hHeld => ?_))
              refine wpAnyH_take (i := 0) (v := ?_) rfl (by kernel_rfl) (by kernel_rfl) (by kernel_rfl) (fun _ _ _ h => h) (Or.inl ⟨by rfl, ?_⟩) (by assumption) ?_
              rotate_left
              · intro w' hSw
                go_simp
                first | done | with_reducible rfl
              simp only [Act.put, List.getElem_toArray, List.getElem_cons_zero, List.setIfInBounds_toArray, List.set_cons_zero, List.set_cons_succ]
              refine wpAnyH_take (i := 1) (v := ?_) rfl (by kernel_rfl) (by kernel_rfl) (by kernel_rfl) (fun _ _ _ h => h) (Or.inl ⟨by rfl, ?_⟩) (by assumption) ?_
              rotate_left
              · intro w' hSw
                go_simp
                first | done | with_reducible rfl
              simp only [Act.put, List.getElem_toArray, List.getElem_cons_succ, List.getElem_cons_zero, List.setIfInBounds_toArray, List.set_cons_zero, List.set_cons_succ]
              refine wpAnyH_all (rs := [2]) (by kernel_rfl) (by simp) (fun q hq => ?_)
              obtain rfl := List.mem_singleton.1 hq
              clear hq
              refine wpOp_wp rfl (by rfl) (fun K' hK => ?_)
              go_simp
              refine (CSA.out _ hS9).mono ?_
              rintro y W16 ⟨rfl, hb⟩
              have hS16 := hS9.later hb
              refine hK.out _ _ ⟨hS16, ?_⟩
              clear hb
              clear hK K'
              try simp only [Act.put, List.getElem_toArray, List.getElem_cons_succ, List.getElem_cons_zero, List.setIfInBounds_toArray, List.set_cons_zero, List.set_cons_succ]
              refine wpAnyH_take (i := 3) (v := ?_) rfl (by kernel_rfl) (by kernel_rfl) (by kernel_rfl) (fun _ _ _ h => h) (Or.inl ⟨by rfl, ?_⟩) (by assumption) ?_
              rotate_left
              · intro w' hSw
                go_simp
                first | done | with_reducible rfl
              simp only [Act.put, List.getElem_toArray, List.getElem_cons_succ, List.getElem_cons_zero, List.setIfInBounds_toArray, List.set_cons_zero, List.set_cons_succ]
              refine wpAnyH_take (i := 4) (v := ?_) rfl (by kernel_rfl) (by kernel_rfl) (by kernel_rfl) (fun _ _ _ h => h) (Or.inl ⟨by rfl, ?_⟩) (by assumption) ?_
              rotate_left
              · intro w' hSw
                go_simp
                first | done | with_reducible rfl
              simp only [Act.put, List.getElem_toArray, List.getElem_cons_succ, List.getElem_cons_zero, List.setIfInBounds_toArray, List.set_cons_zero, List.set_cons_succ]
              refine wpAnyH_take (i := 5) (v := ?_) rfl (by kernel_rfl) (by kernel_rfl) (by kernel_rfl) (fun _ _ _ h => h) (Or.inl ⟨by rfl, ?_⟩) (by assumption) ?_
              rotate_left
              · intro w' hSw
                go_simp
                first | done | with_reducible rfl
              simp only [Act.put, List.getElem_toArray, List.getElem_cons_succ, List.getElem_cons_zero, List.setIfInBounds_toArray, List.set_cons_zero, List.set_cons_succ]
              refine wpAnyH_take (i := 6) (v := ?_) rfl (by kernel_rfl) (by kernel_rfl) (by kernel_rfl) (fun _ _ _ h => h) (Or.inl ⟨by rfl, ?_⟩) (by assumption) ?_
              rotate_left
              · intro w' hSw
                go_simp
                first | done | with_reducible rfl
              simp only [Act.put, List.getElem_toArray, List.getElem_cons_succ, List.getElem_cons_zero, List.setIfInBounds_toArray, List.set_cons_zero, List.set_cons_succ]
              refine wpAnyH_take (i := 7) (v := ?_) rfl (by kernel_rfl) (by kernel_rfl) (by kernel_rfl) (fun _ _ _ h => h) (Or.inl ⟨by rfl, ?_⟩) (by assumption) ?_
              rotate_left
              · intro w' hSw
                go_simp
                first | done | with_reducible rfl
              simp only [Act.put, List.getElem_toArray, List.getElem_cons_succ, List.getElem_cons_zero, List.setIfInBounds_toArray, List.set_cons_zero, List.set_cons_succ]
              refine wpAnyH_take (i := 8) (v := ?_) rfl (by kernel_rfl) (by kernel_rfl) (by kernel_rfl) (fun _ _ _ h => h) (Or.inl ⟨by rfl, ?_⟩) (by assumption) ?_
              rotate_left
              · intro w' hSw
                go_simp
                first | done | with_reducible rfl
              simp only [Act.put, List.getElem_toArray, List.getElem_cons_succ, List.getElem_cons_zero, List.setIfInBounds_toArray, List.set_cons_zero, List.set_cons_succ]
              refine wpAnyH_take (i := 9) (v := ?_) rfl (by kernel_rfl) (by kernel_rfl) (by kernel_rfl) (fun _ _ _ h => h) (Or.inl ⟨by rfl, ?_⟩) (by assumption) ?_
              rotate_left
              · intro w' hSw
                go_simp
                first | done | with_reducible rfl
              simp only [Act.put, List.getElem_toArray, List.getElem_cons_succ, List.getElem_cons_zero, List.setIfInBounds_toArray, List.set_cons_zero, List.set_cons_succ]
              refine wpAnyH_take (i := 10) (v := .agg X.cells.toArray) rfl (by kernel_rfl) (by kernel_rfl) (by kernel_rfl) (fun _ _ _ h => h) (Or.inl ⟨by rfl, ?_⟩) (by assumption) ?_
              · intro w' hSw
                exact exec_load_mid 47 (.tmp 17) rfl A (0) rfl X.cells _ hSw.a.cells Tryd.underlying47 rfl (e_info X)
              simp only [Act.put, List.getElem_toArray, List.getElem_cons_succ, List.getElem_cons_zero, List.setIfInBounds_toArray, List.set_cons_zero, List.set_cons_succ]
              refine wpAnyH_take (i := 12) (v := .agg X.cells.toArray) rfl (by kernel_rfl) (by kernel_rfl) (by kernel_rfl) (fun _ _ _ h => h) (Or.inl ⟨by rfl, ?_⟩) (by assumption) ?_
              · intro w' hSw
                exact exec_load_mid 43 (.tmp 20) rfl B (0) rfl X.cells _ hSw.b.cells Tryd.underlying43 rfl (ref_info X)
              simp only [Act.put, List.getElem_toArray, List.getElem_cons_succ, List.getElem_cons_zero, List.setIfInBounds_toArray, List.set_cons_zero, List.set_cons_succ]
              refine wpAnyH_all (rs := [11]) (by kernel_rfl) (by simp) (fun q hq => ?_)
              obtain rfl := List.mem_singleton.1 hq
              clear hq
              refine wpOp_wp rfl (by rfl) (fun K' hK => ?_)
              go_simp
              refine (CTK.out _).mono ?_
              rintro y W17 ⟨rfl, hb⟩
              have hS17 := hS16.later hb
              refine hK.out _ _ ⟨hS17, ?_⟩
              clear hb
              clear hK K'
              try simp only [Act.put, List.getElem_toArray, List.getElem_cons_succ, List.getElem_cons_zero, List.setIfInBounds_toArray, List.set_cons_zero, List.set_cons_succ]
              refine wpAnyH_take (i := 13) (v := .bool false) rfl (by kernel_rfl) (by kernel_rfl) (by kernel_rfl) (fun _ _ _ h => h) (Or.inl ⟨by rfl, ?_⟩) (by assumption) ?_
              · intro w' hSw
                exact exec_same (e := X) rfl rfl rfl
              simp only [Act.put, List.getElem_toArray, List.getElem_cons_succ, List.getElem_cons_zero, List.setIfInBounds_toArray, List.set_cons_zero, List.set_cons_succ]
              refine wpAnyH_take (i := 14) (v := ?_) rfl (by kernel_rfl) (by kernel_rfl) (by kernel_rfl) (fun _ _ _ h => h) (Or.inl ⟨by rfl, ?_⟩) (by assumption) ?_
              rotate_left
              · intro w' hSw
                go_simp
                first | done | with_reducible rfl
              simp only [Act.put, List.getElem_toArray, List.getElem_cons_succ, List.getElem_cons_zero, List.setIfInBounds_toArray, List.set_cons_zero, List.set_cons_succ]
              refine wpAnyH_take (i := 15) (v := ?_) rfl (by kernel_rfl) (by kernel_rfl) (by kernel_rfl) (fun _ _ _ h => h) (Or.inl ⟨by rfl, ?_⟩) (by assumption) ?_
              rotate_left
              · intro w' hSw
                go_simp
                first | done | with_reducible rfl
              simp only [Act.put, List.getElem_toArray, List.getElem_cons_succ, List.getElem_cons_zero, List.setIfInBounds_toArray, List.set_cons_zero, List.set_cons_succ]
              refine wpAnyH_take (i := 16) (v := ?_) rfl (by kernel_rfl) (by kernel_rfl) (by kernel_rfl) (fun _ _ _ h => h) (Or.inl ⟨by rfl, ?_⟩) (by assumption) ?_
              rotate_left
              · intro w' hSw
                go_simp
                first | done | with_reducible rfl
              simp only [Act.put, List.getElem_toArray, List.getElem_cons_succ, List.getElem_cons_zero, List.setIfInBounds_toArray, List.set_cons_zero, List.set_cons_succ]
              refine wpAnyH_take (i := 17) (v := ?_) rfl (by kernel_rfl) (by kernel_rfl) (by kernel_rfl) (fun _ _ _ h => h) (Or.inl ⟨by rfl, ?_⟩) (by assumption) ?_
              rotate_left
              · intro w' hSw
                go_simp
                first | done | with_reducible rfl
              simp only [Act.put, List.getElem_toArray, List.getElem_cons_succ, List.getElem_cons_zero, List.setIfInBounds_toArray, List.set_cons_zero, List.set_cons_succ]
              refine wpAnyH_take (i := 18) (v := ?_) rfl (by kernel_rfl) (by kernel_rfl) (by kernel_rfl) (fun _ _ _ h => h) (Or.inl ⟨by rfl, ?_⟩) (by assumption) ?_
              rotate_left
              · intro w' hSw
                go_simp
                first | done | with_reducible rfl
              simp only [Act.put, List.getElem_toArray, List.getElem_cons_succ, List.getElem_cons_zero, List.setIfInBounds_toArray, List.set_cons_zero, List.set_cons_succ]
              refine wpAnyH_take (i := 19) (v := ?_) rfl (by kernel_rfl) (by kernel_rfl) (by kernel_rfl) (fun _ _ _ h => h) (Or.inl ⟨by rfl, ?_⟩) (by assumption) ?_
              rotate_left
              · intro w' hSw
                go_simp
                first | done | with_reducible rfl
              simp only [Act.put, List.getElem_toArray, List.getElem_cons_succ, List.getElem_cons_zero, List.setIfInBounds_toArray, List.set_cons_zero, List.set_cons_succ]
              refine wpAnyH_take (i := 20) (v := ?_) rfl (by kernel_rfl) (by kernel_rfl) (by kernel_rfl) (fun _ _ _ h => h) (Or.inl ⟨by rfl, ?_⟩) (by assumption) ?_
              rotate_left
              · intro w' hSw
                go_simp
                first | done | with_reducible rfl
              simp only [Act.put, List.getElem_toArray, List.getElem_cons_succ, List.getElem_cons_zero, List.setIfInBounds_toArray, List.set_cons_zero, List.set_cons_succ]
              refine wpAnyH_take (i := 21) (v := ?_) rfl (by kernel_rfl) (by kernel_rfl) (by kernel_rfl) (fun _ _ _ h => h) (Or.inl ⟨by rfl, ?_⟩) (by assumption) ?_
              rotate_left
              · intro w' hSw
                go_simp
                first | done | with_reducible rfl
              simp only [Act.put, List.getElem_toArray, List.getElem_cons_succ, List.getElem_cons_zero, List.setIfInBounds_toArray, List.set_cons_zero, List.set_cons_succ]
              refine wpAnyH_take (i := 22) (v := ?_) rfl (by kernel_rfl) (by kernel_rfl) (by kernel_rfl) (fun _ _ _ h => h) (Or.inl ⟨by rfl, ?_⟩) (by assumption) ?_
              rotate_left
              · intro w' hSw
                go_simp
                first | done | with_reducible rfl
              simp only [Act.put, List.getElem_toArray, List.getElem_cons_succ, List.getElem_cons_zero, List.setIfInBounds_toArray, List.set_cons_zero, List.set_cons_succ]
              refine wpAnyH_take (i := 23) (v := ?_) rfl (by kernel_rfl) (by kernel_rfl) (by kernel_rfl) (fun _ _ _ h => h) (Or.inl ⟨by rfl, ?_⟩) (by assumption) ?_
              rotate_left
              · intro w' hSw
                go_simp
                first | done | with_reducible rfl
              simp only [Act.put, List.getElem_toArray, List.getElem_cons_succ, List.getElem_cons_zero, List.setIfInBounds_toArray, List.set_cons_zero, List.set_cons_succ]
              refine wpAnyH_take (i := 24) (v := ?_) rfl (by kernel_rfl) (by kernel_rfl) (by kernel_rfl) (fun _ _ _ h => h) (Or.inl ⟨by rfl, ?_⟩) (by assumption) ?_
              rotate_left
              · intro w' hSw
                go_simp
                first | done | with_reducible rfl
              simp only [Act.put, List.getElem_toArray, List.getElem_cons_succ, List.getElem_cons_zero, List.setIfInBounds_toArray, List.set_cons_zero, List.set_cons_succ]
              refine wpAnyH_done (by kernel_rfl) (NoPanic.normal ?_) _
              have HF := Lib.hid hS17.pair
              clear hS17 hS16 hS9 CSA CTK
              go_wp2
              go_roundw
              case rel => exact ⟨i + 1, T, by omega, by go_num, HF, HFEW.out.1, HFEW.out.2⟩
              case measure => simp [intOf]; omega
          · by_cases h1 : o.kind = 1
            · have t0 : decide (o.kind = 0) = false := decide_eq_false h0
              have s0 : (o.kind == 0) = false := by simpa using h0
              have t1 : decide (o.kind = 1) = true := decide_eq_true h1
              have s1 : (o.kind == 1) = true := by simpa using h1
              go_wp2_with (first
                | (refine wpList_load_mid rfl 46 _ rfl b (off + i * 9) rfl o.cells _ HRO.out Tryd.underlying46 rfl HOI.out ?_)
                | (refine wpList_store_mid rfl 46 (.tmp 8) (.tmp 50) rfl wr.heap.size 0 o.cells.toArray rfl rfl HROOM.out (oc_infoA o) (oc_all o) ?_; generalize World.setCells _ _ _ _ = W2 at HPUT ⊢
                   have hop := HPUT.out.1
                   have c0 := hop.c0
                   have c5 := hop.c5
                   have c7 := hop.c7
                   have c8 := hop.c8
                   have HX := Lib.hid (PlX.mk ((hI.out.fresh (D := fun i => i = wr.heap.size) HPUT.out.2 (fun i hi => ⟨Nat.le_of_eq hi.symm, by subst hi; exact hop.lt⟩)).less (fun k hk => .inr hk)) hop)
                   clear hop HPUT HROOM HRO hI HOI
                   generalize wr.heap.size = b0 at c0 c5 c7 c8 HX ⊢
                   generalize strOf o.e.sum = q at c5 hsz))
              as_aux_lemma =>
                have CW := Lib.hid (fun W (h : Pair w W (fun k => k = b0) g r S S) => h.stepD (Ans := fun e => e = .returned (.int .i64 (S.wr o.i o.s).2)) (fun F hd => d_write o.i o.s W hd (by omega) (by omega)))
                have CV := Lib.hid (fun W T (h : Pair w W (fun k => k = b0) g r T S) => h.stepR (Ans := fun e => e = .returned (.int .i64 (S.wr o.i o.s).2)) (fun F hd => r_write o.i o.s W hd (by omega) (by omega)))
                have hf1 := wr_few S o.i o.s
                generalize (S.wr o.i o.s).2 = e1 at CW CV
                generalize (S.wr o.i o.s).1 = S1 at CW CV hf1
                have CY := Lib.hid (fun W (h : Pair w W (fun k => k = b0) g r S1 S1) => h.stepD (Ans := fun e => e = .returned (.int .i64 S1.sy.2)) (fun F hd => d_sync W hd (by omega) (by omega)))
                have CU := Lib.hid (fun W T (h : Pair w W (fun k => k = b0) g r T S1) => h.stepR (Ans := fun e => e = .returned (.int .i64 S1.sy.2)) (fun F hd => r_sync W hd (by omega) (by omega)))
                have hf2 := sy_few S1
                generalize S1.sy.2 = e2 at CY CU
                generalize S1.sy.1 = T at CY CU hf2
                have hfew : T.c ≤ i + 1 ∧ T.ops ≤ 2 * (i + 1) := by omega
                clear c0 c5 c7 c8
                have hP0 : Pair w W2.drew (fun k => k = b0) g r S S := HX.out.pair.later ⟨rfl, rfl, rfl, Nat.le_refl _, fun _ _ => rfl⟩
                have hS0 : PlO W2.drew b0 o := plO (HX.out.op.later ⟨rfl, rfl, rfl, Nat.le_refl _, fun _ _ => rfl⟩)
                clear HX
                refine wp_region_noPanic (wp_region_held_drew (S := fun W => PlO W b0 o) (by kernel_rfl) hS0 (fun hHeld => ?_))
                refine wpAnyH_take (i := 0) (v := ?_) rfl (by kernel_rfl) (by kernel_rfl) (by kernel_rfl) (fun _ _ _ h => h) (Or.inl ⟨by rfl, ?_⟩) (by assumption) ?_
                rotate_left
                · intro w' hSw
                  obtain ⟨hs6, hs7, hs8, -⟩ := hSw
                  go_simp
                  first | done | with_reducible rfl
                simp only [Act.put, List.getElem_toArray, List.getElem_cons_zero, List.setIfInBounds_toArray, List.set_cons_zero, List.set_cons_succ]
                refine wpAnyH_take (i := 1) (v := ?_) rfl (by kernel_rfl) (by kernel_rfl) (by kernel_rfl) (fun _ _ _ h => h) (Or.inl ⟨by rfl, ?_⟩) (by assumption) ?_
                rotate_left
                · intro w' hSw
                  obtain ⟨hs6, hs7, hs8, -⟩ := hSw
                  go_simp
                  first | done | with_reducible rfl
                simp only [Act.put, List.getElem_toArray, List.getElem_cons_succ, List.getElem_cons_zero, List.setIfInBounds_toArray, List.set_cons_zero, List.set_cons_succ]
                refine wpAnyH_take (i := 2) (v := ?_) rfl (by kernel_rfl) (by kernel_rfl) (by kernel_rfl) (fun _ _ _ h => h) (Or.inl ⟨by rfl, ?_⟩) (by assumption) ?_
                rotate_left
                · intro w' hSw
                  obtain ⟨hs6, hs7, hs8, -⟩ := hSw
                  go_simp
                  first | done | with_reducible rfl
                simp only [Act.put, List.getElem_toArray, List.getElem_cons_succ, List.getElem_cons_zero, List.setIfInBounds_toArray, List.set_cons_zero, List.set_cons_succ]
                refine wpAnyH_take (i := 3) (v := ?_) rfl (by kernel_rfl) (by kernel_rfl) (by kernel_rfl) (fun _ _ _ h => h) (Or.inl ⟨by rfl, ?_⟩) (by assumption) ?_
                rotate_left
                · intro w' hSw
                  obtain ⟨hs6, hs7, hs8, -⟩ := hSw
                  go_simp
                  first | done | with_reducible rfl
                simp only [Act.put, List.getElem_toArray, List.getElem_cons_succ, List.getElem_cons_zero, List.setIfInBounds_toArray, List.set_cons_zero, List.set_cons_succ]
                refine wpAnyH_take (i := 4) (v := ?_) rfl (by kernel_rfl) (by kernel_rfl) (by kernel_rfl) (fun _ _ _ h => h) (Or.inl ⟨by rfl, ?_⟩) (by assumption) ?_
                rotate_left
                · intro w' hSw
                  obtain ⟨hs6, hs7, hs8, -⟩ := hSw
                  go_simp
                  first | done | with_reducible rfl
                simp only [Act.put, List.getElem_toArray, List.getElem_cons_succ, List.getElem_cons_zero, List.setIfInBounds_toArray, List.set_cons_zero, List.set_cons_succ]
                refine wpAnyH_take (i := 6) (v := ?_) rfl (by kernel_rfl) (by kernel_rfl) (by kernel_rfl) (fun _ _ _ h => h) (Or.inl ⟨by rfl, ?_⟩) (by assumption) ?_
                rotate_left
                · intro w' hSw
                  obtain ⟨hs6, hs7, hs8, -⟩ := hSw
                  go_simp
                  first | done | with_reducible rfl
                simp only [Act.put, List.getElem_toArray, List.getElem_cons_succ, List.getElem_cons_zero, List.setIfInBounds_toArray, List.set_cons_zero, List.set_cons_succ]
                refine wpAnyH_take (i := 7) (v := ?_) rfl (by kernel_rfl) (by kernel_rfl) (by kernel_rfl) (fun _ _ _ h => h) (Or.inl ⟨by rfl, ?_⟩) (by assumption) ?_
                rotate_left
                · intro w' hSw
                  obtain ⟨hs6, hs7, hs8, -⟩ := hSw
                  go_simp
                  first | done | with_reducible rfl
                simp only [Act.put, List.getElem_toArray, List.getElem_cons_succ, List.getElem_cons_zero, List.setIfInBounds_toArray, List.set_cons_zero, List.set_cons_succ]
                refine wpAnyH_take (i := 8) (v := ?_) rfl (by kernel_rfl) (by kernel_rfl) (by kernel_rfl) (fun _ _ _ h => h) (Or.inl ⟨by rfl, ?_⟩) (by assumption) ?_
                rotate_left
                · intro w' hSw
                  obtain ⟨hs6, hs7, hs8, -⟩ := hSw
                  go_simp
                  first | done | with_reducible rfl
                simp only [Act.put, List.getElem_toArray, List.getElem_cons_succ, List.getElem_cons_zero, List.setIfInBounds_toArray, List.set_cons_zero, List.set_cons_succ]
                refine wpAnyH_take (i := 9) (v := ?_) rfl (by kernel_rfl) (by kernel_rfl) (by kernel_rfl) (fun _ _ _ h => h) (Or.inl ⟨by rfl, ?_⟩) (by assumption) ?_
                rotate_left
                · intro w' hSw
                  obtain ⟨hs6, hs7, hs8, -⟩ := hSw
                  go_simp
                  first | done | with_reducible rfl
                simp only [Act.put, List.getElem_toArray, List.getElem_cons_succ, List.getElem_cons_zero, List.setIfInBounds_toArray, List.set_cons_zero, List.set_cons_succ]
                refine wpAnyH_take (i := 10) (v := ?_) rfl (by kernel_rfl) (by kernel_rfl) (by kernel_rfl) (fun _ _ _ h => h) (Or.inl ⟨by rfl, ?_⟩) (by assumption) ?_
                rotate_left
                · intro w' hSw
                  obtain ⟨hs6, hs7, hs8, -⟩ := hSw
                  go_simp
                  first | done | with_reducible rfl
                simp only [Act.put, List.getElem_toArray, List.getElem_cons_succ, List.getElem_cons_zero, List.setIfInBounds_toArray, List.set_cons_zero, List.set_cons_succ]
                refine wpAnyH_all (rs := [5]) (by kernel_rfl) (by simp) (fun q hq => ?_)
                obtain rfl := List.mem_singleton.1 hq
                clear hq
                refine wpOp_wp rfl (by rfl) (fun K' hK => ?_)
                go_simp
                refine (CW.out _ hP0).mono ?_
                rintro y W3 ⟨rfl, hP3, ho⟩
                have hS3 := plO_only hS0 ho
                refine hK.out _ _ ⟨hS3, ?_⟩
                clear ho
                clear hK K'
                try simp only [Act.put, List.getElem_toArray, List.getElem_cons_succ, List.getElem_cons_zero, List.setIfInBounds_toArray, List.set_cons_zero, List.set_cons_succ]
                refine wpAnyH_all (rs := [11]) (by kernel_rfl) (by simp) (fun q hq => ?_)
                obtain rfl := List.mem_singleton.1 hq
                clear hq
                refine wpOp_wp rfl (by rfl) (fun K' hK => ?_)
                go_simp
                refine (CV.out _ _ hP3).mono ?_
                rintro y W4 ⟨rfl, hP4, ho⟩
                have hS4 := plO_only hS3 ho
                refine hK.out _ _ ⟨hS4, ?_⟩
                clear ho
                clear hK K'
                try simp only [Act.put, List.getElem_toArray, List.getElem_cons_succ, List.getElem_cons_zero, List.setIfInBounds_toArray, List.set_cons_zero, List.set_cons_succ]
                refine wpAnyH_take (i := 12) (v := ?_) rfl (by kernel_rfl) (by kernel_rfl) (by kernel_rfl) (fun _ _ _ h => h) (Or.inl ⟨by rfl, ?_⟩) (by assumption) ?_
                rotate_left
                · intro w' hSw
                  go_simp
                  first | done | with_reducible rfl
                simp only [Act.put, List.getElem_toArray, List.getElem_cons_succ, List.getElem_cons_zero, List.setIfInBounds_toArray, List.set_cons_zero, List.set_cons_succ]
                refine wpAnyH_take (i := 13) (v := ?_) rfl (by kernel_rfl) (by kernel_rfl) (by kernel_rfl) (fun _ _ _ h => h) (Or.inl ⟨by rfl, ?_⟩) (by assumption) ?_
                rotate_left
                · intro w' hSw
                  go_simp
                  first | done | with_reducible rfl
                simp only [Act.put, List.getElem_toArray, List.getElem_cons_succ, List.getElem_cons_zero, List.setIfInBounds_toArray, List.set_cons_zero, List.set_cons_succ]
                refine wpAnyH_take (i := 14) (v := ?_) rfl (by kernel_rfl) (by kernel_rfl) (by kernel_rfl) (fun _ _ _ h => h) (Or.inl ⟨by rfl, ?_⟩) (by assumption) ?_
                rotate_left
                · intro w' hSw
                  go_simp
                  first | done | with_reducible rfl
                simp only [Act.put, List.getElem_toArray, List.getElem_cons_succ, List.getElem_cons_zero, List.setIfInBounds_toArray, List.set_cons_zero, List.set_cons_succ]
                refine wpAnyH_take (i := 16) (v := ?_) rfl (by kernel_rfl) (by kernel_rfl) (by kernel_rfl) (fun _ _ _ h => h) (Or.inl ⟨by rfl, ?_⟩) (by assumption) ?_
                rotate_left
                · intro w' hSw
                  go_simp
                  first | done | with_reducible rfl
                simp only [Act.put, List.getElem_toArray, List.getElem_cons_succ, List.getElem_cons_zero, List.setIfInBounds_toArray, List.set_cons_zero, List.set_cons_succ]
                refine wpAnyH_all (rs := [15]) (by kernel_rfl) (by simp) (fun q hq => ?_)
                obtain rfl := List.mem_singleton.1 hq
                clear hq
                refine wpOp_wp rfl (by rfl) (fun K' hK => ?_)
                go_simp
                refine (CY.out _ hP4).mono ?_
                rintro y W5 ⟨rfl, hP5, ho⟩
                have hS5 := plO_only hS4 ho
                refine hK.out _ _ ⟨hS5, ?_⟩
                clear ho
                clear hK K'
                try simp only [Act.put, List.getElem_toArray, List.getElem_cons_succ, List.getElem_cons_zero, List.setIfInBounds_toArray, List.set_cons_zero, List.set_cons_succ]
                refine wpAnyH_all (rs := [17]) (by kernel_rfl) (by simp) (fun q hq => ?_)
                obtain rfl := List.mem_singleton.1 hq
                clear hq
                refine wpOp_wp rfl (by rfl) (fun K' hK => ?_)
                go_simp
                refine (CU.out _ _ hP5).mono ?_
                rintro y W6 ⟨rfl, hP6, ho⟩
                have hS6 := plO_only hS5 ho
                refine hK.out _ _ ⟨hS6, ?_⟩
                clear ho
                clear hK K'
                try simp only [Act.put, List.getElem_toArray, List.getElem_cons_succ, List.getElem_cons_zero, List.setIfInBounds_toArray, List.set_cons_zero, List.set_cons_succ]
                refine wpAnyH_take (i := 18) (v := ?_) rfl (by kernel_rfl) (by kernel_rfl) (by kernel_rfl) (fun _ _ _ h => h) (Or.inl ⟨by rfl, ?_⟩) (by assumption) ?_
                rotate_left
                · intro w' hSw
                  go_simp
                  first | done | with_reducible rfl
                simp only [Act.put, List.getElem_toArray, List.getElem_cons_succ, List.getElem_cons_zero, List.setIfInBounds_toArray, List.set_cons_zero, List.set_cons_succ]
                refine wpAnyH_take (i := 19) (v := ?_) rfl (by kernel_rfl) (by kernel_rfl) (by kernel_rfl) (fun _ _ _ h => h) (Or.inl ⟨by rfl, ?_⟩) (by assumption) ?_
                rotate_left
                · intro w' hSw
                  go_simp
                  first | done | with_reducible rfl
                simp only [Act.put, List.getElem_toArray, List.getElem_cons_succ, List.getElem_cons_zero, List.setIfInBounds_toArray, List.set_cons_zero, List.set_cons_succ]
                refine wpAnyH_done (by kernel_rfl) (NoPanic.normal ?_) _
                have HT := Lib.hid (hP6.less (D := fun _ => False) (fun _ e => e.elim))
                clear hS0 hS3 hS4 hS5 hS6 hP0 hP3 hP4 hP5 hP6 CW CV CY CU hf1 hf2
                have hokT := pair_ok HT.out
                have HFEW := Lib.hid hfew
                obtain ⟨l, hl⟩ : ∃ l, (DS.scn T).1 = l := ⟨_, rfl⟩
                have hl8 : l.length ≤ 8 := by rw [← hl]; exact scn_len T
                have CSD := Lib.hid (fun W (h : Pair w W (fun _ => False) g r T T) => pair_scanD h HHK.out (by omega))
                have CSR := Lib.hid (fun W (h : Pair w W (fun _ => False) g r T T) => pair_scanR h hokT (by omega))
                have CLD := Lib.hid (fun W (h : Pair w W (fun _ => False) g r T T) => pair_lastD h HHK.out (by omega))
                have CLR := Lib.hid (fun W (h : Pair w W (fun _ => False) g r T T) => pair_lastR h hokT (by omega))
                rw [hl] at CSD CSR
                clear hl hokT hfew
                generalize (DS.scn T).2 = fs at CSD CSR
                generalize (DS.last T).1 = X at CLD CLR
                generalize (DS.last T).2.1 = xis at CLD CLR
                generalize (DS.last T).2.2 = fl at CLD CLR
                go_wp2_with fail
                refine (CSD.out _ HT.out).mono ?_
                rintro y w10 ⟨va, rfl, hra, hb⟩
                have HRA := Lib.hid hra
                have HT10 := Lib.hid (HT.out.later hb)
                clear hra hb HT CSD
                go_wp2_with fail
                refine (CSR.out _ HT10.out).mono ?_
                rintro y w11 ⟨vb, rfl, hrb, hb⟩
                have HRB := Lib.hid hrb
                have HRA1 := Lib.hid (HRA.out.later hb)
                have HT11 := Lib.hid (HT10.out.later hb)
                clear hrb hb HT10 HRA CSR
                go_wp2_with fail
                refine (CLD.out _ HT11.out).mono ?_
                rintro y w12 ⟨rfl, hb⟩
                have HRB2 := Lib.hid (HRB.out.later hb)
                have HRA2 := Lib.hid (HRA1.out.later hb)
                have HT12 := Lib.hid (HT11.out.later hb)
                clear hb HT11 HRA1 HRB CLD
                have HZ12 := Lib.hid (ebt_zero w12 47)
                have HP12 := Lib.hid (ebt_put w12 47 X)
                go_wp2_with (first
                  | (refine wpList_store_mid rfl 47 (.tmp 17) (.tmp 157) rfl w12.heap.size 0 X.cells.toArray rfl rfl HZ12.out.room (e_infoA _) (e_all _) ?_; generalize World.setCells _ _ _ _ = W13 at HP12 ⊢; have HA13 := Lib.hid HP12.out.1; have HRB3 := Lib.hid (HRB2.out.later HP12.out.2); have HRA3 := Lib.hid (HRA2.out.later HP12.out.2); have HT13 := Lib.hid (HT12.out.later HP12.out.2); clear HP12 HZ12 HT12 HRA2 HRB2)
                  | (go_at_call 32; (with_reducible refine (CLR.out _ HT13.out).mono ?_); rintro y w14 ⟨rfl, hb⟩; have HA14 := Lib.hid (HA13.out.later hb); have HRB4 := Lib.hid (HRB3.out.later hb); have HRA4 := Lib.hid (HRA3.out.later hb); have HT14 := Lib.hid (HT13.out.later hb); clear hb HT13 HRA3 HRB3 HA13 CLR; have HZ14 := Lib.hid (ebt_zero w14 43); have HP14 := Lib.hid (ebt_put w14 43 X))
                  | (refine wpList_store_mid rfl 43 (.tmp 20) (.tmp 163) rfl w14.heap.size 0 X.cells.toArray rfl rfl HZ14.out.room (ref_infoA _) (e_all _) ?_; generalize World.setCells _ _ _ _ = W15 at HP14 ⊢; have HF15 := Lib.hid (show PlF w W15 g r w12.heap.size w14.heap.size T va vb l X from ⟨HT14.out.later HP14.out.2, HRA4.out.later HP14.out.2, HRB4.out.later HP14.out.2, HA14.out.later HP14.out.2, HP14.out.1⟩); clear HP14 HZ14 HT14 HRA4 HRB4 HA14))
                generalize w12.heap.size = A at HF15 ⊢
                generalize w14.heap.size = B at HF15 ⊢
                have hS9 : PlF w W15.drew g r A B T va vb l X := HF15.out.later ⟨rfl, rfl, rfl, Nat.le_refl _, fun _ _ => rfl⟩
                clear HF15
                have CSA := Lib.hid (fun W (h : PlF w W g r A B T va vb l X) => same_yes va vb l hl8 W h.ra h.rb)
                have CTK : Hid (∀ W, Calls Tryd.prog 19 #[.agg X.cells.toArray] W fun y w' => y = .returned (.agg X.cells.toArray) ∧ Below W.heap.size W w') := Lib.hid (fun W => taken_any X W)
                refine wp_region_noPanic (wp_region_held_drew (S := fun W => PlF w W g r A B T va vb l X) (by kernel_rfl) hS9 (fun hHeld => ?_))
                refine wpAnyH_take (i := 0) (v := ?_) rfl (by kernel_rfl) (by kernel_rfl) (by kernel_rfl) (fun _ _ _ h => h) (Or.inl ⟨by rfl, ?_⟩) (by assumption) ?_
                rotate_left
                · intro w' hSw
                  go_simp
                  first | done | with_reducible rfl
                simp only [Act.put, List.getElem_toArray, List.getElem_cons_zero, List.setIfInBounds_toArray, List.set_cons_zero, List.set_cons_succ]
                refine wpAnyH_take (i := 1) (v := ?_) rfl (by kernel_rfl) (by kernel_rfl) (by kernel_rfl) (fun _ _ _ h => h) (Or.inl ⟨by rfl, ?_⟩) (by assumption) ?_
                rotate_left
                · intro w' hSw
                  go_simp
                  first | done | with_reducible rfl
                simp only [Act.put, List.getElem_toArray, List.getElem_cons_succ, List.getElem_cons_zero, List.setIfInBounds_toArray, List.set_cons_zero, List.set_cons_succ]
                refine wpAnyH_all (rs := [2]) (by kernel_rfl) (by simp) (fun q hq => ?_)
                obtain rfl := List.mem_singleton.1 hq
                clear hq
                refine wpOp_wp rfl (by rfl) (fun K' hK => ?_)
                go_simp
                refine (CSA.out _ hS9).mono ?_
                rintro y W16 ⟨rfl, hb⟩
                have hS16 := hS9.later hb
                refine hK.out _ _ ⟨hS16, ?_⟩
                clear hb
                clear hK K'
                try simp only [Act.put, List.getElem_toArray, List.getElem_cons_succ, List.getElem_cons_zero, List.setIfInBounds_toArray, List.set_cons_zero, List.set_cons_succ]
                refine wpAnyH_take (i := 3) (v := ?_) rfl (by kernel_rfl) (by kernel_rfl) (by kernel_rfl) (fun _ _ _ h => h) (Or.inl ⟨by rfl, ?_⟩) (by assumption) ?_
                rotate_left
                · intro w' hSw
                  go_simp
                  first | done | with_reducible rfl
                simp only [Act.put, List.getElem_toArray, List.getElem_cons_succ, List.getElem_cons_zero, List.setIfInBounds_toArray, List.set_cons_zero, List.set_cons_succ]
                refine wpAnyH_take (i := 4) (v := ?_) rfl (by kernel_rfl) (by kernel_rfl) (by kernel_rfl) (fun _ _ _ h => h) (Or.inl ⟨by rfl, ?_⟩) (by assumption) ?_
                rotate_left
                · intro w' hSw
                  go_simp
                  first | done | with_reducible rfl
                simp only [Act.put, List.getElem_toArray, List.getElem_cons_succ, List.getElem_cons_zero, List.setIfInBounds_toArray, List.set_cons_zero, List.set_cons_succ]
                refine wpAnyH_take (i := 5) (v := ?_) rfl (by kernel_rfl) (by kernel_rfl) (by kernel_rfl) (fun _ _ _ h => h) (Or.inl ⟨by rfl, ?_⟩) (by assumption) ?_
                rotate_left
                · intro w' hSw
                  go_simp
                  first | done | with_reducible rfl
                simp only [Act.put, List.getElem_toArray, List.getElem_cons_succ, List.getElem_cons_zero, List.setIfInBounds_toArray, List.set_cons_zero, List.set_cons_succ]
                refine wpAnyH_take (i := 6) (v := ?_) rfl (by kernel_rfl) (by kernel_rfl) (by kernel_rfl) (fun _ _ _ h => h) (Or.inl ⟨by rfl, ?_⟩) (by assumption) ?_
                rotate_left
                · intro w' hSw
                  go_simp
                  first | done | with_reducible rfl
                simp only [Act.put, List.getElem_toArray, List.getElem_cons_succ, List.getElem_cons_zero, List.setIfInBounds_toArray, List.set_cons_zero, List.set_cons_succ]
                refine wpAnyH_take (i := 7) (v := ?_) rfl (by kernel_rfl) (by kernel_rfl) (by kernel_rfl) (fun _ _ _ h => h) (Or.inl ⟨by rfl, ?_⟩) (by assumption) ?_
                rotate_left
                · intro w' hSw
                  go_simp
                  first | done | with_reducible rfl
                simp only [Act.put, List.getElem_toArray, List.getElem_cons_succ, List.getElem_cons_zero, List.setIfInBounds_toArray, List.set_cons_zero, List.set_cons_succ]
                refine wpAnyH_take (i := 8) (v := ?_) rfl (by kernel_rfl) (by kernel_rfl) (by kernel_rfl) (fun _ _ _ h => h) (Or.inl ⟨by rfl, ?_⟩) (by assumption) ?_
                rotate_left
                · intro w' hSw
                  go_simp
                  first | done | with_reducible rfl
                simp only [Act.put, List.getElem_toArray, List.getElem_cons_succ, List.getElem_cons_zero, List.setIfInBounds_toArray, List.set_cons_zero, List.set_cons_succ]
                refine wpAnyH_take (i := 9) (v := ?_) rfl (by kernel_rfl) (by kernel_rfl) (by kernel_rfl) (fun _ _ _ h => h) (Or.inl ⟨by rfl, ?_⟩) (by assumption) ?_
                rotate_left
                · intro w' hSw
                  go_simp
                  first | done | with_reducible rfl
                simp only [Act.put, List.getElem_toArray, List.getElem_cons_succ, List.getElem_cons_zero, List.setIfInBounds_toArray, List.set_cons_zero, List.set_cons_succ]
                refine wpAnyH_take (i := 10) (v := .agg X.cells.toArray) rfl (by kernel_rfl) (by kernel_rfl) (by kernel_rfl) (fun _ _ _ h => h) (Or.inl ⟨by rfl, ?_⟩) (by assumption) ?_
                · intro w' hSw
                  exact exec_load_mid 47 (.tmp 17) rfl A (0) rfl X.cells _ hSw.a.cells Tryd.underlying47 rfl (e_info X)
                simp only [Act.put, List.getElem_toArray, List.getElem_cons_succ, List.getElem_cons_zero, List.setIfInBounds_toArray, List.set_cons_zero, List.set_cons_succ]
                refine wpAnyH_take (i := 12) (v := .agg X.cells.toArray) rfl (by kernel_rfl) (by kernel_rfl) (by kernel_rfl) (fun _ _ _ h => h) (Or.inl ⟨by rfl, ?_⟩) (by assumption) ?_
                · intro w' hSw
                  exact exec_load_mid 43 (.tmp 20) rfl B (0) rfl X.cells _ hSw.b.cells Tryd.underlying43 rfl (ref_info X)
                simp only [Act.put, List.getElem_toArray, List.getElem_cons_succ, List.getElem_cons_zero, List.setIfInBounds_toArray, List.set_cons_zero, List.set_cons_succ]
                refine wpAnyH_all (rs := [11]) (by kernel_rfl) (by simp) (fun q hq => ?_)
                obtain rfl := List.mem_singleton.1 hq
                clear hq
                refine wpOp_wp rfl (by rfl) (fun K' hK => ?_)
                go_simp
                refine (CTK.out _).mono ?_
                rintro y W17 ⟨rfl, hb⟩
                have hS17 := hS16.later hb
                refine hK.out _ _ ⟨hS17, ?_⟩
                clear hb
                clear hK K'
                try simp only [Act.put, List.getElem_toArray, List.getElem_cons_succ, List.getElem_cons_zero, List.setIfInBounds_toArray, List.set_cons_zero, List.set_cons_succ]
                refine wpAnyH_take (i := 13) (v := .bool false) rfl (by kernel_rfl) (by kernel_rfl) (by kernel_rfl) (fun _ _ _ h => h) (Or.inl ⟨by rfl, ?_⟩) (by assumption) ?_
                · intro w' hSw
                  exact exec_same (e := X) rfl rfl rfl
                simp only [Act.put, List.getElem_toArray, List.getElem_cons_succ, List.getElem_cons_zero, List.setIfInBounds_toArray, List.set_cons_zero, List.set_cons_succ]
                refine wpAnyH_take (i := 14) (v := ?_) rfl (by kernel_rfl) (by kernel_rfl) (by kernel_rfl) (fun _ _ _ h => h) (Or.inl ⟨by rfl, ?_⟩) (by assumption) ?_
                rotate_left
                · intro w' hSw
                  go_simp
                  first | done | with_reducible rfl
                simp only [Act.put, List.getElem_toArray, List.getElem_cons_succ, List.getElem_cons_zero, List.setIfInBounds_toArray, List.set_cons_zero, List.set_cons_succ]
                refine wpAnyH_take (i := 15) (v := ?_) rfl (by kernel_rfl) (by kernel_rfl) (by kernel_rfl) (fun _ _ _ h => h) (Or.inl ⟨by rfl, ?_⟩) (by assumption) ?_
                rotate_left
                · intro w' hSw
                  go_simp
                  first | done | with_reducible rfl
                simp only [Act.put, List.getElem_toArray, List.getElem_cons_succ, List.getElem_cons_zero, List.setIfInBounds_toArray, List.set_cons_zero, List.set_cons_succ]
                refine wpAnyH_take (i := 16) (v := ?_) rfl (by kernel_rfl) (by kernel_rfl) (by kernel_rfl) (fun _ _ _ h => h) (Or.inl ⟨by rfl, ?_⟩) (by assumption) ?_
                rotate_left
                · intro w' hSw
                  go_simp
                  first | done | with_reducible rfl
                simp only [Act.put, List.getElem_toArray, List.getElem_cons_succ, List.getElem_cons_zero, List.setIfInBounds_toArray, List.set_cons_zero, List.set_cons_succ]
                refine wpAnyH_take (i := 17) (v := ?_) rfl (by kernel_rfl) (by kernel_rfl) (by kernel_rfl) (fun _ _ _ h => h) (Or.inl ⟨by rfl, ?_⟩) (by assumption) ?_
                rotate_left
                · intro w' hSw
                  go_simp
                  first | done | with_reducible rfl
                simp only [Act.put, List.getElem_toArray, List.getElem_cons_succ, List.getElem_cons_zero, List.setIfInBounds_toArray, List.set_cons_zero, List.set_cons_succ]
                refine wpAnyH_take (i := 18) (v := ?_) rfl (by kernel_rfl) (by kernel_rfl) (by kernel_rfl) (fun _ _ _ h => h) (Or.inl ⟨by rfl, ?_⟩) (by assumption) ?_
                rotate_left
                · intro w' hSw
                  go_simp
                  first | done | with_reducible rfl
                simp only [Act.put, List.getElem_toArray, List.getElem_cons_succ, List.getElem_cons_zero, List.setIfInBounds_toArray, List.set_cons_zero, List.set_cons_succ]
                refine wpAnyH_take (i := 19) (v := ?_) rfl (by kernel_rfl) (by kernel_rfl) (by kernel_rfl) (fun _ _ _ h => h) (Or.inl ⟨by rfl, ?_⟩) (by assumption) ?_
                rotate_left
                · intro w' hSw
                  go_simp
                  first | done | with_reducible rfl
                simp only [Act.put, List.getElem_toArray, List.getElem_cons_succ, List.getElem_cons_zero, List.setIfInBounds_toArray, List.set_cons_zero, List.set_cons_succ]
                refine wpAnyH_take (i := 20) (v := ?_) rfl (by kernel_rfl) (by kernel_rfl) (by kernel_rfl) (fun _ _ _ h => h) (Or.inl ⟨by rfl, ?_⟩) (by assumption) ?_
                rotate_left
                · intro w' hSw
                  go_simp
                  first | done | with_reducible rfl
                simp only [Act.put, List.getElem_toArray, List.getElem_cons_succ, List.getElem_cons_zero, List.setIfInBounds_toArray, List.set_cons_zero, List.set_cons_succ]
                refine wpAnyH_take (i := 21) (v := ?_) rfl (by kernel_rfl) (by kernel_rfl) (by kernel_rfl) (fun _ _ _ h => h) (Or.inl ⟨by rfl, ?_⟩) (by assumption) ?_
                rotate_left
                · intro w' hSw
                  go_simp
                  first | done | with_reducible rfl
                simp only [Act.put, List.getElem_toArray, List.getElem_cons_succ, List.getElem_cons_zero, List.setIfInBounds_toArray, List.set_cons_zero, List.set_cons_succ]
                refine wpAnyH_take (i := 22) (v := ?_) rfl (by kernel_rfl) (by kernel_rfl) (by kernel_rfl) (fun _ _ _ h => h) (Or.inl ⟨by rfl, ?_⟩) (by assumption) ?_
                rotate_left
                · intro w' hSw
                  go_simp
                  first | done | with_reducible rfl
                simp only [Act.put, List.getElem_toArray, List.getElem_cons_succ, List.getElem_cons_zero, List.setIfInBounds_toArray, List.set_cons_zero, List.set_cons_succ]
                refine wpAnyH_take (i := 23) (v := ?_) rfl (by kernel_rfl) (by kernel_rfl) (by kernel_rfl) (fun _ _ _ h => h) (Or.inl ⟨by rfl, ?_⟩) (by assumption) ?_
                rotate_left
                · intro w' hSw
                  go_simp
                  first | done | with_reducible rfl
                simp only [Act.put, List.getElem_toArray, List.getElem_cons_succ, List.getElem_cons_zero, List.setIfInBounds_toArray, List.set_cons_zero, List.set_cons_succ]
                refine wpAnyH_take (i := 24) (v := ?_) rfl (by kernel_rfl) (by kernel_rfl) (by kernel_rfl) (fun _ _ _ h => h) (Or.inl ⟨by rfl, ?_⟩) (by assumption) ?_
                rotate_left
                · intro w' hSw
                  go_simp
                  first | done | with_reducible rfl
                simp only [Act.put, List.getElem_toArray, List.getElem_cons_succ, List.getElem_cons_zero, List.setIfInBounds_toArray, List.set_cons_zero, List.set_cons_succ]
                refine wpAnyH_done (by kernel_rfl) (NoPanic.normal ?_) _
                have HF := Lib.hid hS17.pair
                clear hS17 hS16 hS9 CSA CTK
                go_wp2
                go_roundw
                case rel => exact ⟨i + 1, T, by omega, by go_num, HF, HFEW.out.1, HFEW.out.2⟩
                case measure => simp [intOf]; omega
            · by_cases h2 : o.kind = 2
              · have t0 : decide (o.kind = 0) = false := decide_eq_false h0
                have s0 : (o.kind == 0) = false := by simpa using h0
                have t1 : decide (o.kind = 1) = false := decide_eq_false h1
                have s1 : (o.kind == 1) = false := by simpa using h1
                have t2 : decide (o.kind = 2) = true := decide_eq_true h2
                have s2 : (o.kind == 2) = true := by simpa using h2
                go_wp2_with (first
                  | (refine wpList_load_mid rfl 46 _ rfl b (off + i * 9) rfl o.cells _ HRO.out Tryd.underlying46 rfl HOI.out ?_)
                  | (refine wpList_store_mid rfl 46 (.tmp 8) (.tmp 50) rfl wr.heap.size 0 o.cells.toArray rfl rfl HROOM.out (oc_infoA o) (oc_all o) ?_; generalize World.setCells _ _ _ _ = W2 at HPUT ⊢
                     have hop := HPUT.out.1
                     have c0 := hop.c0
                     have c5 := hop.c5
                     have c7 := hop.c7
                     have c8 := hop.c8
                     have HX := Lib.hid (PlX.mk ((hI.out.fresh (D := fun i => i = wr.heap.size) HPUT.out.2 (fun i hi => ⟨Nat.le_of_eq hi.symm, by subst hi; exact hop.lt⟩)).less (fun k hk => .inr hk)) hop)
                     clear hop HPUT HROOM HRO hI HOI
                     generalize wr.heap.size = b0 at c0 c5 c7 c8 HX ⊢
                     generalize strOf o.e.sum = q at c5 hsz))
                as_aux_lemma =>
                  have CW := Lib.hid (fun W (h : Pair w W (fun k => k = b0) g r S S) => h.stepD (Ans := fun e => e = .returned (.int .i64 (S.cu o.i o.mask).2)) (fun F hd => d_cut o.i o.mask W hd (by omega) ho.mask))
                  have CV := Lib.hid (fun W T (h : Pair w W (fun k => k = b0) g r T S) => h.stepR (Ans := fun e => e = .returned (.int .i64 (S.cu o.i o.mask).2)) (fun F hd => r_cut o.i o.mask W hd (by omega) ho.mask))
                  have hf1 := cu_few S o.i o.mask
                  generalize (S.cu o.i o.mask).2 = e1 at CW CV
                  generalize (S.cu o.i o.mask).1 = T at CW CV hf1
                  have hfew : T.c ≤ i + 1 ∧ T.ops ≤ 2 * (i + 1) := by omega
                  clear c0 c5 c7 c8
                  have hP0 : Pair w W2.drew (fun k => k = b0) g r S S := HX.out.pair.later ⟨rfl, rfl, rfl, Nat.le_refl _, fun _ _ => rfl⟩
                  have hS0 : PlO W2.drew b0 o := plO (HX.out.op.later ⟨rfl, rfl, rfl, Nat.le_refl _, fun _ _ => rfl⟩)
                  clear HX
                  refine wp_region_noPanic (wp_region_held_drew (S := fun W => PlO W b0 o) (by kernel_rfl) hS0 (fun hHeld => ?_))
                  refine wpAnyH_take (i := 0) (v := ?_) rfl (by kernel_rfl) (by kernel_rfl) (by kernel_rfl) (fun _ _ _ h => h) (Or.inl ⟨by rfl, ?_⟩) (by assumption) ?_
                  rotate_left
                  · intro w' hSw
                    obtain ⟨hs6, hs7, hs8, -⟩ := hSw
                    go_simp
                    first | done | with_reducible rfl
                  simp only [Act.put, List.getElem_toArray, List.getElem_cons_zero, List.setIfInBounds_toArray, List.set_cons_zero, List.set_cons_succ]
                  refine wpAnyH_take (i := 1) (v := ?_) rfl (by kernel_rfl) (by kernel_rfl) (by kernel_rfl) (fun _ _ _ h => h) (Or.inl ⟨by rfl, ?_⟩) (by assumption) ?_
                  rotate_left
                  · intro w' hSw
                    obtain ⟨hs6, hs7, hs8, -⟩ := hSw
                    go_simp
                    first | done | with_reducible rfl
                  simp only [Act.put, List.getElem_toArray, List.getElem_cons_succ, List.getElem_cons_zero, List.setIfInBounds_toArray, List.set_cons_zero, List.set_cons_succ]
                  refine wpAnyH_take (i := 2) (v := ?_) rfl (by kernel_rfl) (by kernel_rfl) (by kernel_rfl) (fun _ _ _ h => h) (Or.inl ⟨by rfl, ?_⟩) (by assumption) ?_
                  rotate_left
                  · intro w' hSw
                    obtain ⟨hs6, hs7, hs8, -⟩ := hSw
                    go_simp
                    first | done | with_reducible rfl
                  simp only [Act.put, List.getElem_toArray, List.getElem_cons_succ, List.getElem_cons_zero, List.setIfInBounds_toArray, List.set_cons_zero, List.set_cons_succ]
                  refine wpAnyH_take (i := 3) (v := ?_) rfl (by kernel_rfl) (by kernel_rfl) (by kernel_rfl) (fun _ _ _ h => h) (Or.inl ⟨by rfl, ?_⟩) (by assumption) ?_
                  rotate_left
                  · intro w' hSw
                    obtain ⟨hs6, hs7, hs8, -⟩ := hSw
                    go_simp
                    first | done | with_reducible rfl
                  simp only [Act.put, List.getElem_toArray, List.getElem_cons_succ, List.getElem_cons_zero, List.setIfInBounds_toArray, List.set_cons_zero, List.set_cons_succ]
                  refine wpAnyH_take (i := 4) (v := ?_) rfl (by kernel_rfl) (by kernel_rfl) (by kernel_rfl) (fun _ _ _ h => h) (Or.inl ⟨by rfl, ?_⟩) (by assumption) ?_
                  rotate_left
                  · intro w' hSw
                    obtain ⟨hs6, hs7, hs8, -⟩ := hSw
                    go_simp
                    first | done | with_reducible rfl
                  simp only [Act.put, List.getElem_toArray, List.getElem_cons_succ, List.getElem_cons_zero, List.setIfInBounds_toArray, List.set_cons_zero, List.set_cons_succ]
                  refine wpAnyH_take (i := 6) (v := ?_) rfl (by kernel_rfl) (by kernel_rfl) (by kernel_rfl) (fun _ _ _ h => h) (Or.inl ⟨by rfl, ?_⟩) (by assumption) ?_
                  rotate_left
                  · intro w' hSw
                    obtain ⟨hs6, hs7, hs8, -⟩ := hSw
                    go_simp
                    first | done | with_reducible rfl
                  simp only [Act.put, List.getElem_toArray, List.getElem_cons_succ, List.getElem_cons_zero, List.setIfInBounds_toArray, List.set_cons_zero, List.set_cons_succ]
                  refine wpAnyH_take (i := 7) (v := ?_) rfl (by kernel_rfl) (by kernel_rfl) (by kernel_rfl) (fun _ _ _ h => h) (Or.inl ⟨by rfl, ?_⟩) (by assumption) ?_
                  rotate_left
                  · intro w' hSw
                    obtain ⟨hs6, hs7, hs8, -⟩ := hSw
                    go_simp
                    first | done | with_reducible rfl
                  simp only [Act.put, List.getElem_toArray, List.getElem_cons_succ, List.getElem_cons_zero, List.setIfInBounds_toArray, List.set_cons_zero, List.set_cons_succ]
                  refine wpAnyH_take (i := 8) (v := ?_) rfl (by kernel_rfl) (by kernel_rfl) (by kernel_rfl) (fun _ _ _ h => h) (Or.inl ⟨by rfl, ?_⟩) (by assumption) ?_
                  rotate_left
                  · intro w' hSw
                    obtain ⟨hs6, hs7, hs8, -⟩ := hSw
                    go_simp
                    first | done | with_reducible rfl
                  simp only [Act.put, List.getElem_toArray, List.getElem_cons_succ, List.getElem_cons_zero, List.setIfInBounds_toArray, List.set_cons_zero, List.set_cons_succ]
                  refine wpAnyH_take (i := 9) (v := ?_) rfl (by kernel_rfl) (by kernel_rfl) (by kernel_rfl) (fun _ _ _ h => h) (Or.inl ⟨by rfl, ?_⟩) (by assumption) ?_
                  rotate_left
                  · intro w' hSw
                    obtain ⟨hs6, hs7, hs8, -⟩ := hSw
                    go_simp
                    first | done | with_reducible rfl
                  simp only [Act.put, List.getElem_toArray, List.getElem_cons_succ, List.getElem_cons_zero, List.setIfInBounds_toArray, List.set_cons_zero, List.set_cons_succ]
                  refine wpAnyH_take (i := 10) (v := ?_) rfl (by kernel_rfl) (by kernel_rfl) (by kernel_rfl) (fun _ _ _ h => h) (Or.inl ⟨by rfl, ?_⟩) (by assumption) ?_
                  rotate_left
                  · intro w' hSw
                    obtain ⟨hs6, hs7, hs8, -⟩ := hSw
                    go_simp
                    first | done | with_reducible rfl
                  simp only [Act.put, List.getElem_toArray, List.getElem_cons_succ, List.getElem_cons_zero, List.setIfInBounds_toArray, List.set_cons_zero, List.set_cons_succ]
                  refine wpAnyH_all (rs := [5]) (by kernel_rfl) (by simp) (fun q hq => ?_)
                  obtain rfl := List.mem_singleton.1 hq
                  clear hq
                  refine wpOp_wp rfl (by rfl) (fun K' hK => ?_)
                  go_simp
                  refine (CW.out _ hP0).mono ?_
                  rintro y W3 ⟨rfl, hP3, ho⟩
                  have hS3 := plO_only hS0 ho
                  refine hK.out _ _ ⟨hS3, ?_⟩
                  clear ho
                  clear hK K'
                  try simp only [Act.put, List.getElem_toArray, List.getElem_cons_succ, List.getElem_cons_zero, List.setIfInBounds_toArray, List.set_cons_zero, List.set_cons_succ]
                  refine wpAnyH_all (rs := [11]) (by kernel_rfl) (by simp) (fun q hq => ?_)
                  obtain rfl := List.mem_singleton.1 hq
                  clear hq
                  refine wpOp_wp rfl (by rfl) (fun K' hK => ?_)
                  go_simp
                  refine (CV.out _ _ hP3).mono ?_
                  rintro y W4 ⟨rfl, hP4, ho⟩
                  have hS4 := plO_only hS3 ho
                  refine hK.out _ _ ⟨hS4, ?_⟩
                  clear ho
                  clear hK K'
                  try simp only [Act.put, List.getElem_toArray, List.getElem_cons_succ, List.getElem_cons_zero, List.setIfInBounds_toArray, List.set_cons_zero, List.set_cons_succ]
                  refine wpAnyH_take (i := 12) (v := ?_) rfl (by kernel_rfl) (by kernel_rfl) (by kernel_rfl) (fun _ _ _ h => h) (Or.inl ⟨by rfl, ?_⟩) (by assumption) ?_
                  rotate_left
                  · intro w' hSw
                    go_simp
                    first | done | with_reducible rfl
                  simp only [Act.put, List.getElem_toArray, List.getElem_cons_succ, List.getElem_cons_zero, List.setIfInBounds_toArray, List.set_cons_zero, List.set_cons_succ]
                  refine wpAnyH_done (by kernel_rfl) (NoPanic.normal ?_) _
                  have HT := Lib.hid (hP4.less (D := fun _ => False) (fun _ e => e.elim))
                  clear hS0 hS3 hS4 hP0 hP3 hP4 CW CV hf1
                  have hokT := pair_ok HT.out
                  have HFEW := Lib.hid hfew
                  obtain ⟨l, hl⟩ : ∃ l, (DS.scn T).1 = l := ⟨_, rfl⟩
                  have hl8 : l.length ≤ 8 := by rw [← hl]; exact scn_len T
                  have CSD := Lib.hid (fun W (h : Pair w W (fun _ => False) g r T T) => pair_scanD h HHK.out (by omega))
                  have CSR := Lib.hid (fun W (h : Pair w W (fun _ => False) g r T T) => pair_scanR h hokT (by omega))
                  have CLD := Lib.hid (fun W (h : Pair w W (fun _ => False) g r T T) => pair_lastD h HHK.out (by omega))
                  have CLR := Lib.hid (fun W (h : Pair w W (fun _ => False) g r T T) => pair_lastR h hokT (by omega))
                  rw [hl] at CSD CSR
                  clear hl hokT hfew
                  generalize (DS.scn T).2 = fs at CSD CSR
                  generalize (DS.last T).1 = X at CLD CLR
                  generalize (DS.last T).2.1 = xis at CLD CLR
                  generalize (DS.last T).2.2 = fl at CLD CLR
                  go_wp2_with fail
                  refine (CSD.out _ HT.out).mono ?_
                  rintro y w10 ⟨va, rfl, hra, hb⟩
                  have HRA := Lib.hid hra
                  have HT10 := Lib.hid (HT.out.later hb)
                  clear hra hb HT CSD
                  go_wp2_with fail
                  refine (CSR.out _ HT10.out).mono ?_
                  rintro y w11 ⟨vb, rfl, hrb, hb⟩
                  have HRB := Lib.hid hrb
                  have HRA1 := Lib.hid (HRA.out.later hb)
                  have HT11 := Lib.hid (HT10.out.later hb)
                  clear hrb hb HT10 HRA CSR
                  go_wp2_with fail
                  refine (CLD.out _ HT11.out).mono ?_
                  rintro y w12 ⟨rfl, hb⟩
                  have HRB2 := Lib.hid (HRB.out.later hb)
                  have HRA2 := Lib.hid (HRA1.out.later hb)
                  have HT12 := Lib.hid (HT11.out.later hb)
                  clear hb HT11 HRA1 HRB CLD
                  have HZ12 := Lib.hid (ebt_zero w12 47)
                  have HP12 := Lib.hid (ebt_put w12 47 X)
                  go_wp2_with (first
                    | (refine wpList_store_mid rfl 47 (.tmp 17) (.tmp 157) rfl w12.heap.size 0 X.cells.toArray rfl rfl HZ12.out.room (e_infoA _) (e_all _) ?_; generalize World.setCells _ _ _ _ = W13 at HP12 ⊢; have HA13 := Lib.hid HP12.out.1; have HRB3 := Lib.hid (HRB2.out.later HP12.out.2); have HRA3 := Lib.hid (HRA2.out.later HP12.out.2); have HT13 := Lib.hid (HT12.out.later HP12.out.2); clear HP12 HZ12 HT12 HRA2 HRB2)
                    | (go_at_call 32; (with_reducible refine (CLR.out _ HT13.out).mono ?_); rintro y w14 ⟨rfl, hb⟩; have HA14 := Lib.hid (HA13.out.later hb); have HRB4 := Lib.hid (HRB3.out.later hb); have HRA4 := Lib.hid (HRA3.out.later hb); have HT14 := Lib.hid (HT13.out.later hb); clear hb HT13 HRA3 HRB3 HA13 CLR; have HZ14 := Lib.hid (ebt_zero w14 43); have HP14 := Lib.hid (ebt_put w14 43 X))
                    | (refine wpList_store_mid rfl 43 (.tmp 20) (.tmp 163) rfl w14.heap.size 0 X.cells.toArray rfl rfl HZ14.out.room (ref_infoA _) (e_all _) ?_; generalize World.setCells _ _ _ _ = W15 at HP14 ⊢; have HF15 := Lib.hid (show PlF w W15 g r w12.heap.size w14.heap.size T va vb l X from ⟨HT14.out.later HP14.out.2, HRA4.out.later HP14.out.2, HRB4.out.later HP14.out.2, HA14.out.later HP14.out.2, HP14.out.1⟩); clear HP14 HZ14 HT14 HRA4 HRB4 HA14))
                  generalize w12.heap.size = A at HF15 ⊢
                  generalize w14.heap.size = B at HF15 ⊢
                  have hS9 : PlF w W15.drew g r A B T va vb l X := HF15.out.later ⟨rfl, rfl, rfl, Nat.le_refl _, fun _ _ => rfl⟩
                  clear HF15
                  have CSA := Lib.hid (fun W (h : PlF w W g r A B T va vb l X) => same_yes va vb l hl8 W h.ra h.rb)
                  have CTK : Hid (∀ W, Calls Tryd.prog 19 #[.agg X.cells.toArray] W fun y w' => y = .returned (.agg X.cells.toArray) ∧ Below W.heap.size W w') := Lib.hid (fun W => taken_any X W)
                  refine wp_region_noPanic (wp_region_held_drew (S := fun W => PlF w W g r A B T va vb l X) (by kernel_rfl) hS9 (fun hHeld => ?_))
                  refine wpAnyH_take (i := 0) (v := ?_) rfl (by kernel_rfl) (by kernel_rfl) (by kernel_rfl) (fun _ _ _ h => h) (Or.inl ⟨by rfl, ?_⟩) (by assumption) ?_
                  rotate_left
                  · intro w' hSw
                    go_simp
                    first | done | with_reducible rfl
                  simp only [Act.put, List.getElem_toArray, List.getElem_cons_zero, List.setIfInBounds_toArray, List.set_cons_zero, List.set_cons_succ]
                  refine wpAnyH_take (i := 1) (v := ?_) rfl (by kernel_rfl) (by kernel_rfl) (by kernel_rfl) (fun _ _ _ h => h) (Or.inl ⟨by rfl, ?_⟩) (by assumption) ?_
                  rotate_left
                  · intro w' hSw
                    go_simp
                    first | done | with_reducible rfl
                  simp only [Act.put, List.getElem_toArray, List.getElem_cons_succ, List.getElem_cons_zero, List.setIfInBounds_toArray, List.set_cons_zero, List.set_cons_succ]
                  refine wpAnyH_all (rs := [2]) (by kernel_rfl) (by simp) (fun q hq => ?_)
                  obtain rfl := List.mem_singleton.1 hq
                  clear hq
                  refine wpOp_wp rfl (by rfl) (fun K' hK => ?_)
                  go_simp
                  refine (CSA.out _ hS9).mono ?_
                  rintro y W16 ⟨rfl, hb⟩
                  have hS16 := hS9.later hb
                  refine hK.out _ _ ⟨hS16, ?_⟩
                  clear hb
                  clear hK K'
                  try simp only [Act.put, List.getElem_toArray, List.getElem_cons_succ, List.getElem_cons_zero, List.setIfInBounds_toArray, List.set_cons_zero, List.set_cons_succ]
                  refine wpAnyH_take (i := 3) (v := ?_) rfl (by kernel_rfl) (by kernel_rfl) (by kernel_rfl) (fun _ _ _ h => h) (Or.inl ⟨by rfl, ?_⟩) (by assumption) ?_
                  rotate_left
                  · intro w' hSw
                    go_simp
                    first | done | with_reducible rfl
                  simp only [Act.put, List.getElem_toArray, List.getElem_cons_succ, List.getElem_cons_zero, List.setIfInBounds_toArray, List.set_cons_zero, List.set_cons_succ]
                  refine wpAnyH_take (i := 4) (v := ?_) rfl (by kernel_rfl) (by kernel_rfl) (by kernel_rfl) (fun _ _ _ h => h) (Or.inl ⟨by rfl, ?_⟩) (by assumption) ?_
                  rotate_left
                  · intro w' hSw
                    go_simp
                    first | done | with_reducible rfl
                  simp only [Act.put, List.getElem_toArray, List.getElem_cons_succ, List.getElem_cons_zero, List.setIfInBounds_toArray, List.set_cons_zero, List.set_cons_succ]
                  refine wpAnyH_take (i := 5) (v := ?_) rfl (by kernel_rfl) (by kernel_rfl) (by kernel_rfl) (fun _ _ _ h => h) (Or.inl ⟨by rfl, ?_⟩) (by assumption) ?_
                  rotate_left
                  · intro w' hSw
                    go_simp
                    first | done | with_reducible rfl
                  simp only [Act.put, List.getElem_toArray, List.getElem_cons_succ, List.getElem_cons_zero, List.setIfInBounds_toArray, List.set_cons_zero, List.set_cons_succ]
                  refine wpAnyH_take (i := 6) (v := ?_) rfl (by kernel_rfl) (by kernel_rfl) (by kernel_rfl) (fun _ _ _ h => h) (Or.inl ⟨by rfl, ?_⟩) (by assumption) ?_
                  rotate_left
                  · intro w' hSw
                    go_simp
                    first | done | with_reducible rfl
                  simp only [Act.put, List.getElem_toArray, List.getElem_cons_succ, List.getElem_cons_zero, List.setIfInBounds_toArray, List.set_cons_zero, List.set_cons_succ]
                  refine wpAnyH_take (i := 7) (v := ?_) rfl (by kernel_rfl) (by kernel_rfl) (by kernel_rfl) (fun _ _ _ h => h) (Or.inl ⟨by rfl, ?_⟩) (by assumption) ?_
                  rotate_left
                  · intro w' hSw
                    go_simp
                    first | done | with_reducible rfl
                  simp only [Act.put, List.getElem_toArray, List.getElem_cons_succ, List.getElem_cons_zero, List.setIfInBounds_toArray, List.set_cons_zero, List.set_cons_succ]
                  refine wpAnyH_take (i := 8) (v := ?_) rfl (by kernel_rfl) (by kernel_rfl) (by kernel_rfl) (fun _ _ _ h => h) (Or.inl ⟨by rfl, ?_⟩) (by assumption) ?_
                  rotate_left
                  · intro w' hSw
                    go_simp
                    first | done | with_reducible rfl
                  simp only [Act.put, List.getElem_toArray, List.getElem_cons_succ, List.getElem_cons_zero, List.setIfInBounds_toArray, List.set_cons_zero, List.set_cons_succ]
                  refine wpAnyH_take (i := 9) (v := ?_) rfl (by kernel_rfl) (by kernel_rfl) (by kernel_rfl) (fun _ _ _ h => h) (Or.inl ⟨by rfl, ?_⟩) (by assumption) ?_
                  rotate_left
                  · intro w' hSw
                    go_simp
                    first | done | with_reducible rfl
                  simp only [Act.put, List.getElem_toArray, List.getElem_cons_succ, List.getElem_cons_zero, List.setIfInBounds_toArray, List.set_cons_zero, List.set_cons_succ]
                  refine wpAnyH_take (i := 10) (v := .agg X.cells.toArray) rfl (by kernel_rfl) (by kernel_rfl) (by kernel_rfl) (fun _ _ _ h => h) (Or.inl ⟨by rfl, ?_⟩) (by assumption) ?_
                  · intro w' hSw
                    exact exec_load_mid 47 (.tmp 17) rfl A (0) rfl X.cells _ hSw.a.cells Tryd.underlying47 rfl (e_info X)
                  simp only [Act.put, List.getElem_toArray, List.getElem_cons_succ, List.getElem_cons_zero, List.setIfInBounds_toArray, List.set_cons_zero, List.set_cons_succ]
                  refine wpAnyH_take (i := 12) (v := .agg X.cells.toArray) rfl (by kernel_rfl) (by kernel_rfl) (by kernel_rfl) (fun _ _ _ h => h) (Or.inl ⟨by rfl, ?_⟩) (by assumption) ?_
                  · intro w' hSw
                    exact exec_load_mid 43 (.tmp 20) rfl B (0) rfl X.cells _ hSw.b.cells Tryd.underlying43 rfl (ref_info X)
                  simp only [Act.put, List.getElem_toArray, List.getElem_cons_succ, List.getElem_cons_zero, List.setIfInBounds_toArray, List.set_cons_zero, List.set_cons_succ]
                  refine wpAnyH_all (rs := [11]) (by kernel_rfl) (by simp) (fun q hq => ?_)
                  obtain rfl := List.mem_singleton.1 hq
                  clear hq
                  refine wpOp_wp rfl (by rfl) (fun K' hK => ?_)
                  go_simp
                  refine (CTK.out _).mono ?_
                  rintro y W17 ⟨rfl, hb⟩
                  have hS17 := hS16.later hb
                  refine hK.out _ _ ⟨hS17, ?_⟩
                  clear hb
                  clear hK K'
                  try simp only [Act.put, List.getElem_toArray, List.getElem_cons_succ, List.getElem_cons_zero, List.setIfInBounds_toArray, List.set_cons_zero, List.set_cons_succ]
                  refine wpAnyH_take (i := 13) (v := .bool false) rfl (by kernel_rfl) (by kernel_rfl) (by kernel_rfl) (fun _ _ _ h => h) (Or.inl ⟨by rfl, ?_⟩) (by assumption) ?_
                  · intro w' hSw
                    exact exec_same (e := X) rfl rfl rfl
                  simp only [Act.put, List.getElem_toArray, List.getElem_cons_succ, List.getElem_cons_zero, List.setIfInBounds_toArray, List.set_cons_zero, List.set_cons_succ]
                  refine wpAnyH_take (i := 14) (v := ?_) rfl (by kernel_rfl) (by kernel_rfl) (by kernel_rfl) (fun _ _ _ h => h) (Or.inl ⟨by rfl, ?_⟩) (by assumption) ?_
                  rotate_left
                  · intro w' hSw
                    go_simp
                    first | done | with_reducible rfl
                  simp only [Act.put, List.getElem_toArray, List.getElem_cons_succ, List.getElem_cons_zero, List.setIfInBounds_toArray, List.set_cons_zero, List.set_cons_succ]
                  refine wpAnyH_take (i := 15) (v := ?_) rfl (by kernel_rfl) (by kernel_rfl) (by kernel_rfl) (fun _ _ _ h => h) (Or.inl ⟨by rfl, ?_⟩) (by assumption) ?_
                  rotate_left
                  · intro w' hSw
                    go_simp
                    first | done | with_reducible rfl
                  simp only [Act.put, List.getElem_toArray, List.getElem_cons_succ, List.getElem_cons_zero, List.setIfInBounds_toArray, List.set_cons_zero, List.set_cons_succ]
                  refine wpAnyH_take (i := 16) (v := ?_) rfl (by kernel_rfl) (by kernel_rfl) (by kernel_rfl) (fun _ _ _ h => h) (Or.inl ⟨by rfl, ?_⟩) (by assumption) ?_
                  rotate_left
                  · intro w' hSw
                    go_simp
                    first | done | with_reducible rfl
                  simp only [Act.put, List.getElem_toArray, List.getElem_cons_succ, List.getElem_cons_zero, List.setIfInBounds_toArray, List.set_cons_zero, List.set_cons_succ]
                  refine wpAnyH_take (i := 17) (v := ?_) rfl (by kernel_rfl) (by kernel_rfl) (by kernel_rfl) (fun _ _ _ h => h) (Or.inl ⟨by rfl, ?_⟩) (by assumption) ?_
                  rotate_left
                  · intro w' hSw
                    go_simp
                    first | done | with_reducible rfl
                  simp only [Act.put, List.getElem_toArray, List.getElem_cons_succ, List.getElem_cons_zero, List.setIfInBounds_toArray, List.set_cons_zero, List.set_cons_succ]
                  refine wpAnyH_take (i := 18) (v := ?_) rfl (by kernel_rfl) (by kernel_rfl) (by kernel_rfl) (fun _ _ _ h => h) (Or.inl ⟨by rfl, ?_⟩) (by assumption) ?_
                  rotate_left
                  · intro w' hSw
                    go_simp
                    first | done | with_reducible rfl
                  simp only [Act.put, List.getElem_toArray, List.getElem_cons_succ, List.getElem_cons_zero, List.setIfInBounds_toArray, List.set_cons_zero, List.set_cons_succ]
                  refine wpAnyH_take (i := 19) (v := ?_) rfl (by kernel_rfl) (by kernel_rfl) (by kernel_rfl) (fun _ _ _ h => h) (Or.inl ⟨by rfl, ?_⟩) (by assumption) ?_
                  rotate_left
                  · intro w' hSw
                    go_simp
                    first | done | with_reducible rfl
                  simp only [Act.put, List.getElem_toArray, List.getElem_cons_succ, List.getElem_cons_zero, List.setIfInBounds_toArray, List.set_cons_zero, List.set_cons_succ]
                  refine wpAnyH_take (i := 20) (v := ?_) rfl (by kernel_rfl) (by kernel_rfl) (by kernel_rfl) (fun _ _ _ h => h) (Or.inl ⟨by rfl, ?_⟩) (by assumption) ?_
                  rotate_left
                  · intro w' hSw
                    go_simp
                    first | done | with_reducible rfl
                  simp only [Act.put, List.getElem_toArray, List.getElem_cons_succ, List.getElem_cons_zero, List.setIfInBounds_toArray, List.set_cons_zero, List.set_cons_succ]
                  refine wpAnyH_take (i := 21) (v := ?_) rfl (by kernel_rfl) (by kernel_rfl) (by kernel_rfl) (fun _ _ _ h => h) (Or.inl ⟨by rfl, ?_⟩) (by assumption) ?_
                  rotate_left
                  · intro w' hSw
                    go_simp
                    first | done | with_reducible rfl
                  simp only [Act.put, List.getElem_toArray, List.getElem_cons_succ, List.getElem_cons_zero, List.setIfInBounds_toArray, List.set_cons_zero, List.set_cons_succ]
                  refine wpAnyH_take (i := 22) (v := ?_) rfl (by kernel_rfl) (by kernel_rfl) (by kernel_rfl) (fun _ _ _ h => h) (Or.inl ⟨by rfl, ?_⟩) (by assumption) ?_
                  rotate_left
                  · intro w' hSw
                    go_simp
                    first | done | with_reducible rfl
                  simp only [Act.put, List.getElem_toArray, List.getElem_cons_succ, List.getElem_cons_zero, List.setIfInBounds_toArray, List.set_cons_zero, List.set_cons_succ]
                  refine wpAnyH_take (i := 23) (v := ?_) rfl (by kernel_rfl) (by kernel_rfl) (by kernel_rfl) (fun _ _ _ h => h) (Or.inl ⟨by rfl, ?_⟩) (by assumption) ?_
                  rotate_left
                  · intro w' hSw
                    go_simp
                    first | done | with_reducible rfl
                  simp only [Act.put, List.getElem_toArray, List.getElem_cons_succ, List.getElem_cons_zero, List.setIfInBounds_toArray, List.set_cons_zero, List.set_cons_succ]
                  refine wpAnyH_take (i := 24) (v := ?_) rfl (by kernel_rfl) (by kernel_rfl) (by kernel_rfl) (fun _ _ _ h => h) (Or.inl ⟨by rfl, ?_⟩) (by assumption) ?_
                  rotate_left
                  · intro w' hSw
                    go_simp
                    first | done | with_reducible rfl
                  simp only [Act.put, List.getElem_toArray, List.getElem_cons_succ, List.getElem_cons_zero, List.setIfInBounds_toArray, List.set_cons_zero, List.set_cons_succ]
                  refine wpAnyH_done (by kernel_rfl) (NoPanic.normal ?_) _
                  have HF := Lib.hid hS17.pair
                  clear hS17 hS16 hS9 CSA CTK
                  go_wp2
                  go_roundw
                  case rel => exact ⟨i + 1, T, by omega, by go_num, HF, HFEW.out.1, HFEW.out.2⟩
                  case measure => simp [intOf]; omega
              · by_cases h3 : o.kind = 3
                · have t0 : decide (o.kind = 0) = false := decide_eq_false h0
                  have s0 : (o.kind == 0) = false := by simpa using h0
                  have t1 : decide (o.kind = 1) = false := decide_eq_false h1
                  have s1 : (o.kind == 1) = false := by simpa using h1
                  have t2 : decide (o.kind = 2) = false := decide_eq_false h2
                  have s2 : (o.kind == 2) = false := by simpa using h2
                  have t3 : decide (o.kind = 3) = true := decide_eq_true h3
                  have s3 : (o.kind == 3) = true := by simpa using h3
                  go_wp2_with (first
                    | (refine wpList_load_mid rfl 46 _ rfl b (off + i * 9) rfl o.cells _ HRO.out Tryd.underlying46 rfl HOI.out ?_)
                    | (refine wpList_store_mid rfl 46 (.tmp 8) (.tmp 50) rfl wr.heap.size 0 o.cells.toArray rfl rfl HROOM.out (oc_infoA o) (oc_all o) ?_; generalize World.setCells _ _ _ _ = W2 at HPUT ⊢
                       have hop := HPUT.out.1
                       have c0 := hop.c0
                       have c5 := hop.c5
                       have c7 := hop.c7
                       have c8 := hop.c8
                       have HX := Lib.hid (PlX.mk ((hI.out.fresh (D := fun i => i = wr.heap.size) HPUT.out.2 (fun i hi => ⟨Nat.le_of_eq hi.symm, by subst hi; exact hop.lt⟩)).less (fun k hk => .inr hk)) hop)
                       clear hop HPUT HROOM HRO hI HOI
                       generalize wr.heap.size = b0 at c0 c5 c7 c8 HX ⊢
                       generalize strOf o.e.sum = q at c5 hsz))
                  as_aux_lemma =>
                    have CW := Lib.hid (fun W (h : Pair w W (fun k => k = b0) g r S S) => h.stepD (Ans := fun e => e = .returned (.tuple #[])) (fun F hd => d_fail o.mask W hd ho.mask (by omega)))
                    have CV := Lib.hid (fun W T (h : Pair w W (fun k => k = b0) g r T S) => h.stepR (Ans := fun e => e = .returned (.tuple #[])) (fun F hd => r_fail o.mask W hd ho.mask (by omega)))
                    have hf1 := fail_few S o.mask
                    generalize S.fail o.mask = T at CW CV hf1
                    have hfew : T.c ≤ i + 1 ∧ T.ops ≤ 2 * (i + 1) := by omega
                    clear c0 c5 c7
                    refine (CW.out _ HX.out.pair).mono ?_
                    rintro y w3 ⟨rfl, hp, ho2⟩
                    have HX3 := Lib.hid (HX.out.next hp ho2)
                    clear hp ho2 HX CW c8
                    have c8 := HX3.out.op.c8
                    go_wp2_with fail
                    refine (CV.out _ _ HX3.out.pair).mono ?_
                    rintro y w4 ⟨rfl, hp, ho2⟩
                    have HT := Lib.hid (hp.less (D := fun _ => False) (fun _ e => e.elim))
                    clear hp ho2 HX3 CV c8 hf1
                    have hokT := pair_ok HT.out
                    have HFEW := Lib.hid hfew
                    obtain ⟨l, hl⟩ : ∃ l, (DS.scn T).1 = l := ⟨_, rfl⟩
                    have hl8 : l.length ≤ 8 := by rw [← hl]; exact scn_len T
                    have CSD := Lib.hid (fun W (h : Pair w W (fun _ => False) g r T T) => pair_scanD h HHK.out (by omega))
                    have CSR := Lib.hid (fun W (h : Pair w W (fun _ => False) g r T T) => pair_scanR h hokT (by omega))
                    have CLD := Lib.hid (fun W (h : Pair w W (fun _ => False) g r T T) => pair_lastD h HHK.out (by omega))
                    have CLR := Lib.hid (fun W (h : Pair w W (fun _ => False) g r T T) => pair_lastR h hokT (by omega))
                    rw [hl] at CSD CSR
                    clear hl hokT hfew
                    generalize (DS.scn T).2 = fs at CSD CSR
                    generalize (DS.last T).1 = X at CLD CLR
                    generalize (DS.last T).2.1 = xis at CLD CLR
                    generalize (DS.last T).2.2 = fl at CLD CLR
                    go_wp2_with fail
                    refine (CSD.out _ HT.out).mono ?_
                    rintro y w10 ⟨va, rfl, hra, hb⟩
                    have HRA := Lib.hid hra
                    have HT10 := Lib.hid (HT.out.later hb)
                    clear hra hb HT CSD
                    go_wp2_with fail
                    refine (CSR.out _ HT10.out).mono ?_
                    rintro y w11 ⟨vb, rfl, hrb, hb⟩
                    have HRB := Lib.hid hrb
                    have HRA1 := Lib.hid (HRA.out.later hb)
                    have HT11 := Lib.hid (HT10.out.later hb)
                    clear hrb hb HT10 HRA CSR
                    go_wp2_with fail
                    refine (CLD.out _ HT11.out).mono ?_
                    rintro y w12 ⟨rfl, hb⟩
                    have HRB2 := Lib.hid (HRB.out.later hb)
                    have HRA2 := Lib.hid (HRA1.out.later hb)
                    have HT12 := Lib.hid (HT11.out.later hb)
                    clear hb HT11 HRA1 HRB CLD
                    have HZ12 := Lib.hid (ebt_zero w12 47)
                    have HP12 := Lib.hid (ebt_put w12 47 X)
                    go_wp2_with (first
                      | (refine wpList_store_mid rfl 47 (.tmp 17) (.tmp 157) rfl w12.heap.size 0 X.cells.toArray rfl rfl HZ12.out.room (e_infoA _) (e_all _) ?_; generalize World.setCells _ _ _ _ = W13 at HP12 ⊢; have HA13 := Lib.hid HP12.out.1; have HRB3 := Lib.hid (HRB2.out.later HP12.out.2); have HRA3 := Lib.hid (HRA2.out.later HP12.out.2); have HT13 := Lib.hid (HT12.out.later HP12.out.2); clear HP12 HZ12 HT12 HRA2 HRB2)
                      | (go_at_call 32; (with_reducible refine (CLR.out _ HT13.out).mono ?_); rintro y w14 ⟨rfl, hb⟩; have HA14 := Lib.hid (HA13.out.later hb); have HRB4 := Lib.hid (HRB3.out.later hb); have HRA4 := Lib.hid (HRA3.out.later hb); have HT14 := Lib.hid (HT13.out.later hb); clear hb HT13 HRA3 HRB3 HA13 CLR; have HZ14 := Lib.hid (ebt_zero w14 43); have HP14 := Lib.hid (ebt_put w14 43 X))
                      | (refine wpList_store_mid rfl 43 (.tmp 20) (.tmp 163) rfl w14.heap.size 0 X.cells.toArray rfl rfl HZ14.out.room (ref_infoA _) (e_all _) ?_; generalize World.setCells _ _ _ _ = W15 at HP14 ⊢; have HF15 := Lib.hid (show PlF w W15 g r w12.heap.size w14.heap.size T va vb l X from ⟨HT14.out.later HP14.out.2, HRA4.out.later HP14.out.2, HRB4.out.later HP14.out.2, HA14.out.later HP14.out.2, HP14.out.1⟩); clear HP14 HZ14 HT14 HRA4 HRB4 HA14))
                    generalize w12.heap.size = A at HF15 ⊢
                    generalize w14.heap.size = B at HF15 ⊢
                    have hS9 : PlF w W15.drew g r A B T va vb l X := HF15.out.later ⟨rfl, rfl, rfl, Nat.le_refl _, fun _ _ => rfl⟩
                    clear HF15
                    have CSA := Lib.hid (fun W (h : PlF w W g r A B T va vb l X) => same_yes va vb l hl8 W h.ra h.rb)
                    have CTK : Hid (∀ W, Calls Tryd.prog 19 #[.agg X.cells.toArray] W fun y w' => y = .returned (.agg X.cells.toArray) ∧ Below W.heap.size W w') := Lib.hid (fun W => taken_any X W)
                    refine wp_region_noPanic (wp_region_held_drew (S := fun W => PlF w W g r A B T va vb l X) (by kernel_rfl) hS9 (fun hHeld => ?_))
                    refine wpAnyH_take (i := 0) (v := ?_) rfl (by kernel_rfl) (by kernel_rfl) (by kernel_rfl) (fun _ _ _ h => h) (Or.inl ⟨by rfl, ?_⟩) (by assumption) ?_
                    rotate_left
                    · intro w' hSw
                      go_simp
                      first | done | with_reducible rfl
                    simp only [Act.put, List.getElem_toArray, List.getElem_cons_zero, List.setIfInBounds_toArray, List.set_cons_zero, List.set_cons_succ]
                    refine wpAnyH_take (i := 1) (v := ?_) rfl (by kernel_rfl) (by kernel_rfl) (by kernel_rfl) (fun _ _ _ h => h) (Or.inl ⟨by rfl, ?_⟩) (by assumption) ?_
                    rotate_left
                    · intro w' hSw
                      go_simp
                      first | done | with_reducible rfl
                    simp only [Act.put, List.getElem_toArray, List.getElem_cons_succ, List.getElem_cons_zero, List.setIfInBounds_toArray, List.set_cons_zero, List.set_cons_succ]
                    refine wpAnyH_all (rs := [2]) (by kernel_rfl) (by simp) (fun q hq => ?_)
                    obtain rfl := List.mem_singleton.1 hq
                    clear hq
                    refine wpOp_wp rfl (by rfl) (fun K' hK => ?_)
                    go_simp
                    refine (CSA.out _ hS9).mono ?_
                    rintro y W16 ⟨rfl, hb⟩
                    have hS16 := hS9.later hb
                    refine hK.out _ _ ⟨hS16, ?_⟩
                    clear hb
                    clear hK K'
                    try simp only [Act.put, List.getElem_toArray, List.getElem_cons_succ, List.getElem_cons_zero, List.setIfInBounds_toArray, List.set_cons_zero, List.set_cons_succ]
                    refine wpAnyH_take (i := 3) (v := ?_) rfl (by kernel_rfl) (by kernel_rfl) (by kernel_rfl) (fun _ _ _ h => h) (Or.inl ⟨by rfl, ?_⟩) (by assumption) ?_
                    rotate_left
                    · intro w' hSw
                      go_simp
                      first | done | with_reducible rfl
                    simp only [Act.put, List.getElem_toArray, List.getElem_cons_succ, List.getElem_cons_zero, List.setIfInBounds_toArray, List.set_cons_zero, List.set_cons_succ]
                    refine wpAnyH_take (i := 4) (v := ?_) rfl (by kernel_rfl) (by kernel_rfl) (by kernel_rfl) (fun _ _ _ h => h) (Or.inl ⟨by rfl, ?_⟩) (by assumption) ?_
                    rotate_left
                    · intro w' hSw
                      go_simp
                      first | done | with_reducible rfl
                    simp only [Act.put, List.getElem_toArray, List.getElem_cons_succ, List.getElem_cons_zero, List.setIfInBounds_toArray, List.set_cons_zero, List.set_cons_succ]
                    refine wpAnyH_take (i := 5) (v := ?_) rfl (by kernel_rfl) (by kernel_rfl) (by kernel_rfl) (fun _ _ _ h => h) (Or.inl ⟨by rfl, ?_⟩) (by assumption) ?_
                    rotate_left
                    · intro w' hSw
                      go_simp
                      first | done | with_reducible rfl
                    simp only [Act.put, List.getElem_toArray, List.getElem_cons_succ, List.getElem_cons_zero, List.setIfInBounds_toArray, List.set_cons_zero, List.set_cons_succ]
                    refine wpAnyH_take (i := 6) (v := ?_) rfl (by kernel_rfl) (by kernel_rfl) (by kernel_rfl) (fun _ _ _ h => h) (Or.inl ⟨by rfl, ?_⟩) (by assumption) ?_
                    rotate_left
                    · intro w' hSw
                      go_simp
                      first | done | with_reducible rfl
                    simp only [Act.put, List.getElem_toArray, List.getElem_cons_succ, List.getElem_cons_zero, List.setIfInBounds_toArray, List.set_cons_zero, List.set_cons_succ]
                    refine wpAnyH_take (i := 7) (v := ?_) rfl (by kernel_rfl) (by kernel_rfl) (by kernel_rfl) (fun _ _ _ h => h) (Or.inl ⟨by rfl, ?_⟩) (by assumption) ?_
                    rotate_left
                    · intro w' hSw
                      go_simp
                      first | done | with_reducible rfl
                    simp only [Act.put, List.getElem_toArray, List.getElem_cons_succ, List.getElem_cons_zero, List.setIfInBounds_toArray, List.set_cons_zero, List.set_cons_succ]
                    refine wpAnyH_take (i := 8) (v := ?_) rfl (by kernel_rfl) (by kernel_rfl) (by kernel_rfl) (fun _ _ _ h => h) (Or.inl ⟨by rfl, ?_⟩) (by assumption) ?_
                    rotate_left
                    · intro w' hSw
                      go_simp
                      first | done | with_reducible rfl
                    simp only [Act.put, List.getElem_toArray, List.getElem_cons_succ, List.getElem_cons_zero, List.setIfInBounds_toArray, List.set_cons_zero, List.set_cons_succ]
                    refine wpAnyH_take (i := 9) (v := ?_) rfl (by kernel_rfl) (by kernel_rfl) (by kernel_rfl) (fun _ _ _ h => h) (Or.inl ⟨by rfl, ?_⟩) (by assumption) ?_
                    rotate_left
                    · intro w' hSw
                      go_simp
                      first | done | with_reducible rfl
                    simp only [Act.put, List.getElem_toArray, List.getElem_cons_succ, List.getElem_cons_zero, List.setIfInBounds_toArray, List.set_cons_zero, List.set_cons_succ]
                    refine wpAnyH_take (i := 10) (v := .agg X.cells.toArray) rfl (by kernel_rfl) (by kernel_rfl) (by kernel_rfl) (fun _ _ _ h => h) (Or.inl ⟨by rfl, ?_⟩) (by assumption) ?_
                    · intro w' hSw
                      exact exec_load_mid 47 (.tmp 17) rfl A (0) rfl X.cells _ hSw.a.cells Tryd.underlying47 rfl (e_info X)
                    simp only [Act.put, List.getElem_toArray, List.getElem_cons_succ, List.getElem_cons_zero, List.setIfInBounds_toArray, List.set_cons_zero, List.set_cons_succ]
                    refine wpAnyH_take (i := 12) (v := .agg X.cells.toArray) rfl (by kernel_rfl) (by kernel_rfl) (by kernel_rfl) (fun _ _ _ h => h) (Or.inl ⟨by rfl, ?_⟩) (by assumption) ?_
                    · intro w' hSw
                      exact exec_load_mid 43 (.tmp 20) rfl B (0) rfl X.cells _ hSw.b.cells Tryd.underlying43 rfl (ref_info X)
                    simp only [Act.put, List.getElem_toArray, List.getElem_cons_succ, List.getElem_cons_zero, List.setIfInBounds_toArray, List.set_cons_zero, List.set_cons_succ]
                    refine wpAnyH_all (rs := [11]) (by kernel_rfl) (by simp) (fun q hq => ?_)
                    obtain rfl := List.mem_singleton.1 hq
                    clear hq
                    refine wpOp_wp rfl (by rfl) (fun K' hK => ?_)
                    go_simp
                    refine (CTK.out _).mono ?_
                    rintro y W17 ⟨rfl, hb⟩
                    have hS17 := hS16.later hb
                    refine hK.out _ _ ⟨hS17, ?_⟩
                    clear hb
                    clear hK K'
                    try simp only [Act.put, List.getElem_toArray, List.getElem_cons_succ, List.getElem_cons_zero, List.setIfInBounds_toArray, List.set_cons_zero, List.set_cons_succ]
                    refine wpAnyH_take (i := 13) (v := .bool false) rfl (by kernel_rfl) (by kernel_rfl) (by kernel_rfl) (fun _ _ _ h => h) (Or.inl ⟨by rfl, ?_⟩) (by assumption) ?_
                    · intro w' hSw
                      exact exec_same (e := X) rfl rfl rfl
                    simp only [Act.put, List.getElem_toArray, List.getElem_cons_succ, List.getElem_cons_zero, List.setIfInBounds_toArray, List.set_cons_zero, List.set_cons_succ]
                    refine wpAnyH_take (i := 14) (v := ?_) rfl (by kernel_rfl) (by kernel_rfl) (by kernel_rfl) (fun _ _ _ h => h) (Or.inl ⟨by rfl, ?_⟩) (by assumption) ?_
                    rotate_left
                    · intro w' hSw
                      go_simp
                      first | done | with_reducible rfl
                    simp only [Act.put, List.getElem_toArray, List.getElem_cons_succ, List.getElem_cons_zero, List.setIfInBounds_toArray, List.set_cons_zero, List.set_cons_succ]
                    refine wpAnyH_take (i := 15) (v := ?_) rfl (by kernel_rfl) (by kernel_rfl) (by kernel_rfl) (fun _ _ _ h => h) (Or.inl ⟨by rfl, ?_⟩) (by assumption) ?_
                    rotate_left
                    · intro w' hSw
                      go_simp
                      first | done | with_reducible rfl
                    simp only [Act.put, List.getElem_toArray, List.getElem_cons_succ, List.getElem_cons_zero, List.setIfInBounds_toArray, List.set_cons_zero, List.set_cons_succ]
                    refine wpAnyH_take (i := 16) (v := ?_) rfl (by kernel_rfl) (by kernel_rfl) (by kernel_rfl) (fun _ _ _ h => h) (Or.inl ⟨by rfl, ?_⟩) (by assumption) ?_
                    rotate_left
                    · intro w' hSw
                      go_simp
                      first | done | with_reducible rfl
                    simp only [Act.put, List.getElem_toArray, List.getElem_cons_succ, List.getElem_cons_zero, List.setIfInBounds_toArray, List.set_cons_zero, List.set_cons_succ]
                    refine wpAnyH_take (i := 17) (v := ?_) rfl (by kernel_rfl) (by kernel_rfl) (by kernel_rfl) (fun _ _ _ h => h) (Or.inl ⟨by rfl, ?_⟩) (by assumption) ?_
                    rotate_left
                    · intro w' hSw
                      go_simp
                      first | done | with_reducible rfl
                    simp only [Act.put, List.getElem_toArray, List.getElem_cons_succ, List.getElem_cons_zero, List.setIfInBounds_toArray, List.set_cons_zero, List.set_cons_succ]
                    refine wpAnyH_take (i := 18) (v := ?_) rfl (by kernel_rfl) (by kernel_rfl) (by kernel_rfl) (fun _ _ _ h => h) (Or.inl ⟨by rfl, ?_⟩) (by assumption) ?_
                    rotate_left
                    · intro w' hSw
                      go_simp
                      first | done | with_reducible rfl
                    simp only [Act.put, List.getElem_toArray, List.getElem_cons_succ, List.getElem_cons_zero, List.setIfInBounds_toArray, List.set_cons_zero, List.set_cons_succ]
                    refine wpAnyH_take (i := 19) (v := ?_) rfl (by kernel_rfl) (by kernel_rfl) (by kernel_rfl) (fun _ _ _ h => h) (Or.inl ⟨by rfl, ?_⟩) (by assumption) ?_
                    rotate_left
                    · intro w' hSw
                      go_simp
                      first | done | with_reducible rfl
                    simp only [Act.put, List.getElem_toArray, List.getElem_cons_succ, List.getElem_cons_zero, List.setIfInBounds_toArray, List.set_cons_zero, List.set_cons_succ]
                    refine wpAnyH_take (i := 20) (v := ?_) rfl (by kernel_rfl) (by kernel_rfl) (by kernel_rfl) (fun _ _ _ h => h) (Or.inl ⟨by rfl, ?_⟩) (by assumption) ?_
                    rotate_left
                    · intro w' hSw
                      go_simp
                      first | done | with_reducible rfl
                    simp only [Act.put, List.getElem_toArray, List.getElem_cons_succ, List.getElem_cons_zero, List.setIfInBounds_toArray, List.set_cons_zero, List.set_cons_succ]
                    refine wpAnyH_take (i := 21) (v := ?_) rfl (by kernel_rfl) (by kernel_rfl) (by kernel_rfl) (fun _ _ _ h => h) (Or.inl ⟨by rfl, ?_⟩) (by assumption) ?_
                    rotate_left
                    · intro w' hSw
                      go_simp
                      first | done | with_reducible rfl
                    simp only [Act.put, List.getElem_toArray, List.getElem_cons_succ, List.getElem_cons_zero, List.setIfInBounds_toArray, List.set_cons_zero, List.set_cons_succ]
                    refine wpAnyH_take (i := 22) (v := ?_) rfl (by kernel_rfl) (by kernel_rfl) (by kernel_rfl) (fun _ _ _ h => h) (Or.inl ⟨by rfl, ?_⟩) (by assumption) ?_
                    rotate_left
                    · intro w' hSw
                      go_simp
                      first | done | with_reducible rfl
                    simp only [Act.put, List.getElem_toArray, List.getElem_cons_succ, List.getElem_cons_zero, List.setIfInBounds_toArray, List.set_cons_zero, List.set_cons_succ]
                    refine wpAnyH_take (i := 23) (v := ?_) rfl (by kernel_rfl) (by kernel_rfl) (by kernel_rfl) (fun _ _ _ h => h) (Or.inl ⟨by rfl, ?_⟩) (by assumption) ?_
                    rotate_left
                    · intro w' hSw
                      go_simp
                      first | done | with_reducible rfl
                    simp only [Act.put, List.getElem_toArray, List.getElem_cons_succ, List.getElem_cons_zero, List.setIfInBounds_toArray, List.set_cons_zero, List.set_cons_succ]
                    refine wpAnyH_take (i := 24) (v := ?_) rfl (by kernel_rfl) (by kernel_rfl) (by kernel_rfl) (fun _ _ _ h => h) (Or.inl ⟨by rfl, ?_⟩) (by assumption) ?_
                    rotate_left
                    · intro w' hSw
                      go_simp
                      first | done | with_reducible rfl
                    simp only [Act.put, List.getElem_toArray, List.getElem_cons_succ, List.getElem_cons_zero, List.setIfInBounds_toArray, List.set_cons_zero, List.set_cons_succ]
                    refine wpAnyH_done (by kernel_rfl) (NoPanic.normal ?_) _
                    have HF := Lib.hid hS17.pair
                    clear hS17 hS16 hS9 CSA CTK
                    go_wp2
                    go_roundw
                    case rel => exact ⟨i + 1, T, by omega, by go_num, HF, HFEW.out.1, HFEW.out.2⟩
                    case measure => simp [intOf]; omega
                · by_cases h4 : o.kind = 4
                  · have t0 : decide (o.kind = 0) = false := decide_eq_false h0
                    have s0 : (o.kind == 0) = false := by simpa using h0
                    have t1 : decide (o.kind = 1) = false := decide_eq_false h1
                    have s1 : (o.kind == 1) = false := by simpa using h1
                    have t2 : decide (o.kind = 2) = false := decide_eq_false h2
                    have s2 : (o.kind == 2) = false := by simpa using h2
                    have t3 : decide (o.kind = 3) = false := decide_eq_false h3
                    have s3 : (o.kind == 3) = false := by simpa using h3
                    have t4 : decide (o.kind = 4) = true := decide_eq_true h4
                    have s4 : (o.kind == 4) = true := by simpa using h4
                    go_wp2_with (first
                      | (refine wpList_load_mid rfl 46 _ rfl b (off + i * 9) rfl o.cells _ HRO.out Tryd.underlying46 rfl HOI.out ?_)
                      | (refine wpList_store_mid rfl 46 (.tmp 8) (.tmp 50) rfl wr.heap.size 0 o.cells.toArray rfl rfl HROOM.out (oc_infoA o) (oc_all o) ?_; generalize World.setCells _ _ _ _ = W2 at HPUT ⊢
                         have hop := HPUT.out.1
                         have c0 := hop.c0
                         have c5 := hop.c5
                         have c7 := hop.c7
                         have c8 := hop.c8
                         have HX := Lib.hid (PlX.mk ((hI.out.fresh (D := fun i => i = wr.heap.size) HPUT.out.2 (fun i hi => ⟨Nat.le_of_eq hi.symm, by subst hi; exact hop.lt⟩)).less (fun k hk => .inr hk)) hop)
                         clear hop HPUT HROOM HRO hI HOI
                         generalize wr.heap.size = b0 at c0 c5 c7 c8 HX ⊢
                         generalize strOf o.e.sum = q at c5 hsz))
                    as_aux_lemma =>
                      have CW := Lib.hid (fun W (h : Pair w W (fun k => k = b0) g r S S) => h.stepD (Ans := fun e => e = .returned (.tuple #[])) (fun F hd => d_start W hd))
                      have hfew : S.start.c ≤ i + 1 ∧ S.start.ops ≤ 2 * (i + 1) := ⟨by show S.c ≤ _; omega, by show S.ops ≤ _; omega⟩
                      clear c0 c5 c7 c8
                      refine (CW.out _ HX.out.pair).mono ?_
                      rintro y w3 ⟨rfl, hp, -⟩
                      obtain ⟨cr2, fr2, hr3, -⟩ := hp.startR
                      have HT := Lib.hid (hr3.less (D := fun _ => False) (fun _ e => e.elim))
                      clear hp hr3 HX CW
                      generalize S.start = T at HT hfew
                      go_wp2_with fail
                      clear cr2 fr2
                      have hokT := pair_ok HT.out
                      have HFEW := Lib.hid hfew
                      obtain ⟨l, hl⟩ : ∃ l, (DS.scn T).1 = l := ⟨_, rfl⟩
                      have hl8 : l.length ≤ 8 := by rw [← hl]; exact scn_len T
                      have CSD := Lib.hid (fun W (h : Pair w W (fun _ => False) g r T T) => pair_scanD h HHK.out (by omega))
                      have CSR := Lib.hid (fun W (h : Pair w W (fun _ => False) g r T T) => pair_scanR h hokT (by omega))
                      have CLD := Lib.hid (fun W (h : Pair w W (fun _ => False) g r T T) => pair_lastD h HHK.out (by omega))
                      have CLR := Lib.hid (fun W (h : Pair w W (fun _ => False) g r T T) => pair_lastR h hokT (by omega))
                      rw [hl] at CSD CSR
                      clear hl hokT hfew
                      generalize (DS.scn T).2 = fs at CSD CSR
                      generalize (DS.last T).1 = X at CLD CLR
                      generalize (DS.last T).2.1 = xis at CLD CLR
                      generalize (DS.last T).2.2 = fl at CLD CLR
                      refine (CSD.out _ HT.out).mono ?_
                      rintro y w10 ⟨va, rfl, hra, hb⟩
                      have HRA := Lib.hid hra
                      have HT10 := Lib.hid (HT.out.later hb)
                      clear hra hb HT CSD
                      go_wp2_with fail
                      refine (CSR.out _ HT10.out).mono ?_
                      rintro y w11 ⟨vb, rfl, hrb, hb⟩
                      have HRB := Lib.hid hrb
                      have HRA1 := Lib.hid (HRA.out.later hb)
                      have HT11 := Lib.hid (HT10.out.later hb)
                      clear hrb hb HT10 HRA CSR
                      go_wp2_with fail
                      refine (CLD.out _ HT11.out).mono ?_
                      rintro y w12 ⟨rfl, hb⟩
                      have HRB2 := Lib.hid (HRB.out.later hb)
                      have HRA2 := Lib.hid (HRA1.out.later hb)
                      have HT12 := Lib.hid (HT11.out.later hb)
                      clear hb HT11 HRA1 HRB CLD
                      have HZ12 := Lib.hid (ebt_zero w12 47)
                      have HP12 := Lib.hid (ebt_put w12 47 X)
                      go_wp2_with (first
                        | (refine wpList_store_mid rfl 47 (.tmp 17) (.tmp 157) rfl w12.heap.size 0 X.cells.toArray rfl rfl HZ12.out.room (e_infoA _) (e_all _) ?_; generalize World.setCells _ _ _ _ = W13 at HP12 ⊢; have HA13 := Lib.hid HP12.out.1; have HRB3 := Lib.hid (HRB2.out.later HP12.out.2); have HRA3 := Lib.hid (HRA2.out.later HP12.out.2); have HT13 := Lib.hid (HT12.out.later HP12.out.2); clear HP12 HZ12 HT12 HRA2 HRB2)
                        | (go_at_call 32; (with_reducible refine (CLR.out _ HT13.out).mono ?_); rintro y w14 ⟨rfl, hb⟩; have HA14 := Lib.hid (HA13.out.later hb); have HRB4 := Lib.hid (HRB3.out.later hb); have HRA4 := Lib.hid (HRA3.out.later hb); have HT14 := Lib.hid (HT13.out.later hb); clear hb HT13 HRA3 HRB3 HA13 CLR; have HZ14 := Lib.hid (ebt_zero w14 43); have HP14 := Lib.hid (ebt_put w14 43 X))
                        | (refine wpList_store_mid rfl 43 (.tmp 20) (.tmp 163) rfl w14.heap.size 0 X.cells.toArray rfl rfl HZ14.out.room (ref_infoA _) (e_all _) ?_; generalize World.setCells _ _ _ _ = W15 at HP14 ⊢; have HF15 := Lib.hid (show PlF w W15 g r w12.heap.size w14.heap.size T va vb l X from ⟨HT14.out.later HP14.out.2, HRA4.out.later HP14.out.2, HRB4.out.later HP14.out.2, HA14.out.later HP14.out.2, HP14.out.1⟩); clear HP14 HZ14 HT14 HRA4 HRB4 HA14))
                      generalize w12.heap.size = A at HF15 ⊢
                      generalize w14.heap.size = B at HF15 ⊢
                      have hS9 : PlF w W15.drew g r A B T va vb l X := HF15.out.later ⟨rfl, rfl, rfl, Nat.le_refl _, fun _ _ => rfl⟩
                      clear HF15
                      have CSA := Lib.hid (fun W (h : PlF w W g r A B T va vb l X) => same_yes va vb l hl8 W h.ra h.rb)
                      have CTK : Hid (∀ W, Calls Tryd.prog 19 #[.agg X.cells.toArray] W fun y w' => y = .returned (.agg X.cells.toArray) ∧ Below W.heap.size W w') := Lib.hid (fun W => taken_any X W)
                      refine wp_region_noPanic (wp_region_held_drew (S := fun W => PlF w W g r A B T va vb l X) (by kernel_rfl) hS9 (fun hHeld => ?_))
                      refine wpAnyH_take (i := 0) (v := ?_) rfl (by kernel_rfl) (by kernel_rfl) (by kernel_rfl) (fun _ _ _ h => h) (Or.inl ⟨by rfl, ?_⟩) (by assumption) ?_
                      rotate_left
                      · intro w' hSw
                        go_simp
                        first | done | with_reducible rfl
                      simp only [Act.put, List.getElem_toArray, List.getElem_cons_zero, List.setIfInBounds_toArray, List.set_cons_zero, List.set_cons_succ]
                      refine wpAnyH_take (i := 1) (v := ?_) rfl (by kernel_rfl) (by kernel_rfl) (by kernel_rfl) (fun _ _ _ h => h) (Or.inl ⟨by rfl, ?_⟩) (by assumption) ?_
                      rotate_left
                      · intro w' hSw
                        go_simp
                        first | done | with_reducible rfl
                      simp only [Act.put, List.getElem_toArray, List.getElem_cons_succ, List.getElem_cons_zero, List.setIfInBounds_toArray, List.set_cons_zero, List.set_cons_succ]
                      refine wpAnyH_all (rs := [2]) (by kernel_rfl) (by simp) (fun q hq => ?_)
                      obtain rfl := List.mem_singleton.1 hq
                      clear hq
                      refine wpOp_wp rfl (by rfl) (fun K' hK => ?_)
                      go_simp
                      refine (CSA.out _ hS9).mono ?_
                      rintro y W16 ⟨rfl, hb⟩
                      have hS16 := hS9.later hb
                      refine hK.out _ _ ⟨hS16, ?_⟩
                      clear hb
                      clear hK K'
                      try simp only [Act.put, List.getElem_toArray, List.getElem_cons_succ, List.getElem_cons_zero, List.setIfInBounds_toArray, List.set_cons_zero, List.set_cons_succ]
                      refine wpAnyH_take (i := 3) (v := ?_) rfl (by kernel_rfl) (by kernel_rfl) (by kernel_rfl) (fun _ _ _ h => h) (Or.inl ⟨by rfl, ?_⟩) (by assumption) ?_
                      rotate_left
                      · intro w' hSw
                        go_simp
                        first | done | with_reducible rfl
                      simp only [Act.put, List.getElem_toArray, List.getElem_cons_succ, List.getElem_cons_zero, List.setIfInBounds_toArray, List.set_cons_zero, List.set_cons_succ]
                      refine wpAnyH_take (i := 4) (v := ?_) rfl (by kernel_rfl) (by kernel_rfl) (by kernel_rfl) (fun _ _ _ h => h) (Or.inl ⟨by rfl, ?_⟩) (by assumption) ?_
                      rotate_left
                      · intro w' hSw
                        go_simp
                        first | done | with_reducible rfl
                      simp only [Act.put, List.getElem_toArray, List.getElem_cons_succ, List.getElem_cons_zero, List.setIfInBounds_toArray, List.set_cons_zero, List.set_cons_succ]
                      refine wpAnyH_take (i := 5) (v := ?_) rfl (by kernel_rfl) (by kernel_rfl) (by kernel_rfl) (fun _ _ _ h => h) (Or.inl ⟨by rfl, ?_⟩) (by assumption) ?_
                      rotate_left
                      · intro w' hSw
                        go_simp
                        first | done | with_reducible rfl
                      simp only [Act.put, List.getElem_toArray, List.getElem_cons_succ, List.getElem_cons_zero, List.setIfInBounds_toArray, List.set_cons_zero, List.set_cons_succ]
                      refine wpAnyH_take (i := 6) (v := ?_) rfl (by kernel_rfl) (by kernel_rfl) (by kernel_rfl) (fun _ _ _ h => h) (Or.inl ⟨by rfl, ?_⟩) (by assumption) ?_
                      rotate_left
                      · intro w' hSw
                        go_simp
                        first | done | with_reducible rfl
                      simp only [Act.put, List.getElem_toArray, List.getElem_cons_succ, List.getElem_cons_zero, List.setIfInBounds_toArray, List.set_cons_zero, List.set_cons_succ]
                      refine wpAnyH_take (i := 7) (v := ?_) rfl (by kernel_rfl) (by kernel_rfl) (by kernel_rfl) (fun _ _ _ h => h) (Or.inl ⟨by rfl, ?_⟩) (by assumption) ?_
                      rotate_left
                      · intro w' hSw
                        go_simp
                        first | done | with_reducible rfl
                      simp only [Act.put, List.getElem_toArray, List.getElem_cons_succ, List.getElem_cons_zero, List.setIfInBounds_toArray, List.set_cons_zero, List.set_cons_succ]
                      refine wpAnyH_take (i := 8) (v := ?_) rfl (by kernel_rfl) (by kernel_rfl) (by kernel_rfl) (fun _ _ _ h => h) (Or.inl ⟨by rfl, ?_⟩) (by assumption) ?_
                      rotate_left
                      · intro w' hSw
                        go_simp
                        first | done | with_reducible rfl
                      simp only [Act.put, List.getElem_toArray, List.getElem_cons_succ, List.getElem_cons_zero, List.setIfInBounds_toArray, List.set_cons_zero, List.set_cons_succ]
                      refine wpAnyH_take (i := 9) (v := ?_) rfl (by kernel_rfl) (by kernel_rfl) (by kernel_rfl) (fun _ _ _ h => h) (Or.inl ⟨by rfl, ?_⟩) (by assumption) ?_
                      rotate_left
                      · intro w' hSw
                        go_simp
                        first | done | with_reducible rfl
                      simp only [Act.put, List.getElem_toArray, List.getElem_cons_succ, List.getElem_cons_zero, List.setIfInBounds_toArray, List.set_cons_zero, List.set_cons_succ]
                      refine wpAnyH_take (i := 10) (v := .agg X.cells.toArray) rfl (by kernel_rfl) (by kernel_rfl) (by kernel_rfl) (fun _ _ _ h => h) (Or.inl ⟨by rfl, ?_⟩) (by assumption) ?_
                      · intro w' hSw
                        exact exec_load_mid 47 (.tmp 17) rfl A (0) rfl X.cells _ hSw.a.cells Tryd.underlying47 rfl (e_info X)
                      simp only [Act.put, List.getElem_toArray, List.getElem_cons_succ, List.getElem_cons_zero, List.setIfInBounds_toArray, List.set_cons_zero, List.set_cons_succ]
                      refine wpAnyH_take (i := 12) (v := .agg X.cells.toArray) rfl (by kernel_rfl) (by kernel_rfl) (by kernel_rfl) (fun _ _ _ h => h) (Or.inl ⟨by rfl, ?_⟩) (by assumption) ?_
                      · intro w' hSw
                        exact exec_load_mid 43 (.tmp 20) rfl B (0) rfl X.cells _ hSw.b.cells Tryd.underlying43 rfl (ref_info X)
                      simp only [Act.put, List.getElem_toArray, List.getElem_cons_succ, List.getElem_cons_zero, List.setIfInBounds_toArray, List.set_cons_zero, List.set_cons_succ]
                      refine wpAnyH_all (rs := [11]) (by kernel_rfl) (by simp) (fun q hq => ?_)
                      obtain rfl := List.mem_singleton.1 hq
                      clear hq
                      refine wpOp_wp rfl (by rfl) (fun K' hK => ?_)
                      go_simp
                      refine (CTK.out _).mono ?_
                      rintro y W17 ⟨rfl, hb⟩
                      have hS17 := hS16.later hb
                      refine hK.out _ _ ⟨hS17, ?_⟩
                      clear hb
                      clear hK K'
                      try simp only [Act.put, List.getElem_toArray, List.getElem_cons_succ, List.getElem_cons_zero, List.setIfInBounds_toArray, List.set_cons_zero, List.set_cons_succ]
                      refine wpAnyH_take (i := 13) (v := .bool false) rfl (by kernel_rfl) (by kernel_rfl) (by kernel_rfl) (fun _ _ _ h => h) (Or.inl ⟨by rfl, ?_⟩) (by assumption) ?_
                      · intro w' hSw
                        exact exec_same (e := X) rfl rfl rfl
                      simp only [Act.put, List.getElem_toArray, List.getElem_cons_succ, List.getElem_cons_zero, List.setIfInBounds_toArray, List.set_cons_zero, List.set_cons_succ]
                      refine wpAnyH_take (i := 14) (v := ?_) rfl (by kernel_rfl) (by kernel_rfl) (by kernel_rfl) (fun _ _ _ h => h) (Or.inl ⟨by rfl, ?_⟩) (by assumption) ?_
                      rotate_left
                      · intro w' hSw
                        go_simp
                        first | done | with_reducible rfl
                      simp only [Act.put, List.getElem_toArray, List.getElem_cons_succ, List.getElem_cons_zero, List.setIfInBounds_toArray, List.set_cons_zero, List.set_cons_succ]
                      refine wpAnyH_take (i := 15) (v := ?_) rfl (by kernel_rfl) (by kernel_rfl) (by kernel_rfl) (fun _ _ _ h => h) (Or.inl ⟨by rfl, ?_⟩) (by assumption) ?_
                      rotate_left
                      · intro w' hSw
                        go_simp
                        first | done | with_reducible rfl
                      simp only [Act.put, List.getElem_toArray, List.getElem_cons_succ, List.getElem_cons_zero, List.setIfInBounds_toArray, List.set_cons_zero, List.set_cons_succ]
                      refine wpAnyH_take (i := 16) (v := ?_) rfl (by kernel_rfl) (by kernel_rfl) (by kernel_rfl) (fun _ _ _ h => h) (Or.inl ⟨by rfl, ?_⟩) (by assumption) ?_
                      rotate_left
                      · intro w' hSw
                        go_simp
                        first | done | with_reducible rfl
                      simp only [Act.put, List.getElem_toArray, List.getElem_cons_succ, List.getElem_cons_zero, List.setIfInBounds_toArray, List.set_cons_zero, List.set_cons_succ]
                      refine wpAnyH_take (i := 17) (v := ?_) rfl (by kernel_rfl) (by kernel_rfl) (by kernel_rfl) (fun _ _ _ h => h) (Or.inl ⟨by rfl, ?_⟩) (by assumption) ?_
                      rotate_left
                      · intro w' hSw
                        go_simp
                        first | done | with_reducible rfl
                      simp only [Act.put, List.getElem_toArray, List.getElem_cons_succ, List.getElem_cons_zero, List.setIfInBounds_toArray, List.set_cons_zero, List.set_cons_succ]
                      refine wpAnyH_take (i := 18) (v := ?_) rfl (by kernel_rfl) (by kernel_rfl) (by kernel_rfl) (fun _ _ _ h => h) (Or.inl ⟨by rfl, ?_⟩) (by assumption) ?_
                      rotate_left
                      · intro w' hSw
                        go_simp
                        first | done | with_reducible rfl
                      simp only [Act.put, List.getElem_toArray, List.getElem_cons_succ, List.getElem_cons_zero, List.setIfInBounds_toArray, List.set_cons_zero, List.set_cons_succ]
                      refine wpAnyH_take (i := 19) (v := ?_) rfl (by kernel_rfl) (by kernel_rfl) (by kernel_rfl) (fun _ _ _ h => h) (Or.inl ⟨by rfl, ?_⟩) (by assumption) ?_
                      rotate_left
                      · intro w' hSw
                        go_simp
                        first | done | with_reducible rfl
                      simp only [Act.put, List.getElem_toArray, List.getElem_cons_succ, List.getElem_cons_zero, List.setIfInBounds_toArray, List.set_cons_zero, List.set_cons_succ]
                      refine wpAnyH_take (i := 20) (v := ?_) rfl (by kernel_rfl) (by kernel_rfl) (by kernel_rfl) (fun _ _ _ h => h) (Or.inl ⟨by rfl, ?_⟩) (by assumption) ?_
                      rotate_left
                      · intro w' hSw
                        go_simp
                        first | done | with_reducible rfl
                      simp only [Act.put, List.getElem_toArray, List.getElem_cons_succ, List.getElem_cons_zero, List.setIfInBounds_toArray, List.set_cons_zero, List.set_cons_succ]
                      refine wpAnyH_take (i := 21) (v := ?_) rfl (by kernel_rfl) (by kernel_rfl) (by kernel_rfl) (fun _ _ _ h => h) (Or.inl ⟨by rfl, ?_⟩) (by assumption) ?_
                      rotate_left
                      · intro w' hSw
                        go_simp
                        first | done | with_reducible rfl
                      simp only [Act.put, List.getElem_toArray, List.getElem_cons_succ, List.getElem_cons_zero, List.setIfInBounds_toArray, List.set_cons_zero, List.set_cons_succ]
                      refine wpAnyH_take (i := 22) (v := ?_) rfl (by kernel_rfl) (by kernel_rfl) (by kernel_rfl) (fun _ _ _ h => h) (Or.inl ⟨by rfl, ?_⟩) (by assumption) ?_
                      rotate_left
                      · intro w' hSw
                        go_simp
                        first | done | with_reducible rfl
                      simp only [Act.put, List.getElem_toArray, List.getElem_cons_succ, List.getElem_cons_zero, List.setIfInBounds_toArray, List.set_cons_zero, List.set_cons_succ]
                      refine wpAnyH_take (i := 23) (v := ?_) rfl (by kernel_rfl) (by kernel_rfl) (by kernel_rfl) (fun _ _ _ h => h) (Or.inl ⟨by rfl, ?_⟩) (by assumption) ?_
                      rotate_left
                      · intro w' hSw
                        go_simp
                        first | done | with_reducible rfl
                      simp only [Act.put, List.getElem_toArray, List.getElem_cons_succ, List.getElem_cons_zero, List.setIfInBounds_toArray, List.set_cons_zero, List.set_cons_succ]
                      refine wpAnyH_take (i := 24) (v := ?_) rfl (by kernel_rfl) (by kernel_rfl) (by kernel_rfl) (fun _ _ _ h => h) (Or.inl ⟨by rfl, ?_⟩) (by assumption) ?_
                      rotate_left
                      · intro w' hSw
                        go_simp
                        first | done | with_reducible rfl
                      simp only [Act.put, List.getElem_toArray, List.getElem_cons_succ, List.getElem_cons_zero, List.setIfInBounds_toArray, List.set_cons_zero, List.set_cons_succ]
                      refine wpAnyH_done (by kernel_rfl) (NoPanic.normal ?_) _
                      have HF := Lib.hid hS17.pair
                      clear hS17 hS16 hS9 CSA CTK
                      go_wp2
                      go_roundw
                      case rel => exact ⟨i + 1, T, by omega, by go_num, HF, HFEW.out.1, HFEW.out.2⟩
                      case measure => simp [intOf]; omega
                  · have t0 : decide (o.kind = 0) = false := decide_eq_false h0
                    have s0 : (o.kind == 0) = false := by simpa using h0
                    have t1 : decide (o.kind = 1) = false := decide_eq_false h1
                    have s1 : (o.kind == 1) = false := by simpa using h1
                    have t2 : decide (o.kind = 2) = false := decide_eq_false h2
                    have s2 : (o.kind == 2) = false := by simpa using h2
                    have t3 : decide (o.kind = 3) = false := decide_eq_false h3
                    have s3 : (o.kind == 3) = false := by simpa using h3
                    have t4 : decide (o.kind = 4) = false := decide_eq_false h4
                    have s4 : (o.kind == 4) = false := by simpa using h4
                    go_wp2_with (first
                      | (refine wpList_load_mid rfl 46 _ rfl b (off + i * 9) rfl o.cells _ HRO.out Tryd.underlying46 rfl HOI.out ?_)
                      | (refine wpList_store_mid rfl 46 (.tmp 8) (.tmp 50) rfl wr.heap.size 0 o.cells.toArray rfl rfl HROOM.out (oc_infoA o) (oc_all o) ?_; generalize World.setCells _ _ _ _ = W2 at HPUT ⊢
                         have hop := HPUT.out.1
                         have c0 := hop.c0
                         have c5 := hop.c5
                         have c7 := hop.c7
                         have c8 := hop.c8
                         have HX := Lib.hid (PlX.mk ((hI.out.fresh (D := fun i => i = wr.heap.size) HPUT.out.2 (fun i hi => ⟨Nat.le_of_eq hi.symm, by subst hi; exact hop.lt⟩)).less (fun k hk => .inr hk)) hop)
                         clear hop HPUT HROOM HRO hI HOI
                         generalize wr.heap.size = b0 at c0 c5 c7 c8 HX ⊢
                         generalize strOf o.e.sum = q at c5 hsz))
                    as_aux_lemma =>
                      have hfew : S.c ≤ i + 1 ∧ S.ops ≤ 2 * (i + 1) := by omega
                      have HT := Lib.hid HX.out.less
                      clear HX c0 c5 c7 c8
                      have hokT := pair_ok HT.out
                      have HFEW := Lib.hid hfew
                      obtain ⟨l, hl⟩ : ∃ l, (DS.scn S).1 = l := ⟨_, rfl⟩
                      have hl8 : l.length ≤ 8 := by rw [← hl]; exact scn_len S
                      have CSD := Lib.hid (fun W (h : Pair w W (fun _ => False) g r S S) => pair_scanD h HHK.out (by omega))
                      have CSR := Lib.hid (fun W (h : Pair w W (fun _ => False) g r S S) => pair_scanR h hokT (by omega))
                      have CLD := Lib.hid (fun W (h : Pair w W (fun _ => False) g r S S) => pair_lastD h HHK.out (by omega))
                      have CLR := Lib.hid (fun W (h : Pair w W (fun _ => False) g r S S) => pair_lastR h hokT (by omega))
                      rw [hl] at CSD CSR
                      clear hl hokT hfew
                      generalize (DS.scn S).2 = fs at CSD CSR
                      generalize (DS.last S).1 = X at CLD CLR
                      generalize (DS.last S).2.1 = xis at CLD CLR
                      generalize (DS.last S).2.2 = fl at CLD CLR
                      refine (CSD.out _ HT.out).mono ?_
                      rintro y w10 ⟨va, rfl, hra, hb⟩
                      have HRA := Lib.hid hra
                      have HT10 := Lib.hid (HT.out.later hb)
                      clear hra hb HT CSD
                      go_wp2_with fail
                      refine (CSR.out _ HT10.out).mono ?_
                      rintro y w11 ⟨vb, rfl, hrb, hb⟩
                      have HRB := Lib.hid hrb
                      have HRA1 := Lib.hid (HRA.out.later hb)
                      have HT11 := Lib.hid (HT10.out.later hb)
                      clear hrb hb HT10 HRA CSR
                      go_wp2_with fail
                      refine (CLD.out _ HT11.out).mono ?_
                      rintro y w12 ⟨rfl, hb⟩
                      have HRB2 := Lib.hid (HRB.out.later hb)
                      have HRA2 := Lib.hid (HRA1.out.later hb)
                      have HT12 := Lib.hid (HT11.out.later hb)
                      clear hb HT11 HRA1 HRB CLD
                      have HZ12 := Lib.hid (ebt_zero w12 47)
                      have HP12 := Lib.hid (ebt_put w12 47 X)
                      go_wp2_with (first
                        | (refine wpList_store_mid rfl 47 (.tmp 17) (.tmp 157) rfl w12.heap.size 0 X.cells.toArray rfl rfl HZ12.out.room (e_infoA _) (e_all _) ?_; generalize World.setCells _ _ _ _ = W13 at HP12 ⊢; have HA13 := Lib.hid HP12.out.1; have HRB3 := Lib.hid (HRB2.out.later HP12.out.2); have HRA3 := Lib.hid (HRA2.out.later HP12.out.2); have HT13 := Lib.hid (HT12.out.later HP12.out.2); clear HP12 HZ12 HT12 HRA2 HRB2)
                        | (go_at_call 32; (with_reducible refine (CLR.out _ HT13.out).mono ?_); rintro y w14 ⟨rfl, hb⟩; have HA14 := Lib.hid (HA13.out.later hb); have HRB4 := Lib.hid (HRB3.out.later hb); have HRA4 := Lib.hid (HRA3.out.later hb); have HT14 := Lib.hid (HT13.out.later hb); clear hb HT13 HRA3 HRB3 HA13 CLR; have HZ14 := Lib.hid (ebt_zero w14 43); have HP14 := Lib.hid (ebt_put w14 43 X))
                        | (refine wpList_store_mid rfl 43 (.tmp 20) (.tmp 163) rfl w14.heap.size 0 X.cells.toArray rfl rfl HZ14.out.room (ref_infoA _) (e_all _) ?_; generalize World.setCells _ _ _ _ = W15 at HP14 ⊢; have HF15 := Lib.hid (show PlF w W15 g r w12.heap.size w14.heap.size S va vb l X from ⟨HT14.out.later HP14.out.2, HRA4.out.later HP14.out.2, HRB4.out.later HP14.out.2, HA14.out.later HP14.out.2, HP14.out.1⟩); clear HP14 HZ14 HT14 HRA4 HRB4 HA14))
                      generalize w12.heap.size = A at HF15 ⊢
                      generalize w14.heap.size = B at HF15 ⊢
                      have hS9 : PlF w W15.drew g r A B S va vb l X := HF15.out.later ⟨rfl, rfl, rfl, Nat.le_refl _, fun _ _ => rfl⟩
                      clear HF15
                      have CSA := Lib.hid (fun W (h : PlF w W g r A B S va vb l X) => same_yes va vb l hl8 W h.ra h.rb)
                      have CTK : Hid (∀ W, Calls Tryd.prog 19 #[.agg X.cells.toArray] W fun y w' => y = .returned (.agg X.cells.toArray) ∧ Below W.heap.size W w') := Lib.hid (fun W => taken_any X W)
                      refine wp_region_noPanic (wp_region_held_drew (S := fun W => PlF w W g r A B S va vb l X) (by kernel_rfl) hS9 (fun hHeld => ?_))
                      refine wpAnyH_take (i := 0) (v := ?_) rfl (by kernel_rfl) (by kernel_rfl) (by kernel_rfl) (fun _ _ _ h => h) (Or.inl ⟨by rfl, ?_⟩) (by assumption) ?_
                      rotate_left
                      · intro w' hSw
                        go_simp
                        first | done | with_reducible rfl
                      simp only [Act.put, List.getElem_toArray, List.getElem_cons_zero, List.setIfInBounds_toArray, List.set_cons_zero, List.set_cons_succ]
                      refine wpAnyH_take (i := 1) (v := ?_) rfl (by kernel_rfl) (by kernel_rfl) (by kernel_rfl) (fun _ _ _ h => h) (Or.inl ⟨by rfl, ?_⟩) (by assumption) ?_
                      rotate_left
                      · intro w' hSw
                        go_simp
                        first | done | with_reducible rfl
                      simp only [Act.put, List.getElem_toArray, List.getElem_cons_succ, List.getElem_cons_zero, List.setIfInBounds_toArray, List.set_cons_zero, List.set_cons_succ]
                      refine wpAnyH_all (rs := [2]) (by kernel_rfl) (by simp) (fun q hq => ?_)
                      obtain rfl := List.mem_singleton.1 hq
                      clear hq
                      refine wpOp_wp rfl (by rfl) (fun K' hK => ?_)
                      go_simp
                      refine (CSA.out _ hS9).mono ?_
                      rintro y W16 ⟨rfl, hb⟩
                      have hS16 := hS9.later hb
                      refine hK.out _ _ ⟨hS16, ?_⟩
                      clear hb
                      clear hK K'
                      try simp only [Act.put, List.getElem_toArray, List.getElem_cons_succ, List.getElem_cons_zero, List.setIfInBounds_toArray, List.set_cons_zero, List.set_cons_succ]
                      refine wpAnyH_take (i := 3) (v := ?_) rfl (by kernel_rfl) (by kernel_rfl) (by kernel_rfl) (fun _ _ _ h => h) (Or.inl ⟨by rfl, ?_⟩) (by assumption) ?_
                      rotate_left
                      · intro w' hSw
                        go_simp
                        first | done | with_reducible rfl
                      simp only [Act.put, List.getElem_toArray, List.getElem_cons_succ, List.getElem_cons_zero, List.setIfInBounds_toArray, List.set_cons_zero, List.set_cons_succ]
                      refine wpAnyH_take (i := 4) (v := ?_) rfl (by kernel_rfl) (by kernel_rfl) (by kernel_rfl) (fun _ _ _ h => h) (Or.inl ⟨by rfl, ?_⟩) (by assumption) ?_
                      rotate_left
                      · intro w' hSw
                        go_simp
                        first | done | with_reducible rfl
                      simp only [Act.put, List.getElem_toArray, List.getElem_cons_succ, List.getElem_cons_zero, List.setIfInBounds_toArray, List.set_cons_zero, List.set_cons_succ]
                      refine wpAnyH_take (i := 5) (v := ?_) rfl (by kernel_rfl) (by kernel_rfl) (by kernel_rfl) (fun _ _ _ h => h) (Or.inl ⟨by rfl, ?_⟩) (by assumption) ?_
                      rotate_left
                      · intro w' hSw
                        go_simp
                        first | done | with_reducible rfl
                      simp only [Act.put, List.getElem_toArray, List.getElem_cons_succ, List.getElem_cons_zero, List.setIfInBounds_toArray, List.set_cons_zero, List.set_cons_succ]
                      refine wpAnyH_take (i := 6) (v := ?_) rfl (by kernel_rfl) (by kernel_rfl) (by kernel_rfl) (fun _ _ _ h => h) (Or.inl ⟨by rfl, ?_⟩) (by assumption) ?_
                      rotate_left
                      · intro w' hSw
                        go_simp
                        first | done | with_reducible rfl
                      simp only [Act.put, List.getElem_toArray, List.getElem_cons_succ, List.getElem_cons_zero, List.setIfInBounds_toArray, List.set_cons_zero, List.set_cons_succ]
                      refine wpAnyH_take (i := 7) (v := ?_) rfl (by kernel_rfl) (by kernel_rfl) (by kernel_rfl) (fun _ _ _ h => h) (Or.inl ⟨by rfl, ?_⟩) (by assumption) ?_
                      rotate_left
                      · intro w' hSw
                        go_simp
                        first | done | with_reducible rfl
                      simp only [Act.put, List.getElem_toArray, List.getElem_cons_succ, List.getElem_cons_zero, List.setIfInBounds_toArray, List.set_cons_zero, List.set_cons_succ]
                      refine wpAnyH_take (i := 8) (v := ?_) rfl (by kernel_rfl) (by kernel_rfl) (by kernel_rfl) (fun _ _ _ h => h) (Or.inl ⟨by rfl, ?_⟩) (by assumption) ?_
                      rotate_left
                      · intro w' hSw
                        go_simp
                        first | done | with_reducible rfl
                      simp only [Act.put, List.getElem_toArray, List.getElem_cons_succ, List.getElem_cons_zero, List.setIfInBounds_toArray, List.set_cons_zero, List.set_cons_succ]
                      refine wpAnyH_take (i := 9) (v := ?_) rfl (by kernel_rfl) (by kernel_rfl) (by kernel_rfl) (fun _ _ _ h => h) (Or.inl ⟨by rfl, ?_⟩) (by assumption) ?_
                      rotate_left
                      · intro w' hSw
                        go_simp
                        first | done | with_reducible rfl
                      simp only [Act.put, List.getElem_toArray, List.getElem_cons_succ, List.getElem_cons_zero, List.setIfInBounds_toArray, List.set_cons_zero, List.set_cons_succ]
                      refine wpAnyH_take (i := 10) (v := .agg X.cells.toArray) rfl (by kernel_rfl) (by kernel_rfl) (by kernel_rfl) (fun _ _ _ h => h) (Or.inl ⟨by rfl, ?_⟩) (by assumption) ?_
                      · intro w' hSw
                        exact exec_load_mid 47 (.tmp 17) rfl A (0) rfl X.cells _ hSw.a.cells Tryd.underlying47 rfl (e_info X)
                      simp only [Act.put, List.getElem_toArray, List.getElem_cons_succ, List.getElem_cons_zero, List.setIfInBounds_toArray, List.set_cons_zero, List.set_cons_succ]
                      refine wpAnyH_take (i := 12) (v := .agg X.cells.toArray) rfl (by kernel_rfl) (by kernel_rfl) (by kernel_rfl) (fun _ _ _ h => h) (Or.inl ⟨by rfl, ?_⟩) (by assumption) ?_
                      · intro w' hSw
                        exact exec_load_mid 43 (.tmp 20) rfl B (0) rfl X.cells _ hSw.b.cells Tryd.underlying43 rfl (ref_info X)
                      simp only [Act.put, List.getElem_toArray, List.getElem_cons_succ, List.getElem_cons_zero, List.setIfInBounds_toArray, List.set_cons_zero, List.set_cons_succ]
                      refine wpAnyH_all (rs := [11]) (by kernel_rfl) (by simp) (fun q hq => ?_)
                      obtain rfl := List.mem_singleton.1 hq
                      clear hq
                      refine wpOp_wp rfl (by rfl) (fun K' hK => ?_)
                      go_simp
                      refine (CTK.out _).mono ?_
                      rintro y W17 ⟨rfl, hb⟩
                      have hS17 := hS16.later hb
                      refine hK.out _ _ ⟨hS17, ?_⟩
                      clear hb
                      clear hK K'
                      try simp only [Act.put, List.getElem_toArray, List.getElem_cons_succ, List.getElem_cons_zero, List.setIfInBounds_toArray, List.set_cons_zero, List.set_cons_succ]
                      refine wpAnyH_take (i := 13) (v := .bool false) rfl (by kernel_rfl) (by kernel_rfl) (by kernel_rfl) (fun _ _ _ h => h) (Or.inl ⟨by rfl, ?_⟩) (by assumption) ?_
                      · intro w' hSw
                        exact exec_same (e := X) rfl rfl rfl
                      simp only [Act.put, List.getElem_toArray, List.getElem_cons_succ, List.getElem_cons_zero, List.setIfInBounds_toArray, List.set_cons_zero, List.set_cons_succ]
                      refine wpAnyH_take (i := 14) (v := ?_) rfl (by kernel_rfl) (by kernel_rfl) (by kernel_rfl) (fun _ _ _ h => h) (Or.inl ⟨by rfl, ?_⟩) (by assumption) ?_
                      rotate_left
                      · intro w' hSw
                        go_simp
                        first | done | with_reducible rfl
                      simp only [Act.put, List.getElem_toArray, List.getElem_cons_succ, List.getElem_cons_zero, List.setIfInBounds_toArray, List.set_cons_zero, List.set_cons_succ]
                      refine wpAnyH_take (i := 15) (v := ?_) rfl (by kernel_rfl) (by kernel_rfl) (by kernel_rfl) (fun _ _ _ h => h) (Or.inl ⟨by rfl, ?_⟩) (by assumption) ?_
                      rotate_left
                      · intro w' hSw
                        go_simp
                        first | done | with_reducible rfl
                      simp only [Act.put, List.getElem_toArray, List.getElem_cons_succ, List.getElem_cons_zero, List.setIfInBounds_toArray, List.set_cons_zero, List.set_cons_succ]
                      refine wpAnyH_take (i := 16) (v := ?_) rfl (by kernel_rfl) (by kernel_rfl) (by kernel_rfl) (fun _ _ _ h => h) (Or.inl ⟨by rfl, ?_⟩) (by assumption) ?_
                      rotate_left
                      · intro w' hSw
                        go_simp
                        first | done | with_reducible rfl
                      simp only [Act.put, List.getElem_toArray, List.getElem_cons_succ, List.getElem_cons_zero, List.setIfInBounds_toArray, List.set_cons_zero, List.set_cons_succ]
                      refine wpAnyH_take (i := 17) (v := ?_) rfl (by kernel_rfl) (by kernel_rfl) (by kernel_rfl) (fun _ _ _ h => h) (Or.inl ⟨by rfl, ?_⟩) (by assumption) ?_
                      rotate_left
                      · intro w' hSw
                        go_simp
                        first | done | with_reducible rfl
                      simp only [Act.put, List.getElem_toArray, List.getElem_cons_succ, List.getElem_cons_zero, List.setIfInBounds_toArray, List.set_cons_zero, List.set_cons_succ]
                      refine wpAnyH_take (i := 18) (v := ?_) rfl (by kernel_rfl) (by kernel_rfl) (by kernel_rfl) (fun _ _ _ h => h) (Or.inl ⟨by rfl, ?_⟩) (by assumption) ?_
                      rotate_left
                      · intro w' hSw
                        go_simp
                        first | done | with_reducible rfl
                      simp only [Act.put, List.getElem_toArray, List.getElem_cons_succ, List.getElem_cons_zero, List.setIfInBounds_toArray, List.set_cons_zero, List.set_cons_succ]
                      refine wpAnyH_take (i := 19) (v := ?_) rfl (by kernel_rfl) (by kernel_rfl) (by kernel_rfl) (fun _ _ _ h => h) (Or.inl ⟨by rfl, ?_⟩) (by assumption) ?_
                      rotate_left
                      · intro w' hSw
                        go_simp
                        first | done | with_reducible rfl
                      simp only [Act.put, List.getElem_toArray, List.getElem_cons_succ, List.getElem_cons_zero, List.setIfInBounds_toArray, List.set_cons_zero, List.set_cons_succ]
                      refine wpAnyH_take (i := 20) (v := ?_) rfl (by kernel_rfl) (by kernel_rfl) (by kernel_rfl) (fun _ _ _ h => h) (Or.inl ⟨by rfl, ?_⟩) (by assumption) ?_
                      rotate_left
                      · intro w' hSw
                        go_simp
                        first | done | with_reducible rfl
                      simp only [Act.put, List.getElem_toArray, List.getElem_cons_succ, List.getElem_cons_zero, List.setIfInBounds_toArray, List.set_cons_zero, List.set_cons_succ]
                      refine wpAnyH_take (i := 21) (v := ?_) rfl (by kernel_rfl) (by kernel_rfl) (by kernel_rfl) (fun _ _ _ h => h) (Or.inl ⟨by rfl, ?_⟩) (by assumption) ?_
                      rotate_left
                      · intro w' hSw
                        go_simp
                        first | done | with_reducible rfl
                      simp only [Act.put, List.getElem_toArray, List.getElem_cons_succ, List.getElem_cons_zero, List.setIfInBounds_toArray, List.set_cons_zero, List.set_cons_succ]
                      refine wpAnyH_take (i := 22) (v := ?_) rfl (by kernel_rfl) (by kernel_rfl) (by kernel_rfl) (fun _ _ _ h => h) (Or.inl ⟨by rfl, ?_⟩) (by assumption) ?_
                      rotate_left
                      · intro w' hSw
                        go_simp
                        first | done | with_reducible rfl
                      simp only [Act.put, List.getElem_toArray, List.getElem_cons_succ, List.getElem_cons_zero, List.setIfInBounds_toArray, List.set_cons_zero, List.set_cons_succ]
                      refine wpAnyH_take (i := 23) (v := ?_) rfl (by kernel_rfl) (by kernel_rfl) (by kernel_rfl) (fun _ _ _ h => h) (Or.inl ⟨by rfl, ?_⟩) (by assumption) ?_
                      rotate_left
                      · intro w' hSw
                        go_simp
                        first | done | with_reducible rfl
                      simp only [Act.put, List.getElem_toArray, List.getElem_cons_succ, List.getElem_cons_zero, List.setIfInBounds_toArray, List.set_cons_zero, List.set_cons_succ]
                      refine wpAnyH_take (i := 24) (v := ?_) rfl (by kernel_rfl) (by kernel_rfl) (by kernel_rfl) (fun _ _ _ h => h) (Or.inl ⟨by rfl, ?_⟩) (by assumption) ?_
                      rotate_left
                      · intro w' hSw
                        go_simp
                        first | done | with_reducible rfl
                      simp only [Act.put, List.getElem_toArray, List.getElem_cons_succ, List.getElem_cons_zero, List.setIfInBounds_toArray, List.set_cons_zero, List.set_cons_succ]
                      refine wpAnyH_done (by kernel_rfl) (NoPanic.normal ?_) _
                      have HF := Lib.hid hS17.pair
                      clear hS17 hS16 hS9 CSA CTK
                      go_wp2
                      go_roundw
                      case rel => exact ⟨i + 1, S, by omega, by go_num, HF, HFEW.out.1, HFEW.out.2⟩
                      case measure => simp [intOf]; omega
    · have HB := Lib.hid hI.out.below
      clear hI
      by_cases hlen : i < len
      · obtain rfl : i = 40 := by omega
        rw [show ((40 : Nat) : Int) = 40 from rfl]
        have z1 : (40 : Int) < (len : Int) := by omega
        go_wp2_with fail
        refine (known5 _ (HHK.out.later HB.out)).mono ?_
        rintro e w4 ⟨rfl, hb⟩
        have HZ := Lib.hid (chain2 HB.out hb)
        clear hb
        go_wp2
        go_ret
        exact ⟨rfl, HZ.out⟩
      · have t0 : decide ((i : Int) < (len : Int)) = false := decide_eq_false (by omega)
        have t1 : decide (i < len) = false := decide_eq_false hlen
        go_wp2_with fail
        refine (known5 _ (HHK.out.later HB.out)).mono ?_
        rintro e w4 ⟨rfl, hb⟩
        have HZ := Lib.hid (chain2 HB.out hb)
        clear hb
        go_wp2
        go_ret
        exact ⟨rfl, HZ.out⟩

end Go.Proofs.YtkplmaaeggnbgaaDoor.Rg
