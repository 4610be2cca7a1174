/- The walk of SlotsPlays: it returns true. No condition but those that each states. -/
import Derived.Test.YthddiijnomhpfaaSlDo
import Derived.Test.YthddiijnomhpfaaSlK
import Derived.Test.YthddiijnomhpfaaDkCn
import Derived.Deep.RegionHeld3
import Derived.ChangeSlices
import Derived.Deep.Slices
import Derived.Deep.Fields
import Derived.ChangeSame
namespace Go.Proofs.Ythddiijnomhpfaa.Sl
open Go.RowKit Dk

theorem pair_new {w w1 w2 : World} (n : Nat) (h1 : DiskAt w1 (fun k => w.heap.size ≤ k) (w.heap.size + 2) (new n)) (b1 : Below w.heap.size w w1) (h2 : RefAt w2 (fun k => w1.heap.size ≤ k) w1.heap.size (new n)) (b2 : Below w1.heap.size w1 w2) :
    Pair w w2 (fun _ => False) (w.heap.size + 2) w1.heap.size (new n) (new n) :=
  ⟨fun k => w.heap.size ≤ k ∧ k < w1.heap.size, fun k => w1.heap.size ≤ k ∧ k < w2.heap.size, ⟨h1.tight.below b2, h2.tight, fun _k h1 h2 => absurd h1.2 (Nat.not_lt.2 h2.1), fun _k hk => ⟨hk.1, Nat.lt_of_lt_of_le hk.2 b2.size⟩, fun _k hk => ⟨Nat.le_trans b1.size hk.1, hk.2⟩, chain2 b1 b2⟩, fun _k hk => hk.elim⟩

section
variable {w0 w : World} {P : Nat → Prop} {g r : Nat} {S : DS}
theorem Pair.ok (h : Pair w0 w P g r S S) : S.Ok := by obtain ⟨F, G, h, -⟩ := h; exact h.d.ok
theorem Pair.onD (h : Pair w0 w P g r S S) : Calls Try.prog 12 #[.pointer (some ⟨g, 0, none⟩)] w fun e w' => e = .returned (.bool S.on) ∧ w = w' := by
  obtain ⟨F, G, h, -⟩ := h; exact on_at w h.d
theorem Pair.opsD (h : Pair w0 w P g r S S) : Calls Try.prog 13 #[.pointer (some ⟨g, 0, none⟩)] w fun e w' => e = .returned (.int .i64 (S.ops : Int)) ∧ w = w' := by
  obtain ⟨F, G, h, -⟩ := h; exact ops_at w h.d
theorem Pair.roomD (h : Pair w0 w P g r S S) : Calls Try.prog 14 #[.pointer (some ⟨g, 0, none⟩)] w fun e w' => e = .returned (.int .i64 ((64 * each S : Nat) : Int)) ∧ w = w' := by
  obtain ⟨F, G, h, -⟩ := h; exact room_disk w h.d
theorem Pair.roomR (h : Pair w0 w P g r S S) : Calls Try.prog 15 #[.pointer (some ⟨r, 0, none⟩)] w fun e w' => e = .returned (.int .i64 ((64 * each S : Nat) : Int)) ∧ w = w' := by
  obtain ⟨F, G, h, -⟩ := h; exact ref_room w h.r
theorem Pair.cellsR (h : Pair w0 w P g r S S) : w.cell? ⟨r, 2, none⟩ = some (.bool (!S.on)) ∧ w.cell? ⟨r, 3, none⟩ = some (.int .i64 (S.ops : Int)) := by
  obtain ⟨F, G, h, -⟩ := h
  obtain ⟨vl, vw, a, m, hR, -⟩ := h.r
  exact ⟨hR.cell (i := 2) rfl, hR.cell (i := 3) rfl⟩
end

section
variable {Pr : Program} {ops : Array Oper} {Q : Exit → Act → World → Prop} {K : Act → World → Prop} {a : Act} {w : World}
theorem wpOp_wp {i : Nat} {o : Oper} (hi : ops[i]? = some o) (hw : Region.wanted o (yielded ops a.tmps) = true) (h : ∀ K' : Act → World → Prop, Hid (∀ a' w', K a' w' → K' a' w') → o.wp Pr a w K' Q) : wpOp Pr ops Q i K a w := by
  unfold Go.wpOp
  simp only [hi, hw, if_true]
  exact .inl (h K (Lib.hid fun _ _ h => h))

/-- What is left of a drawn region only reads: it is walked in a world of one name. -/
theorem held_still {md : Region.Mode} {fuel n : Nat} {listed : Array Bool} (hs : Region.noSelect ops = true) (hn : (ops.toList.drop n).length = fuel) (hB : Region.lexFrom md ops (ops.toList.drop n).length n listed = true)
    (h : wpStill Pr ops w (fun a' => Q .normal a' w) (ops.toList.drop n) a) : wpAnyH Pr md ops Q (fun _ => True) fuel listed a w := by
  subst hn
  exact held_true _ _ _ _ (wpAny_of_still (Q := fun a' => Q .normal a' w) (fun _ h => h) _ _ _ (wpAnyS_lex hs (ops.toList.drop n) n listed a (fun j => by simp [List.getElem?_drop]) hB h))

theorem exec_load_mid {P : Program} {o : Oper} {a : Act} {W : World} (ty : TypeId) (x : Operand) (ho : o.op = .load ty x) (b p : Nat) (hx : a.eval x = .pointer (some ⟨b, p, none⟩)) (cs : List Value) (d : TypeDesc) (hc : W.rangeAt b p cs)
    (hu : P.underlying ty = some d) (hd : d.isRow = true) (hi : (P.info? ty).map (·.size) = some cs.length) : (execOp a.eval o).run P W = .ok (.value (.agg cs.toArray)) W := by
  have hl := run_loadVar_mid (P := P) W b p ty cs d hc hu hd hi
  unfold execOp
  simp only [ho, hx, Instr.loadAt, Instr.sureAddr, Sem.run_bind, Sem.run_pure, Result.andThen_ok, hl]
end

/-- The cells of an operation of the script. -/
def OpAt (W : World) (b o : Nat) (K : OpV) : Prop :=
  W.cell? ⟨b, o, none⟩ = some (.int .i64 K.kind) ∧ W.cell? ⟨b, o + 1, none⟩ = some (.int .i64 K.slot) ∧ W.cell? ⟨b, o + 2, none⟩ = some (.string K.s) ∧ W.cell? ⟨b, o + 3, none⟩ = some (.int .i64 K.size) ∧ W.cell? ⟨b, o + 4, none⟩ = some (.int .u64 (K.mask : Int))
theorem opAt_range {W : World} {b o : Nat} {K : OpV} (h : W.rangeAt b o K.cells) : OpAt W b o K := ⟨h 0 _ rfl, h 1 _ rfl, h 2 _ rfl, h 3 _ rfl, h 4 _ rfl⟩

set_option maxHeartbeats 4000000 in
set_option maxRecDepth 100000 in
theorem plays_law (a : Int) (ha : (Lit.int .i64 a).wf = true) (pa : Option Addr) (len cap : Nat) (hl : len ≤ maxLen) (w : World) (hc : ∀ j, j < len → ∃ (b off : Nat) (o : OpV), pa = some ⟨b, off, none⟩ ∧ b < w.heap.size ∧ o.Ok ∧ w.rangeAt b (off + j * 5) o.cells) :
    Calls Try.prog 3 #[.int .i64 a, .slice pa len cap] w fun e w' => e = .returned (.bool true) ∧ Below w.heap.size w w' := by
  unfold maxLen at hl
  have HC := Lib.hid hc
  clear hc
  obtain ⟨n, hn⟩ : ∃ n : Nat, (n : Int) = cnt a 60 := ⟨(cnt a 60).toNat, by have := cnt_lt a 60 (by decide); omega⟩
  have b1 := cnt_lt a 60 (by decide)
  have CA := Lib.hid (count_any a 60 w ha (by decide) (by decide))
  have hn2 : n < 60 := by omega
  rw [← hn] at CA
  clear ha hn b1
  have CN : Hid (Calls Try.prog 9 #[.int .i64 (16 + (n : Int))] w fun e w' => e = .returned (.tuple #[.pointer (some ⟨w.heap.size + 2, 0, none⟩), .int .i64 0]) ∧ DiskAt w' (fun k => w.heap.size ≤ k) (w.heap.size + 2) (new (16 + n)) ∧ Below w.heap.size w w') := Lib.hid (new_ok_any (16 + n) (by omega) (by omega) w)
  have CM : Hid (∀ W, Calls Try.prog 10 #[.int .i64 (16 + (n : Int))] W fun e w' => e = .returned (.tuple #[.pointer (some ⟨W.heap.size, 0, none⟩), .int .i64 0]) ∧ RefAt w' (fun k => W.heap.size ≤ k) W.heap.size (new (16 + n)) ∧ Below W.heap.size W w') := Lib.hid (fun W => ref_new_ok (16 + n) (by omega) (by omega) W)
  have g1 : (0 : Int) ≤ (n : Int) := by omega
  have g2 : (n : Int) < 60 := by omega
  go_enter Try.func3, Try.ntmps3
  go_wp2_with fail
  refine CA.out.mono ?_
  rintro e w1 ⟨rfl, rfl⟩
  go_wp2_with fail
  refine CN.out.mono ?_
  rintro e w1 ⟨rfl, hd1, hb1⟩
  have H1 := Lib.hid (And.intro hd1 hb1)
  clear hd1 hb1
  go_wp2_with fail
  refine (CM.out w1).mono ?_
  rintro e w2 ⟨rfl, hr2, hb2⟩
  have HP := Lib.hid (pair_new (16 + n) H1.out.1 H1.out.2 hr2 hb2)
  generalize w1.heap.size = r at HP ⊢
  clear hr2 hb2 H1 CN CM CA
  go_wp2
  go_loopw [10] (fun vi wr => ∃ (i : Nat) (S : DS), i ≤ 30 ∧ vi = .int .i64 i ∧ Hid (Pair w wr (fun _ => False) (w.heap.size + 2) r S S) ∧ S.c ≤ 252 * i ∧ S.ops ≤ 253 * i) (fun vi _ => 30 - (intOf vi).toNat)
  case atStart => exact ⟨0, _, Nat.zero_le _, rfl, HP, Nat.zero_le _, Nat.zero_le _⟩
  case round =>
    clear HP
    obtain ⟨i, S, hi, rfl, hI, hSc, hSo⟩ := hrel
    have z0 : (0 : Int) ≤ (i : Int) := by omega
    by_cases hgo : i < len ∧ i < 30
    · obtain ⟨hlen, h30⟩ := hgo
      have z1 : (i : Int) < (len : Int) := by omega
      have z2 : (i : Int) < 30 := by omega
      obtain ⟨b, off, o, rfl, hb, ho, hr⟩ := HC.out i hlen
      have HKEEP : Hid (∀ (W : World) (T : DS), Pair w W (fun _ => False) (w.heap.size + 2) r T T → OpAt W b (off + i * 5) o) := Lib.hid (fun W T h => opAt_range (rangeAt_block hr (h.below.block b hb)))
      have HRO9 : Hid (∀ (W : World) (T : DS), Pair w W (fun _ => False) (w.heap.size + 2) r T T → W.rangeAt b (off + i * 5) o.cells) := Lib.hid (fun W T h => rangeAt_block hr (h.below.block b hb))
      obtain ⟨x0, x1, x2, x3, x4⟩ := HKEEP.out wr S hI.out
      by_cases hs : (5000 : Int) < (o.s.size : Int)
      · have t0 : decide ((5000 : Int) < (o.s.size : Int)) = true := decide_eq_true hs
        clear x0 x1 x3 x4 hr hb ho HKEEP
        go_wp2
        clear x2
        go_roundw
        case rel => exact ⟨i + 1, S, by omega, by go_num, hI, by omega, by omega⟩
        case measure => simp [intOf]; omega
      · have t0 : decide ((5000 : Int) < (o.s.size : Int)) = false := decide_eq_false hs
        have hok := Pair.ok hI.out
        have HF := Lib.hid (doS_few S o hok)
        have cd : Hid (∀ W, Pair w W (fun _ => False) (w.heap.size + 2) r S S → Calls Try.prog 11 #[.pointer (some ⟨w.heap.size + 2, 0, none⟩), .pointer (some ⟨r, 0, none⟩), .agg #[.int .i64 o.kind, .int .i64 o.slot, .string o.s, .int .i64 o.size, .int .u64 (o.mask : Int)]] W fun e w' => e = .returned (.bool true) ∧ Pair w w' (fun _ => False) (w.heap.size + 2) r (DS.doS S o) (DS.doS S o)) := Lib.hid (fun W h => does_any o ho h (by omega) (by omega))
        clear hr hb ho hok
        generalize DS.doS S o = T at cd HF
        have co : Hid (∀ W, Pair w W (fun _ => False) (w.heap.size + 2) r T T → Calls Try.prog 12 #[.pointer (some ⟨w.heap.size + 2, 0, none⟩)] W fun e w' => e = .returned (.bool T.on) ∧ W = w') := Lib.hid (fun W h => Pair.onD h)
        have cp : Hid (∀ W, Pair w W (fun _ => False) (w.heap.size + 2) r T T → Calls Try.prog 13 #[.pointer (some ⟨w.heap.size + 2, 0, none⟩)] W fun e w' => e = .returned (.int .i64 (T.ops : Int)) ∧ W = w') := Lib.hid (fun W h => Pair.opsD h)
        have cq : Hid (∀ W, Pair w W (fun _ => False) (w.heap.size + 2) r T T → Calls Try.prog 14 #[.pointer (some ⟨w.heap.size + 2, 0, none⟩)] W fun e w' => e = .returned (.int .i64 ((64 * each T : Nat) : Int)) ∧ W = w') := Lib.hid (fun W h => Pair.roomD h)
        have cs : Hid (∀ W, Pair w W (fun _ => False) (w.heap.size + 2) r T T → Calls Try.prog 15 #[.pointer (some ⟨r, 0, none⟩)] W fun e w' => e = .returned (.int .i64 ((64 * each T : Nat) : Int)) ∧ W = w') := Lib.hid (fun W h => Pair.roomR h)
        have ce : Hid (∀ W, Pair w W (fun _ => False) (w.heap.size + 2) r T T → W.cell? ⟨r, 2, none⟩ = some (.bool (!T.on)) ∧ W.cell? ⟨r, 3, none⟩ = some (.int .i64 (T.ops : Int))) := Lib.hid (fun W h => Pair.cellsR h)
        generalize ((64 * each T : Nat) : Int) = R at cq cs
        have HFo := Lib.hid (show T.c ≤ 252 * (i + 1) ∧ T.ops ≤ 253 * (i + 1) by have := HF.out; omega)
        clear HF
        generalize hy : (T.ops : Int) = y at cp ce
        clear hy
        go_wp2
        have hS0 : OpAt wr.drew b (off + i * 5) o := HKEEP.out wr.drew S (hI.out.later ⟨rfl, rfl, rfl, Nat.le_refl _, fun _ _ => rfl⟩)
        have hD0 : Pair w wr.drew (fun _ => False) (w.heap.size + 2) r S S := hI.out.later ⟨rfl, rfl, rfl, Nat.le_refl _, fun _ _ => rfl⟩
        have HRO0 : Hid (wr.drew.rangeAt b (off + i * 5) o.cells) := Lib.hid (rangeAt_block (HRO9.out wr S hI.out) rfl)
        clear x0 x1 x2 x3 x4 hI HRO9
        obtain ⟨on, hon⟩ : ∃ on, T.on = on := ⟨_, rfl⟩
        rw [hon] at co ce
        clear hon
        unfold OpAt at hS0
        have HK2 : Hid (∀ (W : World) (T : DS), Pair w W (fun _ => False) (w.heap.size + 2) r T T → W.cell? ⟨b, off + i * 5, none⟩ = some (.int .i64 o.kind) ∧ W.cell? ⟨b, off + i * 5 + 1, none⟩ = some (.int .i64 o.slot) ∧ W.cell? ⟨b, off + i * 5 + 2, none⟩ = some (.string o.s) ∧ W.cell? ⟨b, off + i * 5 + 3, none⟩ = some (.int .i64 o.size) ∧ W.cell? ⟨b, off + i * 5 + 4, none⟩ = some (.int .u64 (o.mask : Int))) := HKEEP
        have HRO : Hid (wr.drew.rangeAt b (off + i * 5) o.cells) := HRO0
        have HI : Hid ((Try.prog.info? 33).map (·.size) = some o.cells.length) := Lib.hid (by kernel_rfl)
        obtain ⟨W1, hW1⟩ : ∃ W1, wr.drew = W1 := ⟨_, rfl⟩
        have HW1 := Lib.hid hW1
        rw [hW1] at HRO hD0
        clear hW1
        have HD0 := Lib.hid hD0
        clear hD0 hS0 HK2
        cases on
        all_goals
          refine region_held_at (by kernel_rfl) W1 HW1.out ?_
          refine wpAnyH_take (i := 0) (v := ?_) rfl (by kernel_rfl) (by kernel_rfl) (by kernel_rfl) (fun _ _ _ h => h) (Or.inl ⟨by rfl, ?_⟩) trivial ?_
          rotate_left
          · intro w' hSw
            go_simp
            first | done | with_reducible rfl
          simp only [Act.put, List.getElem_toArray, List.getElem_cons_zero, List.setIfInBounds_toArray, List.set_cons_zero, List.set_cons_succ]
          refine wpAnyH_take (i := 1) (v := ?_) rfl (by kernel_rfl) (by kernel_rfl) (by kernel_rfl) (fun _ _ _ h => h) (Or.inl ⟨by rfl, ?_⟩) trivial ?_
          rotate_left
          · intro w' hSw
            go_simp
            first | done | with_reducible rfl
          simp only [Act.put, List.getElem_toArray, List.getElem_cons_succ, List.getElem_cons_zero, List.setIfInBounds_toArray, List.set_cons_zero, List.set_cons_succ]
          refine wpAnyH_take (i := 2) (v := ?_) rfl (by kernel_rfl) (by kernel_rfl) (by kernel_rfl) (fun _ _ _ h => h) (Or.inl ⟨by rfl, ?_⟩) trivial ?_
          rotate_left
          · intro w' hSw
            go_simp
            first | done | with_reducible rfl
          simp only [Act.put, List.getElem_toArray, List.getElem_cons_succ, List.getElem_cons_zero, List.setIfInBounds_toArray, List.set_cons_zero, List.set_cons_succ]
          refine wpAnyH_take (i := 3) (v := ?_) rfl (by kernel_rfl) (by kernel_rfl) (by kernel_rfl) (fun _ _ _ h => h) (Or.inl ⟨by rfl, ?_⟩) trivial ?_
          rotate_left
          · intro w' hSw
            go_simp
            first | done | with_reducible rfl
          simp only [Act.put, List.getElem_toArray, List.getElem_cons_succ, List.getElem_cons_zero, List.setIfInBounds_toArray, List.set_cons_zero, List.set_cons_succ]
          refine wpAnyH_take (i := 4) (v := ?_) rfl (by kernel_rfl) (by kernel_rfl) (by kernel_rfl) (fun _ _ _ h => h) (Or.inl ⟨by rfl, ?_⟩) trivial ?_
          rotate_left
          · intro w' hSw
            go_simp
            first | done | with_reducible rfl
          simp only [Act.put, List.getElem_toArray, List.getElem_cons_succ, List.getElem_cons_zero, List.setIfInBounds_toArray, List.set_cons_zero, List.set_cons_succ]
          refine wpAnyH_all (rs := [5]) (by kernel_rfl) (by simp) (fun q hq => ?_)
          obtain rfl := List.mem_singleton.1 hq
          refine wpOp_run (o := { dst := some 57, op := .load 33 (.tmp 56), type := 33, pos := "law.go:71", after := #[{ on := 4, ground := Ground.data }], guard := none }) rfl (by rfl) (exec_load_mid 33 (.tmp 56) rfl b (off + i * 5) rfl o.cells _ HRO.out Try.underlying33 rfl HI.out) ⟨trivial, ?_⟩
          clear hq
          simp only [Act.put, List.setIfInBounds_toArray, List.set_cons_zero, List.set_cons_succ]
          refine wpAnyH_all (rs := [6]) (by kernel_rfl) (by simp) (fun q hq => ?_)
          obtain rfl := List.mem_singleton.1 hq
          refine wpOp_wp rfl (by rfl) (fun K' hK => ?_)
          clear hq
          go_simp
          refine (cd.out W1 HD0.out).mono ?_
          rintro e W3 ⟨rfl, hp⟩
          refine hK.out _ _ ⟨trivial, ?_⟩
          clear hK K'
          try simp only [Act.put, List.getElem_toArray, List.getElem_cons_succ, List.getElem_cons_zero, List.setIfInBounds_toArray, List.set_cons_zero, List.set_cons_succ]
          have HP3 := Lib.hid hp
          obtain ⟨c2, c3⟩ := ce.out W3 hp
          clear hp HD0 HRO HI
          refine held_still (n := 7) (by kernel_rfl) (by rfl) (by kernel_rfl) ?_
          simp only [List.drop_succ_cons, List.drop_zero]
          have d0 := Lib.hid ((co.out W3 HP3.out).mono fun _ _ ⟨a, b⟩ => And.intro a b.symm)
          have d1 := Lib.hid ((cp.out W3 HP3.out).mono fun _ _ ⟨a, b⟩ => And.intro a b.symm)
          have d2 := Lib.hid ((cq.out W3 HP3.out).mono fun _ _ ⟨a, b⟩ => And.intro a b.symm)
          have d3 := Lib.hid ((cs.out W3 HP3.out).mono fun _ _ ⟨a, b⟩ => And.intro a b.symm)
          clear co cp cq cs ce cd HKEEP
          repeat (first | still_step | still_call d0.out | still_call d1.out | still_call d2.out | still_call d3.out)
          refine wpStill_nil (NoPanic.normal ?_)
          clear c2 c3 d0 d1 d2 d3
          go_wp2
          go_roundw
          case rel => exact ⟨i + 1, T, by omega, by go_num, HP3, HFo.out.1, HFo.out.2⟩
          case measure => simp [intOf]; omega
    · have hcs : S.c ≤ 2 ^ 40 := by omega
      have HI := hI
      clear hI
      by_cases hlen : i < len
      · obtain rfl : i = 30 := by omega
        rw [show ((30 : Nat) : Int) = 30 from rfl]
        have z1 : (30 : Int) < (len : Int) := by omega
        go_wp2
        generalize wr = wa at HI ⊢
        go_loopw [11] (fun vi wq => ∃ q : Nat, q ≤ 16 + n ∧ vi = .int .i64 q ∧ Hid (Pair w wq (fun _ => False) (w.heap.size + 2) r S S)) (fun vi _ => 16 + n - (intOf vi).toNat)
        case atStart => exact ⟨0, Nat.zero_le _, rfl, HI⟩
        case round =>
          clear HI
          obtain ⟨q, hq, rfl, hR⟩ := hrel
          have q0 : (0 : Int) ≤ (q : Int) := by omega
          have q9 : (q : Int) ≤ 76 := by omega
          by_cases hlt : q < 16 + n
          · have q1 : decide ((q : Int) < 16 + (n : Int)) = true := decide_eq_true (by omega)
            have d0 := Lib.hid (Pair.onD hR.out)
            cases hon : S.on with
            | false =>
              rw [hon] at d0
              go_wp2_with fail
              refine d0.out.mono ?_
              rintro e w3 ⟨rfl, rfl⟩
              have HB := Lib.hid hR.out.below
              clear hR d0
              go_wp2_with fail
              refine (known6 _).mono ?_
              rintro e w4 ⟨rfl, hb⟩
              have HZ := Lib.hid (chain2 HB.out hb)
              clear hb
              go_wp2
              go_ret
              exact ⟨rfl, HZ.out⟩
            | true =>
              rw [hon] at d0
              have d1 := Lib.hid (hR.out.readD (q : Int) hcs)
              have d2 := Lib.hid (fun W (h : Pair w W (fun _ => False) (w.heap.size + 2) r S S) => h.readR (q : Int) hcs)
              clear hR
              generalize (S.rd (q : Int)).1 = x at d1 d2
              generalize (S.rd (q : Int)).2 = y at d1 d2
              go_wp2_with fail
              refine d0.out.mono ?_
              rintro e w3 ⟨rfl, rfl⟩
              go_wp2_with fail
              refine d1.out.mono ?_
              rintro e w4 ⟨rfl, hp, -⟩
              have HP4 := Lib.hid hp
              clear hp d1 d0
              go_wp2_with fail
              refine (d2.out w4 HP4.out).mono ?_
              rintro e w5 ⟨rfl, rfl⟩
              go_wp2
              go_roundw
              case rel => exact ⟨q + 1, by omega, by go_num, HP4⟩
              case measure => simp [intOf]; omega
          · obtain rfl : q = 16 + n := by omega
            have q1 : decide (((16 + n : Nat) : Int) < 16 + (n : Int)) = false := decide_eq_false (by omega)
            have HB := Lib.hid hR.out.below
            clear hR
            generalize ((16 + n : Nat) : Int) = qq at *
            go_wp2_with fail
            refine (known6 _).mono ?_
            rintro e w4 ⟨rfl, hb⟩
            have HZ := Lib.hid (chain2 HB.out hb)
            clear hb
            go_wp2
            go_ret
            exact ⟨rfl, HZ.out⟩
      · have t0 : decide ((i : Int) < (len : Int)) = false := decide_eq_false (by omega)
        have t1 : decide (i < len) = false := decide_eq_false hlen
        go_wp2
        generalize wr = wa at HI ⊢
        go_loopw [11] (fun vi wq => ∃ q : Nat, q ≤ 16 + n ∧ vi = .int .i64 q ∧ Hid (Pair w wq (fun _ => False) (w.heap.size + 2) r S S)) (fun vi _ => 16 + n - (intOf vi).toNat)
        case atStart => exact ⟨0, Nat.zero_le _, rfl, HI⟩
        case round =>
          clear HI
          obtain ⟨q, hq, rfl, hR⟩ := hrel
          have q0 : (0 : Int) ≤ (q : Int) := by omega
          have q9 : (q : Int) ≤ 76 := by omega
          by_cases hlt : q < 16 + n
          · have q1 : decide ((q : Int) < 16 + (n : Int)) = true := decide_eq_true (by omega)
            have d0 := Lib.hid (Pair.onD hR.out)
            cases hon : S.on with
            | false =>
              rw [hon] at d0
              go_wp2_with fail
              refine d0.out.mono ?_
              rintro e w3 ⟨rfl, rfl⟩
              have HB := Lib.hid hR.out.below
              clear hR d0
              go_wp2_with fail
              refine (known6 _).mono ?_
              rintro e w4 ⟨rfl, hb⟩
              have HZ := Lib.hid (chain2 HB.out hb)
              clear hb
              go_wp2
              go_ret
              exact ⟨rfl, HZ.out⟩
            | true =>
              rw [hon] at d0
              have d1 := Lib.hid (hR.out.readD (q : Int) hcs)
              have d2 := Lib.hid (fun W (h : Pair w W (fun _ => False) (w.heap.size + 2) r S S) => h.readR (q : Int) hcs)
              clear hR
              generalize (S.rd (q : Int)).1 = x at d1 d2
              generalize (S.rd (q : Int)).2 = y at d1 d2
              go_wp2_with fail
              refine d0.out.mono ?_
              rintro e w3 ⟨rfl, rfl⟩
              go_wp2_with fail
              refine d1.out.mono ?_
              rintro e w4 ⟨rfl, hp, -⟩
              have HP4 := Lib.hid hp
              clear hp d1 d0
              go_wp2_with fail
              refine (d2.out w4 HP4.out).mono ?_
              rintro e w5 ⟨rfl, rfl⟩
              go_wp2
              go_roundw
              case rel => exact ⟨q + 1, by omega, by go_num, HP4⟩
              case measure => simp [intOf]; omega
          · obtain rfl : q = 16 + n := by omega
            have q1 : decide (((16 + n : Nat) : Int) < 16 + (n : Int)) = false := decide_eq_false (by omega)
            have HB := Lib.hid hR.out.below
            clear hR
            generalize ((16 + n : Nat) : Int) = qq at *
            go_wp2_with fail
            refine (known6 _).mono ?_
            rintro e w4 ⟨rfl, hb⟩
            have HZ := Lib.hid (chain2 HB.out hb)
            clear hb
            go_wp2
            go_ret
            exact ⟨rfl, HZ.out⟩

section
variable {H : Type} {enc : TypeId × Value → H}
open Go.ChangeShapes Go.WideShapes Go.Deep

theorem op_one : ∃ fs, Try.prog.underlying 33 = some (.struct fs) ∧ fs.size = 5 ∧ oneCellFields Try.prog fs = true ∧ Try.prog.cellsOf 33 = 5 ∧ (fs.map (·.type)) = #[3, 3, 9, 3, 31] :=
  ⟨_, Try.underlying33, rfl, by kernel_rfl, by kernel_rfl, by simp⟩

/-- One operation, as it was read. -/
theorem open_op {w : World} {n : Nat} {cs : List Value} {x : DataW H × List MemPlace}
    (h : DataW.trod enc Try.prog w 0 (fun _ => true) true n 33 cs = some x) : ∃ o : OpV, o.Ok ∧ cs = o.cells := by
  obtain ⟨fs, hs, hsz, hone, hC, hty⟩ := op_one
  obtain ⟨xs, m, _, _, hlen, hxl, hf⟩ := DataW.trod_struct hs h
  rw [hC] at hlen
  rw [hsz] at hxl
  have key : ∀ (i : Nat) (t : TypeId) (v : Value), (fs.map (·.type))[i]? = some t → cs[i]? = some v → i < 5 → ∃ y, DataW.trod enc Try.prog w 0 (fun _ => true) true m t [v] = some y := by
    intro i t v ht hv hi
    have hfi : fs[i]? = some (fs[i]'(by omega)) := Array.getElem?_eq_getElem (by omega)
    have e := hf i _ hfi
    obtain ⟨e1, e2⟩ := hone_of hone i _ hfi
    rw [Array.getElem?_map, hfi] at ht
    simp only [Option.map_some, Option.some.injEq] at ht
    have hil : i < cs.length := by omega
    have hd : (cs.drop i).take 1 = [v] := by
      rw [List.drop_eq_getElem_cons hil]
      rw [List.getElem?_eq_getElem hil] at hv
      simp only [Option.some.injEq] at hv
      rw [hv]; rfl
    rw [e1, e2, hd, ht, List.getElem?_eq_getElem (by omega)] at e
    exact ⟨_, e⟩
  rw [hty] at key
  match cs, hlen with
  | [c0, c1, c2, c3, c4], _ =>
    obtain ⟨y0, h0⟩ := key 0 _ c0 rfl rfl (by decide)
    obtain ⟨y1, h1⟩ := key 1 _ c1 rfl rfl (by decide)
    obtain ⟨y2, h2⟩ := key 2 _ c2 rfl rfl (by decide)
    obtain ⟨y3, h3⟩ := key 3 _ c3 rfl rfl (by decide)
    obtain ⟨y4, h4⟩ := key 4 _ c4 rfl rfl (by decide)
    obtain ⟨n0, e0, _, w0⟩ := DataW.trod_int Try.underlying3 h0
    obtain ⟨n1, e1, _, w1⟩ := DataW.trod_int Try.underlying3 h1
    obtain ⟨s, e2, _, w2⟩ := DataW.trod_string Try.underlying9 h2
    obtain ⟨n3, e3, _, w3⟩ := DataW.trod_int Try.underlying3 h3
    obtain ⟨n4, e4, _, w4⟩ := DataW.trod_int Try.underlying31 h4
    cases e0; cases e1; cases e2; cases e3; cases e4
    obtain ⟨m4, rfl, u4⟩ := u64_nat w4
    exact ⟨⟨n0, n1, s, n3, m4⟩, ⟨w0, w1, w2, w3, u4⟩, rfl⟩

/-- A slice of operations, as it was read: none, or a row of them. -/
theorem open_ops {w : World} {b0 : Nat} {v : Value} {d : DataW H} {p : List MemPlace}
    (hv : Value.okWide Try.prog w .any b0 22 v) (h : DataW.Trod enc Try.prog w 0 (fun _ => true) true 22 v d p) :
    (∃ pa cap, v = .slice pa 0 cap) ∨ ∃ (b off len cap : Nat), v = .slice (some ⟨b, off, none⟩) len cap ∧ 0 < len ∧ len ≤ maxLen ∧ b < w.heap.size ∧ ∀ j, j < len → ∃ o : OpV, o.Ok ∧ w.rangeAt b (off + j * 5) o.cells := by
  have hlt : ∀ x ∈ p, x.block < w.heap.size := by obtain ⟨n, hn⟩ := h; exact DataW.trod_lt n _ _ _ hn
  obtain ⟨a0, len, cap, rfl⟩ := WideShapes.okWide_slice Try.underlying22 hv
  obtain ⟨fuel, hf⟩ := h
  obtain ⟨fs, hs, hsz, hone, hC, hty⟩ := op_one
  rcases open_slice Try.underlying22 hf with ⟨hcs, hx⟩ | ⟨a, len', cap', m, n, D, Pl, hcs, _, hl, hmx, hm, hx, hi⟩
  · simp [Value.cells] at hcs
    obtain ⟨rfl, rfl, rfl⟩ := hcs
    exact .inl ⟨_, _, rfl⟩
  · simp [Value.cells] at hcs
    obtain ⟨rfl, rfl, rfl⟩ := hcs
    simp only [Prod.mk.injEq] at hx
    simp only [if_true] at hm
    by_cases hl0 : len = 0
    · subst hl0
      exact .inl ⟨_, _, rfl⟩
    · rw [hC] at hx hi
      obtain ⟨b, off, spot⟩ := a
      obtain ⟨cs0, hc0, _⟩ := hi 0 (by omega)
      obtain ⟨_, hlen0, hat0⟩ := World.cells?_some hc0
      have hspot : spot = none := by
        have h0 := hat0 0 (by decide)
        rw [List.getElem?_eq_getElem (by omega)] at h0
        simpa [Addr.add] using World.cell?_spot h0
      subst hspot
      have hbW : b < w.heap.size := hlt (.cell b off) (by rw [hx.2]; exact List.mem_append_left _ (MemPlace.mem_row.2 ⟨0, by omega, by simp⟩))
      refine .inr ⟨b, off, len, cap, rfl, by omega, Nat.le_trans hl hmx, hbW, fun j hj => ?_⟩
      obtain ⟨cs, hc, ht⟩ := hi j (by omega)
      obtain ⟨o, ho, rfl⟩ := open_op ht
      obtain ⟨_, hlen, hat⟩ := World.cells?_some hc
      refine ⟨o, ho, fun q u hu => ?_⟩
      have hq : q < 5 := by have := (List.getElem?_eq_some_iff.1 hu).1; omega
      have := hat q hq
      rw [hu] at this
      rw [WideShapes.add_plain, WideShapes.add_plain] at this
      exact this

/-- The same of the arguments as they were read. -/
theorem plays_raw {w : World} {b0 : Nat} {v : Value} {d : DataW H} {p : List MemPlace} (n : Int) (hn : (Lit.int .i64 n).wf = true)
    (hv : Value.okWide Try.prog w .any b0 22 v) (h : DataW.Trod enc Try.prog w 0 (fun _ => true) true 22 v d p) :
    Calls Try.prog 3 #[.int .i64 n, v] w fun e w' => e = .returned (.bool true) ∧ Below w.heap.size w w' := by
  obtain ⟨pa, len, cap, rfl, hl, hc⟩ : ∃ pa len cap, v = .slice pa len cap ∧ len ≤ maxLen ∧ ∀ j, j < len → ∃ (b off : Nat) (o : OpV), pa = some ⟨b, off, none⟩ ∧ b < w.heap.size ∧ o.Ok ∧ w.rangeAt b (off + j * 5) o.cells := by
    rcases open_ops hv h with ⟨pa, cap, rfl⟩ | ⟨b, off, len, cap, rfl, _, hl, hb, hcs⟩
    · exact ⟨pa, 0, cap, rfl, Nat.zero_le _, fun j hj => absurd hj (Nat.not_lt_zero j)⟩
    · exact ⟨_, len, cap, rfl, hl, fun j hj => by obtain ⟨o, ho, hr⟩ := hcs j hj; exact ⟨b, off, o, rfl, hb, ho, hr⟩⟩
  exact plays_law n hn pa len cap hl w hc
end

end Go.Proofs.Ythddiijnomhpfaa.Sl
