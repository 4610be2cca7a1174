/- The walks of readConst: its contract. No condition but those that each states. -/
import Derived.Test.YtmloljfnnkfkjaaDoorMgAU
namespace Go.Proofs.YtmloljfnnkfkjaaDoor.Im
open Go.RowKit Dk In

section
variable {s : List UInt8} {q : Rq} {N : Nat} (hN : q.ba < N ∧ q.bh < N)
theorem enters_readInst : Enters 101 := fun a W => by kernel_rfl
theorem enters_readCap : Enters 97 := fun a W => by kernel_rfl
theorem enters_readUse : Enters 78 := fun a W => by kernel_rfl
theorem enters_readConst : Enters 99 := fun a W => by kernel_rfl
theorem enters_readProto : Enters 80 := fun a W => by kernel_rfl
set_option maxHeartbeats 4000000 in
set_option maxRecDepth 100000 in
theorem readConst_any : RdF s q N hN 99 rdVal (elR Vl.cells) := by
  intro w k b hk h HF
  obtain ⟨W0, hW0⟩ : ∃ W0, W0 = w.alloc (.cells (rdC q).toArray 62) := ⟨_, rfl⟩
  obtain ⟨W1, hW1⟩ : ∃ W1, W1 = W0.alloc (.cells #[.int .i64 0, .int .i64 0, .string ⟨#[]⟩] 45) := ⟨_, rfl⟩
  have HR0 : RW (pRdr s q N hN) s w w [] k b := RW.new (Q := pRdr s q N hN) h hk
  have HR1 : Hid (RW (pRdr s q N hN) s w W1 [(W0.heap.size, [.int .i64 0, .int .i64 0, .string ⟨#[]⟩]), (w.heap.size, rdC q)] k b) := Lib.hid (by rw [hW1, hW0]; exact (HR0.alloc (rdC q) _).alloc [.int .i64 0, .int .i64 0, .string ⟨#[]⟩] _)
  have hW2 : w.alloc (.cells #[f2 q, f3 q, f4 q, f5 q] 62) = W0 := hW0.symm
  have hW3 := hW1.symm
  have NR := Lib.hid (fun (K : Nat) (hK : wideB (K : Int) = true) => numR (s := s) (q := q) hN hK)
  have TR := Lib.hid (textR (s := s) (q := q) hN)
  have e2 := enters_r2
  have e3 := enters_r3
  unfold Enters at e2 e3
  have HO : Hid (∀ (kd nn : Int) (ss : ByteArray), ([.int .i64 kd, .int .i64 nn, .string ss] : List Value).toArray.all (·.oneCell') = true) := Lib.hid (fun _ _ _ => by simp [Value.oneCell'])
  have HI : Hid (∀ (kd nn : Int) (ss : ByteArray), (Tryd.prog.info? 45).map (·.size) = some ([.int .i64 kd, .int .i64 nn, .string ss] : List Value).length) := Lib.hid (fun _ _ _ => by kernel_rfl)
  have HIA : Hid (∀ (kd nn : Int) (ss : ByteArray), (Tryd.prog.info? 45).map (·.size) = some ([.int .i64 kd, .int .i64 nn, .string ss] : List Value).toArray.size) := Lib.hid (fun _ _ _ => by kernel_rfl)
  obtain ⟨c0, -, -, -⟩ := HR1.out.fns (q := q) (rb := w.heap.size) (by simp)
  show Calls _ _ #[.agg #[f2 q, f3 q, f4 q, f5 q]] w _
  clear hW0 hW1 HR0 h HF
  go_enter Tryd.func99, Tryd.ntmps99
  go_wp2_with fail
  refine (NR.out 1 rfl _ k b hk HR1.out.st).mono ?_
  rintro e W2 ⟨kd, k1, b1, rfl, ho⟩
  have HO1 := Lib.hid ho.out
  have HR2 := Lib.hid (HR1.out.ok ho)
  have HP := Lib.hid (HR2.out.put #[.int .i64 0, .int .i64 0, .string ⟨#[]⟩] 45 [.int .i64 kd, .int .i64 0, .string ⟨#[]⟩] rfl)
  have HT1 := Lib.hid HP.out.1
  have HP2 := Lib.hid HP.out.2
  clear ho HR1 c0 HP
  by_cases h1 : kd = 1
  · have y1 : (kd == 1) = true := by simp [h1]
    have H1 := Lib.hid h1
    clear h1
    go_wp2_with (refine wpList_store_mid rfl 45 (.tmp 3) (.tmp 7) rfl W2.heap.size 0 ([.int .i64 kd, .int .i64 0, .string ⟨#[]⟩] : List Value).toArray rfl rfl HT1.out (HIA.out _ _ _) (HO.out _ _ _) ?_; generalize World.setCells _ _ _ _ = W3 at HP2 ⊢; generalize W2.heap.size = BB at HP2 ⊢; have d0 : W3.cell? ⟨BB, 0, none⟩ = some (.int .i64 kd) := HP2.out.at (x := (BB, [.int .i64 kd, .int .i64 0, .string ⟨#[]⟩])) (by simp) 0 _ rfl; obtain ⟨c0, c1, -, -⟩ := HP2.out.fns (q := q) (rb := w.heap.size) (by simp))
    refine (NR.out 8 rfl _ _ _ HP2.out.le HP2.out.st).mono ?_
    rintro e W4 ⟨nn, k2, b2, rfl, ho⟩
    have HO2 := Lib.hid ho.out
    have HR4 := Lib.hid (HP2.out.ok ho)
    have d1 : W4.cell? ⟨BB, 1, none⟩ = some (.int .i64 0) := HR4.out.at (x := (BB, [.int .i64 kd, .int .i64 0, .string ⟨#[]⟩])) (by simp) 1 _ rfl
    have g1 : W4.frozen? ⟨BB, 1, none⟩ = false := (HR4.out.own (BB, [.int .i64 kd, .int .i64 0, .string ⟨#[]⟩]) (by simp)).1.free 1 (by simp)
    have HR5 : Hid (RW (pRdr s q N hN) s w (W4.setCell ⟨BB, 1, none⟩ (.int .i64 nn)) [(BB, [.int .i64 kd, .int .i64 nn, .string ⟨#[]⟩]), (W0.heap.size, [.int .i64 0, .int .i64 0, .string ⟨#[]⟩]), (w.heap.size, rdC q)] k2 b2) := Lib.hid (HR4.out.setOne 1 (.int .i64 nn) (by simp))
    clear ho HP2 HR4 NR TR c0 c1 d0
    have HC9 := Lib.hid (HR5.out.own _ (List.mem_cons_self ..)).1
    have HP8 := Lib.hid (HR5.out.swap.stored [.int .i64 kd, .int .i64 nn, .string ⟨#[]⟩] rfl)
    have HT9 := Lib.hid HP8.out.1
    have HP9 := Lib.hid HP8.out.2
    clear HP8
    go_wp2_with (first
      | (refine wpList_load_mid rfl 45 (.tmp 3) rfl BB 0 rfl [.int .i64 kd, .int .i64 nn, .string ⟨#[]⟩] _ HC9.out.cells Tryd.underlying45 rfl (HI.out _ _ _) ?_)
      | (refine wpList_store_mid rfl 45 (.tmp 2) (.tmp 22) rfl W0.heap.size 0 ([.int .i64 kd, .int .i64 nn, .string ⟨#[]⟩] : List Value).toArray rfl rfl HT9.out (HIA.out _ _ _) (HO.out _ _ _) ?_; generalize World.setCells _ _ _ _ = W20 at HP9 ⊢))
    have HC := Lib.hid (HP9.out.own _ (List.mem_cons_self ..)).1
    refine bodyPost_ret (results_cell1 rfl _ _ rfl HC.out.cells Tryd.underlying45 rfl (HI.out _ _ _)) rfl ?_
    exact ⟨_, ⟨kd, nn, []⟩, _, _, rfl, rfl, HO1.out.bind (by rw [if_pos H1.out]; exact HO2.out.bindRet), HP9.out.st, HP9.out.only⟩
  · have y1 : (kd == 1) = false := by simp [h1]
    have H1 := Lib.hid h1
    clear h1
    by_cases h2 : kd = 2
    · have y2 : (kd == 2) = true := by simp [h2]
      have H2 := Lib.hid h2
      clear h2
      go_wp2_with (refine wpList_store_mid rfl 45 (.tmp 3) (.tmp 7) rfl W2.heap.size 0 ([.int .i64 kd, .int .i64 0, .string ⟨#[]⟩] : List Value).toArray rfl rfl HT1.out (HIA.out _ _ _) (HO.out _ _ _) ?_; generalize World.setCells _ _ _ _ = W3 at HP2 ⊢; generalize W2.heap.size = BB at HP2 ⊢; have d0 : W3.cell? ⟨BB, 0, none⟩ = some (.int .i64 kd) := HP2.out.at (x := (BB, [.int .i64 kd, .int .i64 0, .string ⟨#[]⟩])) (by simp) 0 _ rfl; obtain ⟨c0, c1, -, -⟩ := HP2.out.fns (q := q) (rb := w.heap.size) (by simp))
      refine (TR.out _ _ _ HP2.out.le HP2.out.st).mono ?_
      rintro e W4 ⟨tt, k2, b2, rfl, ho⟩
      have HO2 := Lib.hid ho.out
      have HR4 := Lib.hid (HP2.out.ok ho)
      have d1 : W4.cell? ⟨BB, 2, none⟩ = some (.string ⟨#[]⟩) := HR4.out.at (x := (BB, [.int .i64 kd, .int .i64 0, .string ⟨#[]⟩])) (by simp) 2 _ rfl
      have g1 : W4.frozen? ⟨BB, 2, none⟩ = false := (HR4.out.own (BB, [.int .i64 kd, .int .i64 0, .string ⟨#[]⟩]) (by simp)).1.free 2 (by simp)
      have HR5 : Hid (RW (pRdr s q N hN) s w (W4.setCell ⟨BB, 2, none⟩ (.string (strOf tt))) [(BB, [.int .i64 kd, .int .i64 0, .string (strOf tt)]), (W0.heap.size, [.int .i64 0, .int .i64 0, .string ⟨#[]⟩]), (w.heap.size, rdC q)] k2 b2) := Lib.hid (HR4.out.setOne 2 (.string (strOf tt)) (by simp))
      clear ho HP2 HR4 NR TR c0 c1 d0
      have HC9 := Lib.hid (HR5.out.own _ (List.mem_cons_self ..)).1
      have HP8 := Lib.hid (HR5.out.swap.stored [.int .i64 kd, .int .i64 0, .string (strOf tt)] rfl)
      have HT9 := Lib.hid HP8.out.1
      have HP9 := Lib.hid HP8.out.2
      clear HP8
      go_wp2_with (first
        | (refine wpList_load_mid rfl 45 (.tmp 3) rfl BB 0 rfl [.int .i64 kd, .int .i64 0, .string (strOf tt)] _ HC9.out.cells Tryd.underlying45 rfl (HI.out _ _ _) ?_)
        | (refine wpList_store_mid rfl 45 (.tmp 2) (.tmp 22) rfl W0.heap.size 0 ([.int .i64 kd, .int .i64 0, .string (strOf tt)] : List Value).toArray rfl rfl HT9.out (HIA.out _ _ _) (HO.out _ _ _) ?_; generalize World.setCells _ _ _ _ = W20 at HP9 ⊢))
      have HC := Lib.hid (HP9.out.own _ (List.mem_cons_self ..)).1
      refine bodyPost_ret (results_cell1 rfl _ _ rfl HC.out.cells Tryd.underlying45 rfl (HI.out _ _ _)) rfl ?_
      exact ⟨_, ⟨kd, 0, tt⟩, _, _, rfl, rfl, HO1.out.bind (by rw [if_neg H1.out, if_pos H2.out]; exact HO2.out.bindRet), HP9.out.st, HP9.out.only⟩
    · have y2 : (kd == 2) = false := by simp [h2]
      have H2 := Lib.hid h2
      clear h2 NR TR
      go_wp2_with (first
        | (refine wpList_store_mid rfl 45 (.tmp 3) (.tmp 7) rfl W2.heap.size 0 ([.int .i64 kd, .int .i64 0, .string ⟨#[]⟩] : List Value).toArray rfl rfl HT1.out (HIA.out _ _ _) (HO.out _ _ _) ?_; generalize World.setCells _ _ _ _ = W3 at HP2 ⊢; generalize W2.heap.size = BB at HP2 ⊢; have d0 : W3.cell? ⟨BB, 0, none⟩ = some (.int .i64 kd) := HP2.out.at (x := (BB, [.int .i64 kd, .int .i64 0, .string ⟨#[]⟩])) (by simp) 0 _ rfl; obtain ⟨c0, c1, -, -⟩ := HP2.out.fns (q := q) (rb := w.heap.size) (by simp); have HC9 := Lib.hid (HP2.out.own _ (List.mem_cons_self ..)).1; have HP8 := Lib.hid (HP2.out.swap.stored [.int .i64 kd, .int .i64 0, .string ⟨#[]⟩] rfl); have HT9 := Lib.hid HP8.out.1; have HP9 := Lib.hid HP8.out.2; clear HP8 c0 c1)
        | (refine wpList_load_mid rfl 45 (.tmp 3) rfl BB 0 rfl [.int .i64 kd, .int .i64 0, .string ⟨#[]⟩] _ HC9.out.cells Tryd.underlying45 rfl (HI.out _ _ _) ?_)
        | (refine wpList_store_mid rfl 45 (.tmp 2) (.tmp 22) rfl W0.heap.size 0 ([.int .i64 kd, .int .i64 0, .string ⟨#[]⟩] : List Value).toArray rfl rfl HT9.out (HIA.out _ _ _) (HO.out _ _ _) ?_; generalize World.setCells _ _ _ _ = W20 at HP9 ⊢))
      have HC := Lib.hid (HP9.out.own _ (List.mem_cons_self ..)).1
      refine bodyPost_ret (results_cell1 rfl _ _ rfl HC.out.cells Tryd.underlying45 rfl (HI.out _ _ _)) rfl ?_
      exact ⟨_, ⟨kd, 0, []⟩, _, _, rfl, rfl, HO1.out.bind (by rw [if_neg H1.out, if_neg H2.out]; exact Out.ret _ HP9.out.le), HP9.out.st, HP9.out.only⟩
end
end Go.Proofs.YtmloljfnnkfkjaaDoor.Im

