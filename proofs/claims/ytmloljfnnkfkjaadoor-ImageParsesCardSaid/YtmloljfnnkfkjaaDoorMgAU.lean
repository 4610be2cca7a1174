/- The walks of readInst, readCap, readUse, readConst: their contracts. No condition but those that each states. -/
import Derived.Test.YtmloljfnnkfkjaaDoorMgAR
import Derived.Test.YtmloljfnnkfkjaaDoorMgAT
namespace Go.Proofs.YtmloljfnnkfkjaaDoor.Im
open Go.RowKit Dk In

theorem wpOp_wp {Pr : Program} {ops : Array Oper} {Q : Exit → Act → World → Prop} {K : Act → World → Prop} {a : Act} {w : World} {i : Nat} {o : Oper} (hi : ops[i]? = some o) (hw : Region.wanted o (yielded ops a.tmps) = true) (h : ∀ K' : Act → World → Prop, Hid (∀ a' w', K a' w' → K' a' w') → o.wp Pr a w K' Q) : wpOp Pr ops Q i K a w := by
  unfold Go.wpOp
  simp only [hi, hw, if_true]
  exact .inl (h K (Lib.hid fun _ _ h => h))
abbrev f2 (q : Rq) : Value := .func (.func 70) #[] #[ptr q.bs, ptr q.ba, ptr q.bv]
abbrev f3 (q : Rq) : Value := .func (.func 72) #[] #[ptr q.bs, ptr q.ba, ptr q.bv]
abbrev f4 (q : Rq) : Value := .func (.func 74) #[] #[ptr q.bs, ptr q.ba, ptr q.bv]
abbrev f5 (q : Rq) : Value := .func (.func 76) #[] #[ptr q.bh]
/-- What the walks ask of memory for the reader's own copy. -/
theorem RW.fns {Q : Rdr} {s : List UInt8} {q : Rq} {w W : World} {L : List (Nat × List Value)} {k rb : Nat} {b : Bool} (h : RW Q s w W L k b) (hm : (rb, rdC q) ∈ L) :
    W.cell? ⟨rb, 0, none⟩ = some (f2 q) ∧ W.cell? ⟨rb, 1, none⟩ = some (f3 q) ∧ W.cell? ⟨rb, 2, none⟩ = some (f4 q) ∧ W.cell? ⟨rb, 3, none⟩ = some (f5 q) :=
  ⟨h.at hm 0 _ rfl, h.at hm 1 _ rfl, h.at hm 2 _ rfl, h.at hm 3 _ rfl⟩
/-- An element's reader of the program: called with the reader. -/
def RdF (s : List UInt8) (q : Rq) (N : Nat) (hN : q.ba < N ∧ q.bh < N) {α : Type} (F : FuncId) (r : Rd α) (R : Rep α) : Prop :=
  ∀ (w : World) (k : Nat) (b : Bool), k ≤ s.length → RD s q N w k b → HasF w → Calls Tryd.prog F #[.agg (rdC q).toArray] w (RdAny (pRdr s q N hN) s r R w k b)

section
variable {s : List UInt8} {q : Rq} {N : Nat} (hN : q.ba < N ∧ q.bh < N)
set_option maxHeartbeats 4000000 in
set_option maxRecDepth 100000 in
theorem readInst_any : RdF s q N hN 101 (rdI fixI) (elR Ix.cells) := by
  intro w k b hk h HF
  obtain ⟨W0, hW0⟩ : ∃ W0, W0 = w.alloc (.cells (rdC q).toArray 62) := ⟨_, rfl⟩
  obtain ⟨W1, hW1⟩ : ∃ W1, W1 = W0.alloc (.cells #[.int .i64 0, .int .i64 0, .int .i64 0, .int .i64 0] 89) := ⟨_, rfl⟩
  have HR0 : RS (pRdr s q N hN) s k b w w [] [] k b := ⟨RW.new (Q := pRdr s q N hN) h hk, .nil hk⟩
  have HR1 : Hid (RS (pRdr s q N hN) s k b w W1 [(W0.heap.size, [.int .i64 0, .int .i64 0, .int .i64 0, .int .i64 0]), (w.heap.size, rdC q)] [] k b) := Lib.hid (by rw [hW1, hW0]; exact (HR0.alloc (rdC q) _).alloc [.int .i64 0, .int .i64 0, .int .i64 0, .int .i64 0] _)
  have HS0 : W0.heap.size = w.heap.size + 1 := by rw [hW0]; simp
  have hW2 : w.alloc (.cells #[f2 q, f3 q, f4 q, f5 q] 62) = W0 := hW0.symm
  have hW3 := hW1.symm
  have HBW : Hid (Below w.heap.size w W1) := Lib.hid (by rw [hW1, hW0]; exact ((Below.refl _ _).alloc (Nat.le_refl _) _).alloc (by simp) _)
  have NR := Lib.hid (fun (K : Nat) (hK : wideB (K : Int) = true) => numR (s := s) (q := q) hN hK)
  have TR := Lib.hid (textR (s := s) (q := q) hN)
  have HIR := Lib.hid (fun W k b hk h hf => instR (s := s) (q := q) hN W k b hk h hf)
  have e2 := enters_r2
  have e3 := enters_r3
  have e4 := enters_r4
  unfold Enters at e2 e3 e4
  show Calls _ _ #[.agg #[f2 q, f3 q, f4 q, f5 q]] w _
  have HF1 := Lib.hid (HF.later HBW.out)
  obtain ⟨c0, c1, c2, c3⟩ := HR1.out.rw.fns (q := q) (rb := w.heap.size) (by simp)
  clear NR TR c0 c1 c3 HF
  clear hW0 hW1 HR0 h HS0
  go_enter Tryd.func101, Tryd.ntmps101
  go_wp2_with fail
  refine (HIR.out _ k b hk HR1.out.rw.st HF1.out).mono ?_
  rintro e W2 ⟨x, k1, b1, rfl, ho⟩
  have HR2 := Lib.hid (HR1.out.rw.ok ho)
  have HP := Lib.hid (HR2.out.stored x.cells rfl)
  have HT := Lib.hid HP.out.1
  have HP2 := Lib.hid HP.out.2
  have HI := Lib.hid (i_info x)
  have HIA := Lib.hid (i_infoA x)
  have HO := Lib.hid (i_all x)
  have HOUT := Lib.hid ho.out
  have HFIN : Hid (∀ W9 L, RW (pRdr s q N hN) s w W9 L k1 b1 → RdAny (pRdr s q N hN) s (rdI fixI) (elR Ix.cells) w k b (.returned (.agg x.cells.toArray)) W9) := Lib.hid (fun W9 L hr => ⟨_, x, k1, b1, rfl, rfl, HOUT.out, hr.st, hr.only⟩)
  clear ho HP HR2 HR1
  generalize x.cells = pc at *
  go_wp2_with (refine wpList_store_mid rfl 89 (.tmp 2) (.tmp 5) rfl W0.heap.size 0 pc.toArray rfl rfl HT.out HIA.out HO.out ?_; generalize World.setCells _ _ _ _ = W3 at HP2 ⊢)
  have HC := Lib.hid (HP2.out.own _ (List.mem_cons_self ..)).1
  refine bodyPost_ret (results_cell1 rfl _ _ rfl HC.out.cells Tryd.underlying89 rfl HI.out) rfl ?_
  exact HFIN.out _ _ HP2.out
theorem seq_cap {k0 k : Nat} {b0 b : Bool} {u v : Int} (h : Seqs s k0 b0 [.n 1 v, .n 1 u] k b) : Out rdCap s k0 b0 ⟨decide (u = 1), v⟩ k b := by
  cases h with
  | num h1 h2 =>
    cases h1 with
    | num h3 h4 =>
      cases h3
      exact h4.bind h2.bindRet
theorem seq_use {k0 k : Nat} {b0 b : Bool} {x y : List UInt8} {v : Int} (h : Seqs s k0 b0 [.n 1 v, .t y, .t x] k b) : Out rdUse s k0 b0 ⟨x, y, v⟩ k b := by
  cases h with
  | num h1 h2 =>
    cases h1 with
    | txt h3 h4 =>
      cases h3 with
      | txt h5 h6 =>
        cases h5
        exact h6.bind (h4.bind h2.bindRet)
set_option maxHeartbeats 4000000 in
set_option maxRecDepth 100000 in
theorem readCap_any : RdF s q N hN 97 (rdCap) (elR Cp.cells) := by
  intro w k b hk h HF
  obtain ⟨W0, hW0⟩ : ∃ W0, W0 = w.alloc (.cells (rdC q).toArray 62) := ⟨_, rfl⟩
  obtain ⟨W1, hW1⟩ : ∃ W1, W1 = W0.alloc (.cells #[.bool false, .int .i64 0] 83) := ⟨_, rfl⟩
  have HR0 : RS (pRdr s q N hN) s k b w w [] [] k b := ⟨RW.new (Q := pRdr s q N hN) h hk, .nil hk⟩
  have HR1 : Hid (RS (pRdr s q N hN) s k b w W1 [(W0.heap.size, [.bool false, .int .i64 0]), (w.heap.size, rdC q)] [] k b) := Lib.hid (by rw [hW1, hW0]; exact (HR0.alloc (rdC q) _).alloc [.bool false, .int .i64 0] _)
  have HS0 : W0.heap.size = w.heap.size + 1 := by rw [hW0]; simp
  have hW2 : w.alloc (.cells #[f2 q, f3 q, f4 q, f5 q] 62) = W0 := hW0.symm
  have hW3 := hW1.symm
  have HBW : Hid (Below w.heap.size w W1) := Lib.hid (by rw [hW1, hW0]; exact ((Below.refl _ _).alloc (Nat.le_refl _) _).alloc (by simp) _)
  have NR := Lib.hid (fun (K : Nat) (hK : wideB (K : Int) = true) => numR (s := s) (q := q) hN hK)
  have TR := Lib.hid (textR (s := s) (q := q) hN)
  have HIR := Lib.hid (fun W k b hk h hf => instR (s := s) (q := q) hN W k b hk h hf)
  have e2 := enters_r2
  have e3 := enters_r3
  have e4 := enters_r4
  unfold Enters at e2 e3 e4
  show Calls _ _ #[.agg #[f2 q, f3 q, f4 q, f5 q]] w _
  clear HIR HF HBW
  clear hW0 hW1 HR0 h HS0
  go_enter Tryd.func97, Tryd.ntmps97
  have HR2 := Lib.hid HR1.out.drew
  have hS2 : W1.drew.cell? ⟨w.heap.size, 0, none⟩ = some (f2 q) := (HR2.out.rw.fns (q := q) (rb := w.heap.size) (by simp)).1
  go_wp2_with fail
  refine wp_region_noPanic (wp_region_held_drew (S := fun W => W.cell? ⟨w.heap.size, 0, none⟩ = some (f2 q)) (by kernel_rfl) hS2 (fun hHeld => ?_))
  refine wpAnyH_take (i := 0) (v := ?_) rfl (by kernel_rfl) (by kernel_rfl) (by kernel_rfl) (fun _ _ _ h => h) (Or.inl ⟨by rfl, ?_⟩) (by assumption) ?_
  rotate_left
  · intro w' hSw
    have hs0 := hSw
    go_simp
    first | done | with_reducible rfl
  try simp only [Act.put, List.getElem_toArray, List.getElem_cons_zero, List.setIfInBounds_toArray, List.set_cons_zero, List.set_cons_succ]
  refine wpAnyH_take (i := 1) (v := ?_) rfl (by kernel_rfl) (by kernel_rfl) (by kernel_rfl) (fun _ _ _ h => h) (Or.inl ⟨by rfl, ?_⟩) (by assumption) ?_
  rotate_left
  · intro w' hSw
    have hs0 := hSw
    go_simp
    first | done | with_reducible rfl
  try simp only [Act.put, List.getElem_toArray, List.getElem_cons_succ, List.getElem_cons_zero, List.setIfInBounds_toArray, List.set_cons_zero, List.set_cons_succ]
  refine wpAnyH_take (i := 4) (v := ?_) rfl (by kernel_rfl) (by kernel_rfl) (by kernel_rfl) (fun _ _ _ h => h) (Or.inl ⟨by rfl, ?_⟩) (by assumption) ?_
  rotate_left
  · intro w' hSw
    have hs0 := hSw
    go_simp
    first | done | with_reducible rfl
  try simp only [Act.put, List.getElem_toArray, List.getElem_cons_succ, List.getElem_cons_zero, List.setIfInBounds_toArray, List.set_cons_zero, List.set_cons_succ]
  refine wpAnyH_take (i := 5) (v := ?_) rfl (by kernel_rfl) (by kernel_rfl) (by kernel_rfl) (fun _ _ _ h => h) (Or.inl ⟨by rfl, ?_⟩) (by assumption) ?_
  rotate_left
  · intro w' hSw
    have hs0 := hSw
    go_simp
    first | done | with_reducible rfl
  try simp only [Act.put, List.getElem_toArray, List.getElem_cons_succ, List.getElem_cons_zero, List.setIfInBounds_toArray, List.set_cons_zero, List.set_cons_succ]
  refine wpAnyH_all (rs := [2]) (by kernel_rfl) (by simp) (fun q hq => ?_)
  obtain rfl := List.mem_singleton.1 hq
  clear hq
  refine wpOp_wp rfl (by rfl) (fun K' hK => ?_)
  go_simp
  refine (NR.out 1 rfl _ _ _ HR2.out.rw.le HR2.out.rw.st).mono ?_
  rintro e W3 ⟨n2, k2, b2, rfl, ho⟩
  have HR3 := Lib.hid (HR2.out.num ho)
  have hS3 := (HR3.out.rw.fns (q := q) (rb := w.heap.size) (by simp)).1
  refine hK.out _ _ ⟨hS3, ?_⟩
  clear hK K' ho
  try simp only [Act.put, List.getElem_toArray, List.getElem_cons_succ, List.getElem_cons_zero, List.setIfInBounds_toArray, List.set_cons_zero, List.set_cons_succ]
  refine wpAnyH_take (i := 3) (v := ?_) rfl (by kernel_rfl) (by kernel_rfl) (by kernel_rfl) (fun _ _ _ h => h) (Or.inl ⟨by rfl, ?_⟩) (by assumption) ?_
  rotate_left
  · intro w' hSw
    have hs0 := hSw
    go_simp
    first | done | with_reducible rfl
  try simp only [Act.put, List.getElem_toArray, List.getElem_cons_succ, List.getElem_cons_zero, List.setIfInBounds_toArray, List.set_cons_zero, List.set_cons_succ]
  refine wpAnyH_all (rs := [6]) (by kernel_rfl) (by simp) (fun q hq => ?_)
  obtain rfl := List.mem_singleton.1 hq
  clear hq
  refine wpOp_wp rfl (by rfl) (fun K' hK => ?_)
  go_simp
  refine (NR.out 1 rfl _ _ _ HR3.out.rw.le HR3.out.rw.st).mono ?_
  rintro e W4 ⟨n6, k6, b6, rfl, ho⟩
  have HR4 := Lib.hid (HR3.out.num ho)
  have hS4 := (HR4.out.rw.fns (q := q) (rb := w.heap.size) (by simp)).1
  refine hK.out _ _ ⟨hS4, ?_⟩
  clear hK K' ho
  try simp only [Act.put, List.getElem_toArray, List.getElem_cons_succ, List.getElem_cons_zero, List.setIfInBounds_toArray, List.set_cons_zero, List.set_cons_succ]
  refine wpAnyH_take (i := 7) (v := ?_) rfl (by kernel_rfl) (by kernel_rfl) (by kernel_rfl) (fun _ _ _ h => h) (Or.inl ⟨by rfl, ?_⟩) (by assumption) ?_
  rotate_left
  · intro w' hSw
    have hs0 := hSw
    go_simp
    first | done | with_reducible rfl
  try simp only [Act.put, List.getElem_toArray, List.getElem_cons_succ, List.getElem_cons_zero, List.setIfInBounds_toArray, List.set_cons_zero, List.set_cons_succ]
  refine wpAnyH_all (rs := [8]) (by kernel_rfl) (by simp) (fun q hq => ?_)
  obtain rfl := List.mem_singleton.1 hq
  clear hq
  refine wpOp_wp rfl (by rfl) (fun K' hK => ?_)
  have HP := Lib.hid (HR4.out.rw.stored [.bool (n2 == 1), .int .i64 n6] rfl)
  have HT := Lib.hid HP.out.1
  have HP2 := Lib.hid HP.out.2
  clear HP
  refine wp_store_mid 83 (.tmp 2) (.tmp 10) rfl W0.heap.size 0 ([.bool (n2 == 1), .int .i64 n6] : List Value).toArray rfl rfl HT.out (by kernel_rfl) (by simp [Value.oneCell']) ?_
  generalize World.setCells _ _ _ _ = W20 at HP2 ⊢
  refine hK.out _ _ ⟨(HP2.out.fns (q := q) (rb := w.heap.size) (by simp)).1, ?_⟩
  clear hK K'
  try simp only [Act.put, List.getElem_toArray, List.getElem_cons_succ, List.getElem_cons_zero]
  refine wpAnyH_done (by kernel_rfl) (NoPanic.normal ?_) _
  go_wp2
  have HC := Lib.hid (HP2.out.own _ (List.mem_cons_self ..)).1
  refine bodyPost_ret (results_cell1 rfl _ _ rfl HC.out.cells Tryd.underlying83 rfl (by kernel_rfl)) rfl ?_
  exact ⟨_, ⟨decide (n2 = 1), n6⟩, _, _, rfl, rfl, seq_cap HR4.out.sq, HP2.out.st, HP2.out.only⟩

set_option maxHeartbeats 4000000 in
set_option maxRecDepth 100000 in
theorem readUse_any : RdF s q N hN 78 (rdUse) (elR Us.cells) := by
  intro w k b hk h HF
  obtain ⟨W0, hW0⟩ : ∃ W0, W0 = w.alloc (.cells (rdC q).toArray 62) := ⟨_, rfl⟩
  obtain ⟨W1, hW1⟩ : ∃ W1, W1 = W0.alloc (.cells #[.string ⟨#[]⟩, .string ⟨#[]⟩, .int .i64 0] 43) := ⟨_, rfl⟩
  have HR0 : RS (pRdr s q N hN) s k b w w [] [] k b := ⟨RW.new (Q := pRdr s q N hN) h hk, .nil hk⟩
  have HR1 : Hid (RS (pRdr s q N hN) s k b w W1 [(W0.heap.size, [.string ⟨#[]⟩, .string ⟨#[]⟩, .int .i64 0]), (w.heap.size, rdC q)] [] k b) := Lib.hid (by rw [hW1, hW0]; exact (HR0.alloc (rdC q) _).alloc [.string ⟨#[]⟩, .string ⟨#[]⟩, .int .i64 0] _)
  have HS0 : W0.heap.size = w.heap.size + 1 := by rw [hW0]; simp
  have hW2 : w.alloc (.cells #[f2 q, f3 q, f4 q, f5 q] 62) = W0 := hW0.symm
  have hW3 := hW1.symm
  have HBW : Hid (Below w.heap.size w W1) := Lib.hid (by rw [hW1, hW0]; exact ((Below.refl _ _).alloc (Nat.le_refl _) _).alloc (by simp) _)
  have NR := Lib.hid (fun (K : Nat) (hK : wideB (K : Int) = true) => numR (s := s) (q := q) hN hK)
  have TR := Lib.hid (textR (s := s) (q := q) hN)
  have HIR := Lib.hid (fun W k b hk h hf => instR (s := s) (q := q) hN W k b hk h hf)
  have e2 := enters_r2
  have e3 := enters_r3
  have e4 := enters_r4
  unfold Enters at e2 e3 e4
  show Calls _ _ #[.agg #[f2 q, f3 q, f4 q, f5 q]] w _
  clear HIR HF HBW
  clear hW0 hW1 HR0 h HS0
  go_enter Tryd.func78, Tryd.ntmps78
  have HR2 := Lib.hid HR1.out.drew
  have hS2 : W1.drew.cell? ⟨w.heap.size, 0, none⟩ = some (f2 q) ∧ W1.drew.cell? ⟨w.heap.size, 1, none⟩ = some (f3 q) := (And.intro ((HR2.out.rw.fns (q := q) (rb := w.heap.size) (by simp)).1) ((HR2.out.rw.fns (q := q) (rb := w.heap.size) (by simp)).2.1))
  go_wp2_with fail
  refine wp_region_noPanic (wp_region_held_drew (S := fun W => W.cell? ⟨w.heap.size, 0, none⟩ = some (f2 q) ∧ W.cell? ⟨w.heap.size, 1, none⟩ = some (f3 q)) (by kernel_rfl) hS2 (fun hHeld => ?_))
  refine wpAnyH_take (i := 0) (v := ?_) rfl (by kernel_rfl) (by kernel_rfl) (by kernel_rfl) (fun _ _ _ h => h) (Or.inl ⟨by rfl, ?_⟩) (by assumption) ?_
  rotate_left
  · intro w' hSw
    obtain ⟨hs0, hs1⟩ := hSw
    go_simp
    first | done | with_reducible rfl
  try simp only [Act.put, List.getElem_toArray, List.getElem_cons_zero, List.setIfInBounds_toArray, List.set_cons_zero, List.set_cons_succ]
  refine wpAnyH_take (i := 1) (v := ?_) rfl (by kernel_rfl) (by kernel_rfl) (by kernel_rfl) (fun _ _ _ h => h) (Or.inl ⟨by rfl, ?_⟩) (by assumption) ?_
  rotate_left
  · intro w' hSw
    obtain ⟨hs0, hs1⟩ := hSw
    go_simp
    first | done | with_reducible rfl
  try simp only [Act.put, List.getElem_toArray, List.getElem_cons_succ, List.getElem_cons_zero, List.setIfInBounds_toArray, List.set_cons_zero, List.set_cons_succ]
  refine wpAnyH_take (i := 3) (v := ?_) rfl (by kernel_rfl) (by kernel_rfl) (by kernel_rfl) (fun _ _ _ h => h) (Or.inl ⟨by rfl, ?_⟩) (by assumption) ?_
  rotate_left
  · intro w' hSw
    obtain ⟨hs0, hs1⟩ := hSw
    go_simp
    first | done | with_reducible rfl
  try simp only [Act.put, List.getElem_toArray, List.getElem_cons_succ, List.getElem_cons_zero, List.setIfInBounds_toArray, List.set_cons_zero, List.set_cons_succ]
  refine wpAnyH_take (i := 4) (v := ?_) rfl (by kernel_rfl) (by kernel_rfl) (by kernel_rfl) (fun _ _ _ h => h) (Or.inl ⟨by rfl, ?_⟩) (by assumption) ?_
  rotate_left
  · intro w' hSw
    obtain ⟨hs0, hs1⟩ := hSw
    go_simp
    first | done | with_reducible rfl
  try simp only [Act.put, List.getElem_toArray, List.getElem_cons_succ, List.getElem_cons_zero, List.setIfInBounds_toArray, List.set_cons_zero, List.set_cons_succ]
  refine wpAnyH_take (i := 6) (v := ?_) rfl (by kernel_rfl) (by kernel_rfl) (by kernel_rfl) (fun _ _ _ h => h) (Or.inl ⟨by rfl, ?_⟩) (by assumption) ?_
  rotate_left
  · intro w' hSw
    obtain ⟨hs0, hs1⟩ := hSw
    go_simp
    first | done | with_reducible rfl
  try simp only [Act.put, List.getElem_toArray, List.getElem_cons_succ, List.getElem_cons_zero, List.setIfInBounds_toArray, List.set_cons_zero, List.set_cons_succ]
  refine wpAnyH_take (i := 7) (v := ?_) rfl (by kernel_rfl) (by kernel_rfl) (by kernel_rfl) (fun _ _ _ h => h) (Or.inl ⟨by rfl, ?_⟩) (by assumption) ?_
  rotate_left
  · intro w' hSw
    obtain ⟨hs0, hs1⟩ := hSw
    go_simp
    first | done | with_reducible rfl
  try simp only [Act.put, List.getElem_toArray, List.getElem_cons_succ, List.getElem_cons_zero, List.setIfInBounds_toArray, List.set_cons_zero, List.set_cons_succ]
  refine wpAnyH_all (rs := [2]) (by kernel_rfl) (by simp) (fun q hq => ?_)
  obtain rfl := List.mem_singleton.1 hq
  clear hq
  refine wpOp_wp rfl (by rfl) (fun K' hK => ?_)
  go_simp
  refine (TR.out _ _ _ HR2.out.rw.le HR2.out.rw.st).mono ?_
  rintro e W3 ⟨n2, k2, b2, rfl, ho⟩
  have HR3 := Lib.hid (HR2.out.txt ho)
  have hS3 := (And.intro ((HR3.out.rw.fns (q := q) (rb := w.heap.size) (by simp)).1) ((HR3.out.rw.fns (q := q) (rb := w.heap.size) (by simp)).2.1))
  refine hK.out _ _ ⟨hS3, ?_⟩
  clear hK K' ho
  try simp only [Act.put, List.getElem_toArray, List.getElem_cons_succ, List.getElem_cons_zero, List.setIfInBounds_toArray, List.set_cons_zero, List.set_cons_succ]
  refine wpAnyH_all (rs := [5]) (by kernel_rfl) (by simp) (fun q hq => ?_)
  obtain rfl := List.mem_singleton.1 hq
  clear hq
  refine wpOp_wp rfl (by rfl) (fun K' hK => ?_)
  go_simp
  refine (TR.out _ _ _ HR3.out.rw.le HR3.out.rw.st).mono ?_
  rintro e W4 ⟨n5, k5, b5, rfl, ho⟩
  have HR4 := Lib.hid (HR3.out.txt ho)
  have hS4 := (And.intro ((HR4.out.rw.fns (q := q) (rb := w.heap.size) (by simp)).1) ((HR4.out.rw.fns (q := q) (rb := w.heap.size) (by simp)).2.1))
  refine hK.out _ _ ⟨hS4, ?_⟩
  clear hK K' ho
  try simp only [Act.put, List.getElem_toArray, List.getElem_cons_succ, List.getElem_cons_zero, List.setIfInBounds_toArray, List.set_cons_zero, List.set_cons_succ]
  refine wpAnyH_all (rs := [8]) (by kernel_rfl) (by simp) (fun q hq => ?_)
  obtain rfl := List.mem_singleton.1 hq
  clear hq
  refine wpOp_wp rfl (by rfl) (fun K' hK => ?_)
  go_simp
  refine (NR.out 1 rfl _ _ _ HR4.out.rw.le HR4.out.rw.st).mono ?_
  rintro e W5 ⟨n8, k8, b8, rfl, ho⟩
  have HR5 := Lib.hid (HR4.out.num ho)
  have hS5 := (And.intro ((HR5.out.rw.fns (q := q) (rb := w.heap.size) (by simp)).1) ((HR5.out.rw.fns (q := q) (rb := w.heap.size) (by simp)).2.1))
  refine hK.out _ _ ⟨hS5, ?_⟩
  clear hK K' ho
  try simp only [Act.put, List.getElem_toArray, List.getElem_cons_succ, List.getElem_cons_zero, List.setIfInBounds_toArray, List.set_cons_zero, List.set_cons_succ]
  refine wpAnyH_take (i := 9) (v := ?_) rfl (by kernel_rfl) (by kernel_rfl) (by kernel_rfl) (fun _ _ _ h => h) (Or.inl ⟨by rfl, ?_⟩) (by assumption) ?_
  rotate_left
  · intro w' hSw
    obtain ⟨hs0, hs1⟩ := hSw
    go_simp
    first | done | with_reducible rfl
  try simp only [Act.put, List.getElem_toArray, List.getElem_cons_succ, List.getElem_cons_zero, List.setIfInBounds_toArray, List.set_cons_zero, List.set_cons_succ]
  refine wpAnyH_all (rs := [10]) (by kernel_rfl) (by simp) (fun q hq => ?_)
  obtain rfl := List.mem_singleton.1 hq
  clear hq
  refine wpOp_wp rfl (by rfl) (fun K' hK => ?_)
  have HP := Lib.hid (HR5.out.rw.stored [.string (strOf n2), .string (strOf n5), .int .i64 n8] rfl)
  have HT := Lib.hid HP.out.1
  have HP2 := Lib.hid HP.out.2
  clear HP
  refine wp_store_mid 43 (.tmp 2) (.tmp 12) rfl W0.heap.size 0 ([.string (strOf n2), .string (strOf n5), .int .i64 n8] : List Value).toArray rfl rfl HT.out (by kernel_rfl) (by simp [Value.oneCell']) ?_
  generalize World.setCells _ _ _ _ = W20 at HP2 ⊢
  refine hK.out _ _ ⟨(And.intro ((HP2.out.fns (q := q) (rb := w.heap.size) (by simp)).1) ((HP2.out.fns (q := q) (rb := w.heap.size) (by simp)).2.1)), ?_⟩
  clear hK K'
  try simp only [Act.put, List.getElem_toArray, List.getElem_cons_succ, List.getElem_cons_zero]
  refine wpAnyH_done (by kernel_rfl) (NoPanic.normal ?_) _
  go_wp2
  have HC := Lib.hid (HP2.out.own _ (List.mem_cons_self ..)).1
  refine bodyPost_ret (results_cell1 rfl _ _ rfl HC.out.cells Tryd.underlying43 rfl (by kernel_rfl)) rfl ?_
  exact ⟨_, ⟨n2, n5, n8⟩, _, _, rfl, rfl, seq_use HR5.out.sq, HP2.out.st, HP2.out.only⟩

end
end Go.Proofs.YtmloljfnnkfkjaaDoor.Im

