/- readList at each kind of elements; the walk of readProto: their contracts. No condition but those that each states. -/
import Derived.Test.YtmloljfnnkfkjaaDoorMgAV
import Derived.Test.YtmloljfnnkfkjaaDoorMgAW
namespace Go.Proofs.YtmloljfnnkfkjaaDoor.Im
open Go.RowKit Dk In

section
variable {s : List UInt8} {q : Rq} {N : Nat} (hN : q.ba < N ∧ q.bh < N) (hnf : ¬rF q 0)
include hnf in
theorem listus : ∀ (w : World) (k : Nat) (b : Bool), k ≤ s.length → RD s q N w k b → HasF w → Calls Tryd.prog 77 #[.agg (rdC q).toArray, .func (.func 78) #[] #[]] w (RdAny (pRdr s q N hN) s (rdL (rdUse)) (rowR Us.cells) w k b) := fun w k b hk h HF =>
  rdlist_us hN enters_readUse (R := elR Us.cells) (RO := rowR Us.cells) (readUse_any hN) (fun _ _ css l => css = l.map Us.cells) (fun _ _ => rfl) (fun _ _ _ _ _ h _ => h) (fun _ _ _ _ _ h _ => h)
    (fun X Y W css l v x he hr _ => ⟨Us.cells x, hr, rfl, us_ones [x] _ (by simp), by rw [he]; simp⟩) (fun X W v css l hr he => by subst he; exact hr.1) w k b hk h HF hnf
include hnf in
theorem listcp : ∀ (w : World) (k : Nat) (b : Bool), k ≤ s.length → RD s q N w k b → HasF w → Calls Tryd.prog 96 #[.agg (rdC q).toArray, .func (.func 97) #[] #[]] w (RdAny (pRdr s q N hN) s (rdL (rdCap)) (rowR Cp.cells) w k b) := fun w k b hk h HF =>
  rdlist_cp hN enters_readCap (R := elR Cp.cells) (RO := rowR Cp.cells) (readCap_any hN) (fun _ _ css l => css = l.map Cp.cells) (fun _ _ => rfl) (fun _ _ _ _ _ h _ => h) (fun _ _ _ _ _ h _ => h)
    (fun X Y W css l v x he hr _ => ⟨Cp.cells x, hr, rfl, cp_ones [x] _ (by simp), by rw [he]; simp⟩) (fun X W v css l hr he => by subst he; exact hr.1) w k b hk h HF hnf
include hnf in
theorem listvl : ∀ (w : World) (k : Nat) (b : Bool), k ≤ s.length → RD s q N w k b → HasF w → Calls Tryd.prog 98 #[.agg (rdC q).toArray, .func (.func 99) #[] #[]] w (RdAny (pRdr s q N hN) s (rdL (rdVal)) (rowR Vl.cells) w k b) := fun w k b hk h HF =>
  rdlist_vl hN enters_readConst (R := elR Vl.cells) (RO := rowR Vl.cells) (readConst_any hN) (fun _ _ css l => css = l.map Vl.cells) (fun _ _ => rfl) (fun _ _ _ _ _ h _ => h) (fun _ _ _ _ _ h _ => h)
    (fun X Y W css l v x he hr _ => ⟨Vl.cells x, hr, rfl, vl_ones [x] _ (by simp), by rw [he]; simp⟩) (fun X W v css l hr he => by subst he; exact hr.1) w k b hk h HF hnf
include hnf in
theorem listix : ∀ (w : World) (k : Nat) (b : Bool), k ≤ s.length → RD s q N w k b → HasF w → Calls Tryd.prog 100 #[.agg (rdC q).toArray, .func (.func 101) #[] #[]] w (RdAny (pRdr s q N hN) s (rdL (rdI fixI)) (rowR Ix.cells) w k b) := fun w k b hk h HF =>
  rdlist_ix hN enters_readInst (R := elR Ix.cells) (RO := rowR Ix.cells) (readInst_any hN) (fun _ _ css l => css = l.map Ix.cells) (fun _ _ => rfl) (fun _ _ _ _ _ h _ => h) (fun _ _ _ _ _ h _ => h)
    (fun X Y W css l v x he hr _ => ⟨Ix.cells x, hr, rfl, ix_ones [x] _ (by simp), by rw [he]; simp⟩) (fun X W v css l hr he => by subst he; exact hr.1) w k b hk h HF hnf

theorem HasF.only {w W : World} (h : HasF w) (hO : Only (rF q) w W) (hn : ¬rF q 0) : HasF W := by
  refine ⟨Nat.lt_of_lt_of_le h.lt hO.size, fun i hi => ?_, fun i hi => ?_⟩
  · exact (World.cell?_of_block (a := ⟨_, _, none⟩) (hO.block _ h.lt hn)).trans (h.nm i hi)
  · exact (World.cell?_of_block (a := ⟨_, _, none⟩) (hO.block _ h.lt hn)).trans (h.sh i hi)
theorem keeps_call {Q : Rdr} {w W W' : World} {L : List (Nat × List Value)} {k : Nat} {b : Bool} {X : Nat → Prop} (h : RW Q s w W L k b) (hO : Only Q.F W W') (hX : ∀ g, X g → w.heap.size ≤ g) : Keeps X W W' :=
  ⟨hO.size, fun g hg hl => hO.block g hl (fun hf => by have h1 := Q.lt _ hf; have h2 := h.low; have h3 := hX g hg; omega)⟩
theorem keeps_one {W : World} {X : Nat → Prop} {g j : Nat} {v : Value} (hX : ¬X g) : Keeps X W (W.setCell ⟨g, j, none⟩ v) := ⟨by simp, fun i hi _ => Below.heap_setCell _ _ _ _ (by intro e; have e' : i = g := e; subst e'; exact hX hi)⟩
theorem keeps_all {W : World} {X : Nat → Prop} {g : Nat} {vs : List Value} (hX : ¬X g) : Keeps X W (W.setCells g 0 vs) := ⟨by rw [Dk.size_setCells]; exact Nat.le_refl _, fun i hi _ => Dk.block_setCells g i (by intro e; subst e; exact hX hi) _ _ _⟩
theorem seq_pr {k0 k k2 k3 k4 : Nat} {b0 b b2 b3 b4 : Bool} {a : List UInt8} {u v : Int} {d : List Cp} {e : List Vl} {f : List Ix} (h : Seqs s k0 b0 [.n 1 v, .n 1 u, .t a] k b) (h2 : Out (rdL rdCap) s k b d k2 b2) (h3 : Out (rdL rdVal) s k2 b2 e k3 b3) (h4 : Out (rdL (rdI fixI)) s k3 b3 f k4 b4) : Out (rdPr fixI) s k0 b0 ⟨a, u, v, f, e, d⟩ k4 b4 := by
  cases h with
  | num h5 h6 =>
    cases h5 with
    | num h7 h8 =>
      cases h7 with
      | txt h9 h10 =>
        cases h9
        exact h10.bind (h8.bind (h6.bind (h2.bind (h3.bind h4.bindRet))))
set_option maxHeartbeats 8000000 in
set_option maxRecDepth 100000 in
include hnf in
theorem readProto_any : RdF s q N hN 80 (rdPr fixI) prR := by
  intro w k b hk h HF
  obtain ⟨W0, hW0⟩ : ∃ W0, W0 = w.alloc (.cells (rdC q).toArray 62) := ⟨_, rfl⟩
  obtain ⟨W1, hW1⟩ : ∃ W1, W1 = W0.alloc (.cells #[.string ⟨#[]⟩, .int .i64 0, .int .i64 0, .slice none 0 0, .slice none 0 0, .slice none 0 0] 38) := ⟨_, rfl⟩
  have HR0 : RS (pRdr s q N hN) s k b w w [] [] k b := ⟨RW.new (Q := pRdr s q N hN) h hk, .nil hk⟩
  have HR1 : Hid (RS (pRdr s q N hN) s k b w W1 [(W0.heap.size, [.string ⟨#[]⟩, .int .i64 0, .int .i64 0, .slice none 0 0, .slice none 0 0, .slice none 0 0]), (w.heap.size, rdC q)] [] k b) := Lib.hid (by rw [hW1, hW0]; exact (HR0.alloc (rdC q) _).alloc [.string ⟨#[]⟩, .int .i64 0, .int .i64 0, .slice none 0 0, .slice none 0 0, .slice none 0 0] _)
  have HS0 : Hid (W0.heap.size = w.heap.size + 1) := Lib.hid (by rw [hW0]; simp)
  have hW2 : w.alloc (.cells #[f2 q, f3 q, f4 q, f5 q] 62) = W0 := hW0.symm
  have hW3 := hW1.symm
  have HFK : Hid (∀ W, Only (pRdr s q N hN).F w W → HasF W) := Lib.hid (fun W hO => HasF.only HF hO hnf)
  have NR := Lib.hid (fun (K : Nat) (hK : wideB (K : Int) = true) => numR (s := s) (q := q) hN hK)
  have TR := Lib.hid (textR (s := s) (q := q) hN)
  have HIR := Lib.hid (r_info.trans (congrArg some (show 4 = (rdC q).length from rfl)))
  have e2 := enters_r2
  have e3 := enters_r3
  unfold Enters at e2 e3
  have LC := Lib.hid (listcp (s := s) hN hnf)
  have LK := Lib.hid (listvl (s := s) hN hnf)
  have LI := Lib.hid (listix (s := s) hN hnf)
  show Calls _ _ #[.agg #[f2 q, f3 q, f4 q, f5 q]] w _
  clear hW0 hW1 HR0 h HF
  go_enter Tryd.func80, Tryd.ntmps80
  have HR2 := Lib.hid HR1.out.drew
  have hS2 : W1.drew.cell? ⟨w.heap.size, 0, none⟩ = some (f2 q) ∧ W1.drew.cell? ⟨w.heap.size, 1, none⟩ = some (f3 q) := (And.intro (HR2.out.rw.fns (q := q) (rb := w.heap.size) (by simp)).1 (HR2.out.rw.fns (q := q) (rb := w.heap.size) (by simp)).2.1)
  go_wp2_with fail
  refine wp_region_noPanic (wp_region_held_drew (S := fun W => W.cell? ⟨w.heap.size, 0, none⟩ = some (f2 q) ∧ W.cell? ⟨w.heap.size, 1, none⟩ = some (f3 q)) (by kernel_rfl) hS2 (fun hHeld => ?_))
  refine wpAnyH_take (i := 0) (v := ?_) rfl (by kernel_rfl) (by kernel_rfl) (by kernel_rfl) (fun _ _ _ h => h) (Or.inl ⟨by rfl, ?_⟩) (by assumption) ?_
  rotate_left
  · intro w' hSw
    obtain ⟨hs0, hs1⟩ := hSw
    go_simp
    first | done | with_reducible rfl
  try simp only [Act.put, List.getElem_toArray, List.getElem_cons_zero, List.setIfInBounds_toArray, List.set_cons_zero, List.set_cons_succ]
  refine wpAnyH_take (i := 1) (v := ?_) rfl (by kernel_rfl) (by kernel_rfl) (by kernel_rfl) (fun _ _ _ h => h) (Or.inl ⟨by rfl, ?_⟩) (by assumption) ?_
  rotate_left
  · intro w' hSw
    obtain ⟨hs0, hs1⟩ := hSw
    go_simp
    first | done | with_reducible rfl
  try simp only [Act.put, List.getElem_toArray, List.getElem_cons_succ, List.getElem_cons_zero, List.setIfInBounds_toArray, List.set_cons_zero, List.set_cons_succ]
  refine wpAnyH_take (i := 3) (v := ?_) rfl (by kernel_rfl) (by kernel_rfl) (by kernel_rfl) (fun _ _ _ h => h) (Or.inl ⟨by rfl, ?_⟩) (by assumption) ?_
  rotate_left
  · intro w' hSw
    obtain ⟨hs0, hs1⟩ := hSw
    go_simp
    first | done | with_reducible rfl
  try simp only [Act.put, List.getElem_toArray, List.getElem_cons_succ, List.getElem_cons_zero, List.setIfInBounds_toArray, List.set_cons_zero, List.set_cons_succ]
  refine wpAnyH_take (i := 4) (v := ?_) rfl (by kernel_rfl) (by kernel_rfl) (by kernel_rfl) (fun _ _ _ h => h) (Or.inl ⟨by rfl, ?_⟩) (by assumption) ?_
  rotate_left
  · intro w' hSw
    obtain ⟨hs0, hs1⟩ := hSw
    go_simp
    first | done | with_reducible rfl
  try simp only [Act.put, List.getElem_toArray, List.getElem_cons_succ, List.getElem_cons_zero, List.setIfInBounds_toArray, List.set_cons_zero, List.set_cons_succ]
  refine wpAnyH_take (i := 6) (v := ?_) rfl (by kernel_rfl) (by kernel_rfl) (by kernel_rfl) (fun _ _ _ h => h) (Or.inl ⟨by rfl, ?_⟩) (by assumption) ?_
  rotate_left
  · intro w' hSw
    obtain ⟨hs0, hs1⟩ := hSw
    go_simp
    first | done | with_reducible rfl
  try simp only [Act.put, List.getElem_toArray, List.getElem_cons_succ, List.getElem_cons_zero, List.setIfInBounds_toArray, List.set_cons_zero, List.set_cons_succ]
  refine wpAnyH_take (i := 7) (v := ?_) rfl (by kernel_rfl) (by kernel_rfl) (by kernel_rfl) (fun _ _ _ h => h) (Or.inl ⟨by rfl, ?_⟩) (by assumption) ?_
  rotate_left
  · intro w' hSw
    obtain ⟨hs0, hs1⟩ := hSw
    go_simp
    first | done | with_reducible rfl
  try simp only [Act.put, List.getElem_toArray, List.getElem_cons_succ, List.getElem_cons_zero, List.setIfInBounds_toArray, List.set_cons_zero, List.set_cons_succ]
  refine wpAnyH_all (rs := [2, 10]) (by kernel_rfl) (by simp) (fun q hq => ?_)
  rcases List.mem_cons.1 hq with rfl | hq
  · skip
    refine wpOp_wp rfl (by rfl) (fun K' hK => ?_)
    go_simp
    refine (TR.out _ _ _ HR2.out.rw.le HR2.out.rw.st).mono ?_
    rintro e W3 ⟨n2, k2, b2, rfl, ho⟩
    have HR3 := Lib.hid (HR2.out.txt ho)
    have hS3 := (And.intro (HR3.out.rw.fns (q := q) (rb := w.heap.size) (by simp)).1 (HR3.out.rw.fns (q := q) (rb := w.heap.size) (by simp)).2.1)
    refine hK.out _ _ ⟨hS3, ?_⟩
    clear hK K' ho
    try simp only [Act.put, List.getElem_toArray, List.getElem_cons_succ, List.getElem_cons_zero, List.setIfInBounds_toArray, List.set_cons_zero, List.set_cons_succ]
    refine wpAnyH_all (rs := [5, 10]) (by kernel_rfl) (by simp) (fun q hq => ?_)
    rcases List.mem_cons.1 hq with rfl | hq
    · skip
      refine wpOp_wp rfl (by rfl) (fun K' hK => ?_)
      go_simp
      refine (NR.out 1 rfl _ _ _ HR3.out.rw.le HR3.out.rw.st).mono ?_
      rintro e W4 ⟨n5, k5, b5, rfl, ho⟩
      have HR4 := Lib.hid (HR3.out.num ho)
      have hS4 := (And.intro (HR4.out.rw.fns (q := q) (rb := w.heap.size) (by simp)).1 (HR4.out.rw.fns (q := q) (rb := w.heap.size) (by simp)).2.1)
      refine hK.out _ _ ⟨hS4, ?_⟩
      clear hK K' ho
      try simp only [Act.put, List.getElem_toArray, List.getElem_cons_succ, List.getElem_cons_zero, List.setIfInBounds_toArray, List.set_cons_zero, List.set_cons_succ]
      refine wpAnyH_all (rs := [8, 10]) (by kernel_rfl) (by simp) (fun q hq => ?_)
      rcases List.mem_cons.1 hq with rfl | hq
      · skip
        refine wpOp_wp rfl (by rfl) (fun K' hK => ?_)
        go_simp
        refine (NR.out 1 rfl _ _ _ HR4.out.rw.le HR4.out.rw.st).mono ?_
        rintro e W5 ⟨n8, k8, b8, rfl, ho⟩
        have HR5 := Lib.hid (HR4.out.num ho)
        have hS5 := (And.intro (HR5.out.rw.fns (q := q) (rb := w.heap.size) (by simp)).1 (HR5.out.rw.fns (q := q) (rb := w.heap.size) (by simp)).2.1)
        refine hK.out _ _ ⟨hS5, ?_⟩
        clear hK K' ho
        try simp only [Act.put, List.getElem_toArray, List.getElem_cons_succ, List.getElem_cons_zero, List.setIfInBounds_toArray, List.set_cons_zero, List.set_cons_succ]
        refine wpAnyH_take (i := 9) (v := ?_) rfl (by kernel_rfl) (by kernel_rfl) (by kernel_rfl) (fun _ _ _ h => h) (Or.inl ⟨by rfl, ?_⟩) (by assumption) ?_
        rotate_left
        · intro w' hSw
          obtain ⟨hs0, hs1⟩ := hSw
          go_simp
          first | done | with_reducible rfl
        try simp only [Act.put, List.getElem_toArray, List.getElem_cons_succ, List.getElem_cons_zero, List.setIfInBounds_toArray, List.set_cons_zero, List.set_cons_succ]
        refine wpAnyH_all (rs := [10]) (by kernel_rfl) (by simp) (fun q hq => ?_)
        obtain rfl := List.mem_singleton.1 hq
        clear hq
        refine wpOp_wp rfl (by rfl) (fun K' hK => ?_)
        go_simp
        have HR6 := Lib.hid (HR5.out.alloc [.string ⟨#[]⟩, .int .i64 0, .int .i64 0, .slice none 0 0, .slice none 0 0, .slice none 0 0] 38)
        have hS6 := (And.intro (HR6.out.rw.fns (q := q) (rb := w.heap.size) (by simp)).1 (HR6.out.rw.fns (q := q) (rb := w.heap.size) (by simp)).2.1)
        refine hK.out _ _ ⟨hS6, ?_⟩
        clear hK K'
        try simp only [Act.put, List.getElem_toArray, List.getElem_cons_succ, List.getElem_cons_zero, List.setIfInBounds_toArray, List.set_cons_zero, List.set_cons_succ]
        generalize (World.heap W5).size = BB at HR6 ⊢
        refine wpAnyH_all (rs := [11]) (by kernel_rfl) (by simp) (fun q hq => ?_)
        obtain rfl := List.mem_singleton.1 hq
        clear hq
        refine wpOp_wp rfl (by rfl) (fun K' hK => ?_)
        have HP := Lib.hid (HR6.out.rw.stored [.string (strOf n2), .int .i64 n5, .int .i64 n8, .slice none 0 0, .slice none 0 0, .slice none 0 0] rfl)
        have HT := Lib.hid HP.out.1
        have HPA := Lib.hid HP.out.2
        clear HP
        refine wp_store_mid 38 (.tmp 3) (.tmp 13) rfl BB 0 ([.string (strOf n2), .int .i64 n5, .int .i64 n8, .slice none 0 0, .slice none 0 0, .slice none 0 0] : List Value).toArray rfl rfl HT.out (by kernel_rfl) (by simp [Value.oneCell']) ?_
        generalize World.setCells _ _ _ _ = W20 at HPA ⊢
        refine hK.out _ _ ⟨(And.intro (HPA.out.fns (q := q) (rb := w.heap.size) (by simp)).1 (HPA.out.fns (q := q) (rb := w.heap.size) (by simp)).2.1), ?_⟩
        clear hK K'
        try simp only [Act.put, List.getElem_toArray, List.getElem_cons_succ, List.getElem_cons_zero]
        refine wpAnyH_done (by kernel_rfl) (NoPanic.normal ?_) _
        have HSQ := Lib.hid HR6.out.sq
        have HOR := Lib.hid (HPA.out.own (w.heap.size, rdC q) (by simp)).1
        go_wp2_with (refine wpList_load_mid rfl 62 (.tmp 1) rfl w.heap.size 0 rfl (rdC q) _ HOR.out.cells Tryd.underlying62 rfl HIR.out ?_)
        refine (LC.out _ _ _ HPA.out.le HPA.out.st (HFK.out _ HPA.out.only)).mono ?_
        rintro e W31 ⟨v1, l1, kk1, bb1, ho⟩
        obtain rfl := ho.ret
        have hrep1 : Rw Cp.cells (fun g => _ ≤ g) W31 v1 l1 := ho.rep
        obtain ⟨p1, c1, hv1⟩ := Row.form hrep1
        rw [List.length_map] at hv1
        subst hv1
        have HO1 := Lib.hid ho.out
        have HQ1 := Lib.hid (HPA.out.ok ho)
        have HX1 : Hid (Rw Cp.cells (fun g => BB < g ∧ W0.heap.size < g ∧ w.heap.size ≤ g) W31 (.slice p1 l1.length c1) l1) := Lib.hid (Row.weaken hrep1 (fun g hg _ => ⟨Nat.lt_of_lt_of_le (HPA.out.own (BB, [.string (strOf n2), .int .i64 n5, .int .i64 n8, .slice none 0 0, .slice none 0 0, .slice none 0 0]) (by simp)).1.lt hg, Nat.lt_of_lt_of_le (HPA.out.own (W0.heap.size, [.string ⟨#[]⟩, .int .i64 0, .int .i64 0, .slice none 0 0, .slice none 0 0, .slice none 0 0]) (by simp)).1.lt hg, Nat.le_trans (Nat.le_of_lt (HPA.out.own (w.heap.size, rdC q) (by simp)).1.lt) hg⟩))
        have dd : W31.cell? ⟨BB, 5, none⟩ = some (.slice none 0 0) := HQ1.out.at (x := (BB, [.string (strOf n2), .int .i64 n5, .int .i64 n8, .slice none 0 0, .slice none 0 0, .slice none 0 0])) (by simp) 5 _ rfl
        have gg : W31.frozen? ⟨BB, 5, none⟩ = false := (HQ1.out.own (BB, [.string (strOf n2), .int .i64 n5, .int .i64 n8, .slice none 0 0, .slice none 0 0, .slice none 0 0]) (by simp)).1.free 5 (by simp)
        have HP1 : Hid (RW (pRdr s q N hN) s w (W31.setCell ⟨BB, 5, none⟩ (.slice p1 l1.length c1)) [(BB, [.string (strOf n2), .int .i64 n5, .int .i64 n8, .slice none 0 0, .slice none 0 0, .slice p1 l1.length c1]), (W0.heap.size, [.string ⟨#[]⟩, .int .i64 0, .int .i64 0, .slice none 0 0, .slice none 0 0, .slice none 0 0]), (w.heap.size, rdC q)] kk1 bb1) := Lib.hid (HQ1.out.setOne 5 (.slice p1 l1.length c1) (by simp))
        have hk1 := keeps_one (W := W31) (X := (fun g => BB < g ∧ W0.heap.size < g ∧ w.heap.size ≤ g)) (g := BB) (j := 5) (v := .slice p1 l1.length c1) (fun hx => Nat.lt_irrefl _ hx.1)
        replace HX1 := Lib.hid (HX1.out.keep hk1)
        clear ho HQ1 HOR hrep1 hk1 HPA
        have HOR := Lib.hid (HP1.out.own (w.heap.size, rdC q) (by simp)).1
        go_wp2_with (refine wpList_load_mid rfl 62 (.tmp 1) rfl w.heap.size 0 rfl (rdC q) _ HOR.out.cells Tryd.underlying62 rfl HIR.out ?_)
        refine (LK.out _ _ _ HP1.out.le HP1.out.st (HFK.out _ HP1.out.only)).mono ?_
        rintro e W32 ⟨v2, l2, kk2, bb2, ho⟩
        obtain rfl := ho.ret
        have hrep2 : Rw Vl.cells (fun g => _ ≤ g) W32 v2 l2 := ho.rep
        obtain ⟨p2, c2, hv2⟩ := Row.form hrep2
        rw [List.length_map] at hv2
        subst hv2
        have HO2 := Lib.hid ho.out
        have HQ2 := Lib.hid (HP1.out.ok ho)
        have hkc := keeps_call (X := (fun g => BB < g ∧ W0.heap.size < g ∧ w.heap.size ≤ g)) HP1.out ho.only (fun g hg => hg.2.2)
        replace HX1 := Lib.hid (HX1.out.keep hkc)
        have HX2 : Hid (Rw Vl.cells (fun g => BB < g ∧ W0.heap.size < g ∧ w.heap.size ≤ g) W32 (.slice p2 l2.length c2) l2) := Lib.hid (Row.weaken hrep2 (fun g hg _ => ⟨Nat.lt_of_lt_of_le (HP1.out.own (BB, [.string (strOf n2), .int .i64 n5, .int .i64 n8, .slice none 0 0, .slice none 0 0, .slice p1 l1.length c1]) (by simp)).1.lt hg, Nat.lt_of_lt_of_le (HP1.out.own (W0.heap.size, [.string ⟨#[]⟩, .int .i64 0, .int .i64 0, .slice none 0 0, .slice none 0 0, .slice none 0 0]) (by simp)).1.lt hg, Nat.le_trans (Nat.le_of_lt (HP1.out.own (w.heap.size, rdC q) (by simp)).1.lt) hg⟩))
        have dd : W32.cell? ⟨BB, 4, none⟩ = some (.slice none 0 0) := HQ2.out.at (x := (BB, [.string (strOf n2), .int .i64 n5, .int .i64 n8, .slice none 0 0, .slice none 0 0, .slice p1 l1.length c1])) (by simp) 4 _ rfl
        have gg : W32.frozen? ⟨BB, 4, none⟩ = false := (HQ2.out.own (BB, [.string (strOf n2), .int .i64 n5, .int .i64 n8, .slice none 0 0, .slice none 0 0, .slice p1 l1.length c1]) (by simp)).1.free 4 (by simp)
        have HP2 : Hid (RW (pRdr s q N hN) s w (W32.setCell ⟨BB, 4, none⟩ (.slice p2 l2.length c2)) [(BB, [.string (strOf n2), .int .i64 n5, .int .i64 n8, .slice none 0 0, .slice p2 l2.length c2, .slice p1 l1.length c1]), (W0.heap.size, [.string ⟨#[]⟩, .int .i64 0, .int .i64 0, .slice none 0 0, .slice none 0 0, .slice none 0 0]), (w.heap.size, rdC q)] kk2 bb2) := Lib.hid (HQ2.out.setOne 4 (.slice p2 l2.length c2) (by simp))
        have hk1 := keeps_one (W := W32) (X := (fun g => BB < g ∧ W0.heap.size < g ∧ w.heap.size ≤ g)) (g := BB) (j := 4) (v := .slice p2 l2.length c2) (fun hx => Nat.lt_irrefl _ hx.1)
        replace HX1 := Lib.hid (HX1.out.keep hk1)
        replace HX2 := Lib.hid (HX2.out.keep hk1)
        clear ho HQ2 HOR hrep2 hk1 hkc HP1
        have HOR := Lib.hid (HP2.out.own (w.heap.size, rdC q) (by simp)).1
        go_wp2_with (refine wpList_load_mid rfl 62 (.tmp 1) rfl w.heap.size 0 rfl (rdC q) _ HOR.out.cells Tryd.underlying62 rfl HIR.out ?_)
        refine (LI.out _ _ _ HP2.out.le HP2.out.st (HFK.out _ HP2.out.only)).mono ?_
        rintro e W33 ⟨v3, l3, kk3, bb3, ho⟩
        obtain rfl := ho.ret
        have hrep3 : Rw Ix.cells (fun g => _ ≤ g) W33 v3 l3 := ho.rep
        obtain ⟨p3, c3, hv3⟩ := Row.form hrep3
        rw [List.length_map] at hv3
        subst hv3
        have HO3 := Lib.hid ho.out
        have HQ3 := Lib.hid (HP2.out.ok ho)
        have hkc := keeps_call (X := (fun g => BB < g ∧ W0.heap.size < g ∧ w.heap.size ≤ g)) HP2.out ho.only (fun g hg => hg.2.2)
        replace HX1 := Lib.hid (HX1.out.keep hkc)
        replace HX2 := Lib.hid (HX2.out.keep hkc)
        have HX3 : Hid (Rw Ix.cells (fun g => BB < g ∧ W0.heap.size < g ∧ w.heap.size ≤ g) W33 (.slice p3 l3.length c3) l3) := Lib.hid (Row.weaken hrep3 (fun g hg _ => ⟨Nat.lt_of_lt_of_le (HP2.out.own (BB, [.string (strOf n2), .int .i64 n5, .int .i64 n8, .slice none 0 0, .slice p2 l2.length c2, .slice p1 l1.length c1]) (by simp)).1.lt hg, Nat.lt_of_lt_of_le (HP2.out.own (W0.heap.size, [.string ⟨#[]⟩, .int .i64 0, .int .i64 0, .slice none 0 0, .slice none 0 0, .slice none 0 0]) (by simp)).1.lt hg, Nat.le_trans (Nat.le_of_lt (HP2.out.own (w.heap.size, rdC q) (by simp)).1.lt) hg⟩))
        have dd : W33.cell? ⟨BB, 3, none⟩ = some (.slice none 0 0) := HQ3.out.at (x := (BB, [.string (strOf n2), .int .i64 n5, .int .i64 n8, .slice none 0 0, .slice p2 l2.length c2, .slice p1 l1.length c1])) (by simp) 3 _ rfl
        have gg : W33.frozen? ⟨BB, 3, none⟩ = false := (HQ3.out.own (BB, [.string (strOf n2), .int .i64 n5, .int .i64 n8, .slice none 0 0, .slice p2 l2.length c2, .slice p1 l1.length c1]) (by simp)).1.free 3 (by simp)
        have HP3 : Hid (RW (pRdr s q N hN) s w (W33.setCell ⟨BB, 3, none⟩ (.slice p3 l3.length c3)) [(BB, [.string (strOf n2), .int .i64 n5, .int .i64 n8, .slice p3 l3.length c3, .slice p2 l2.length c2, .slice p1 l1.length c1]), (W0.heap.size, [.string ⟨#[]⟩, .int .i64 0, .int .i64 0, .slice none 0 0, .slice none 0 0, .slice none 0 0]), (w.heap.size, rdC q)] kk3 bb3) := Lib.hid (HQ3.out.setOne 3 (.slice p3 l3.length c3) (by simp))
        have hk1 := keeps_one (W := W33) (X := (fun g => BB < g ∧ W0.heap.size < g ∧ w.heap.size ≤ g)) (g := BB) (j := 3) (v := .slice p3 l3.length c3) (fun hx => Nat.lt_irrefl _ hx.1)
        replace HX1 := Lib.hid (HX1.out.keep hk1)
        replace HX2 := Lib.hid (HX2.out.keep hk1)
        replace HX3 := Lib.hid (HX3.out.keep hk1)
        clear ho HQ3 HOR hrep3 hk1 hkc HP2
        have HCB := Lib.hid (HP3.out.own _ (List.mem_cons_self ..)).1
        have HPZ := Lib.hid (HP3.out.swap.stored [.string (strOf n2), .int .i64 n5, .int .i64 n8, .slice p3 l3.length c3, .slice p2 l2.length c2, .slice p1 l1.length c1] rfl)
        have HTZ := Lib.hid HPZ.out.1
        have HPY := Lib.hid HPZ.out.2
        clear HPZ
        have hkz := keeps_all (W := W33.setCell ⟨BB, 3, none⟩ (.slice p3 l3.length c3)) (X := (fun g => BB < g ∧ W0.heap.size < g ∧ w.heap.size ≤ g)) (g := W0.heap.size) (vs := ([.string (strOf n2), .int .i64 n5, .int .i64 n8, .slice p3 l3.length c3, .slice p2 l2.length c2, .slice p1 l1.length c1] : List Value).toArray.toList) (fun hx => Nat.lt_irrefl _ hx.2.1)
        replace HX1 := Lib.hid (HX1.out.keep hkz)
        replace HX2 := Lib.hid (HX2.out.keep hkz)
        replace HX3 := Lib.hid (HX3.out.keep hkz)
        clear hkz
        go_wp2_with (first
          | (refine wpList_load_mid rfl 38 (.tmp 3) rfl BB 0 rfl [.string (strOf n2), .int .i64 n5, .int .i64 n8, .slice p3 l3.length c3, .slice p2 l2.length c2, .slice p1 l1.length c1] _ HCB.out.cells Tryd.underlying38 rfl (by kernel_rfl) ?_)
          | (refine wpList_store_mid rfl 38 (.tmp 2) (.tmp 23) rfl W0.heap.size 0 ([.string (strOf n2), .int .i64 n5, .int .i64 n8, .slice p3 l3.length c3, .slice p2 l2.length c2, .slice p1 l1.length c1] : List Value).toArray rfl rfl HTZ.out (by kernel_rfl) (by simp [Value.oneCell']) ?_; generalize World.setCells _ _ _ _ = W50 at *))
        have HC := Lib.hid (HPY.out.own _ (List.mem_cons_self ..)).1
        refine bodyPost_ret (results_cell1 rfl _ _ rfl HC.out.cells Tryd.underlying38 rfl (by kernel_rfl)) rfl ?_
        exact ⟨_, ⟨n2, n5, n8, l3, l2, l1⟩, _, _, rfl, ⟨_, rfl, ⟨_, _, _, rfl, Row.weaken HX3.out (fun g hg _ => hg.2.2), Row.weaken HX2.out (fun g hg _ => hg.2.2), Row.weaken HX1.out (fun g hg _ => hg.2.2)⟩⟩, seq_pr HSQ.out HO1.out HO2.out HO3.out, HPY.out.st, HPY.out.only⟩
      · skip
        obtain rfl := List.mem_singleton.1 hq
        clear hq
        refine wpOp_wp rfl (by rfl) (fun K' hK => ?_)
        go_simp
        have HR5 := Lib.hid (HR4.out.alloc [.string ⟨#[]⟩, .int .i64 0, .int .i64 0, .slice none 0 0, .slice none 0 0, .slice none 0 0] 38)
        have hS5 := (And.intro (HR5.out.rw.fns (q := q) (rb := w.heap.size) (by simp)).1 (HR5.out.rw.fns (q := q) (rb := w.heap.size) (by simp)).2.1)
        refine hK.out _ _ ⟨hS5, ?_⟩
        clear hK K'
        try simp only [Act.put, List.getElem_toArray, List.getElem_cons_succ, List.getElem_cons_zero, List.setIfInBounds_toArray, List.set_cons_zero, List.set_cons_succ]
        generalize (World.heap W4).size = BB at HR5 ⊢
        refine wpAnyH_all (rs := [8]) (by kernel_rfl) (by simp) (fun q hq => ?_)
        obtain rfl := List.mem_singleton.1 hq
        clear hq
        refine wpOp_wp rfl (by rfl) (fun K' hK => ?_)
        go_simp
        refine (NR.out 1 rfl _ _ _ HR5.out.rw.le HR5.out.rw.st).mono ?_
        rintro e W6 ⟨n8, k8, b8, rfl, ho⟩
        have HR6 := Lib.hid (HR5.out.num ho)
        have hS6 := (And.intro (HR6.out.rw.fns (q := q) (rb := w.heap.size) (by simp)).1 (HR6.out.rw.fns (q := q) (rb := w.heap.size) (by simp)).2.1)
        refine hK.out _ _ ⟨hS6, ?_⟩
        clear hK K' ho
        try simp only [Act.put, List.getElem_toArray, List.getElem_cons_succ, List.getElem_cons_zero, List.setIfInBounds_toArray, List.set_cons_zero, List.set_cons_succ]
        refine wpAnyH_take (i := 9) (v := ?_) rfl (by kernel_rfl) (by kernel_rfl) (by kernel_rfl) (fun _ _ _ h => h) (Or.inl ⟨by rfl, ?_⟩) (by assumption) ?_
        rotate_left
        · intro w' hSw
          obtain ⟨hs0, hs1⟩ := hSw
          go_simp
          first | done | with_reducible rfl
        try simp only [Act.put, List.getElem_toArray, List.getElem_cons_succ, List.getElem_cons_zero, List.setIfInBounds_toArray, List.set_cons_zero, List.set_cons_succ]
        refine wpAnyH_all (rs := [11]) (by kernel_rfl) (by simp) (fun q hq => ?_)
        obtain rfl := List.mem_singleton.1 hq
        clear hq
        refine wpOp_wp rfl (by rfl) (fun K' hK => ?_)
        have HP := Lib.hid (HR6.out.rw.stored [.string (strOf n2), .int .i64 n5, .int .i64 n8, .slice none 0 0, .slice none 0 0, .slice none 0 0] rfl)
        have HT := Lib.hid HP.out.1
        have HPA := Lib.hid HP.out.2
        clear HP
        refine wp_store_mid 38 (.tmp 3) (.tmp 13) rfl BB 0 ([.string (strOf n2), .int .i64 n5, .int .i64 n8, .slice none 0 0, .slice none 0 0, .slice none 0 0] : List Value).toArray rfl rfl HT.out (by kernel_rfl) (by simp [Value.oneCell']) ?_
        generalize World.setCells _ _ _ _ = W20 at HPA ⊢
        refine hK.out _ _ ⟨(And.intro (HPA.out.fns (q := q) (rb := w.heap.size) (by simp)).1 (HPA.out.fns (q := q) (rb := w.heap.size) (by simp)).2.1), ?_⟩
        clear hK K'
        try simp only [Act.put, List.getElem_toArray, List.getElem_cons_succ, List.getElem_cons_zero]
        refine wpAnyH_done (by kernel_rfl) (NoPanic.normal ?_) _
        have HSQ := Lib.hid HR6.out.sq
        have HOR := Lib.hid (HPA.out.own (w.heap.size, rdC q) (by simp)).1
        go_wp2_with (refine wpList_load_mid rfl 62 (.tmp 1) rfl w.heap.size 0 rfl (rdC q) _ HOR.out.cells Tryd.underlying62 rfl HIR.out ?_)
        refine (LC.out _ _ _ HPA.out.le HPA.out.st (HFK.out _ HPA.out.only)).mono ?_
        rintro e W31 ⟨v1, l1, kk1, bb1, ho⟩
        obtain rfl := ho.ret
        have hrep1 : Rw Cp.cells (fun g => _ ≤ g) W31 v1 l1 := ho.rep
        obtain ⟨p1, c1, hv1⟩ := Row.form hrep1
        rw [List.length_map] at hv1
        subst hv1
        have HO1 := Lib.hid ho.out
        have HQ1 := Lib.hid (HPA.out.ok ho)
        have HX1 : Hid (Rw Cp.cells (fun g => BB < g ∧ W0.heap.size < g ∧ w.heap.size ≤ g) W31 (.slice p1 l1.length c1) l1) := Lib.hid (Row.weaken hrep1 (fun g hg _ => ⟨Nat.lt_of_lt_of_le (HPA.out.own (BB, [.string (strOf n2), .int .i64 n5, .int .i64 n8, .slice none 0 0, .slice none 0 0, .slice none 0 0]) (by simp)).1.lt hg, Nat.lt_of_lt_of_le (HPA.out.own (W0.heap.size, [.string ⟨#[]⟩, .int .i64 0, .int .i64 0, .slice none 0 0, .slice none 0 0, .slice none 0 0]) (by simp)).1.lt hg, Nat.le_trans (Nat.le_of_lt (HPA.out.own (w.heap.size, rdC q) (by simp)).1.lt) hg⟩))
        have dd : W31.cell? ⟨BB, 5, none⟩ = some (.slice none 0 0) := HQ1.out.at (x := (BB, [.string (strOf n2), .int .i64 n5, .int .i64 n8, .slice none 0 0, .slice none 0 0, .slice none 0 0])) (by simp) 5 _ rfl
        have gg : W31.frozen? ⟨BB, 5, none⟩ = false := (HQ1.out.own (BB, [.string (strOf n2), .int .i64 n5, .int .i64 n8, .slice none 0 0, .slice none 0 0, .slice none 0 0]) (by simp)).1.free 5 (by simp)
        have HP1 : Hid (RW (pRdr s q N hN) s w (W31.setCell ⟨BB, 5, none⟩ (.slice p1 l1.length c1)) [(BB, [.string (strOf n2), .int .i64 n5, .int .i64 n8, .slice none 0 0, .slice none 0 0, .slice p1 l1.length c1]), (W0.heap.size, [.string ⟨#[]⟩, .int .i64 0, .int .i64 0, .slice none 0 0, .slice none 0 0, .slice none 0 0]), (w.heap.size, rdC q)] kk1 bb1) := Lib.hid (HQ1.out.setOne 5 (.slice p1 l1.length c1) (by simp))
        have hk1 := keeps_one (W := W31) (X := (fun g => BB < g ∧ W0.heap.size < g ∧ w.heap.size ≤ g)) (g := BB) (j := 5) (v := .slice p1 l1.length c1) (fun hx => Nat.lt_irrefl _ hx.1)
        replace HX1 := Lib.hid (HX1.out.keep hk1)
        clear ho HQ1 HOR hrep1 hk1 HPA
        have HOR := Lib.hid (HP1.out.own (w.heap.size, rdC q) (by simp)).1
        go_wp2_with (refine wpList_load_mid rfl 62 (.tmp 1) rfl w.heap.size 0 rfl (rdC q) _ HOR.out.cells Tryd.underlying62 rfl HIR.out ?_)
        refine (LK.out _ _ _ HP1.out.le HP1.out.st (HFK.out _ HP1.out.only)).mono ?_
        rintro e W32 ⟨v2, l2, kk2, bb2, ho⟩
        obtain rfl := ho.ret
        have hrep2 : Rw Vl.cells (fun g => _ ≤ g) W32 v2 l2 := ho.rep
        obtain ⟨p2, c2, hv2⟩ := Row.form hrep2
        rw [List.length_map] at hv2
        subst hv2
        have HO2 := Lib.hid ho.out
        have HQ2 := Lib.hid (HP1.out.ok ho)
        have hkc := keeps_call (X := (fun g => BB < g ∧ W0.heap.size < g ∧ w.heap.size ≤ g)) HP1.out ho.only (fun g hg => hg.2.2)
        replace HX1 := Lib.hid (HX1.out.keep hkc)
        have HX2 : Hid (Rw Vl.cells (fun g => BB < g ∧ W0.heap.size < g ∧ w.heap.size ≤ g) W32 (.slice p2 l2.length c2) l2) := Lib.hid (Row.weaken hrep2 (fun g hg _ => ⟨Nat.lt_of_lt_of_le (HP1.out.own (BB, [.string (strOf n2), .int .i64 n5, .int .i64 n8, .slice none 0 0, .slice none 0 0, .slice p1 l1.length c1]) (by simp)).1.lt hg, Nat.lt_of_lt_of_le (HP1.out.own (W0.heap.size, [.string ⟨#[]⟩, .int .i64 0, .int .i64 0, .slice none 0 0, .slice none 0 0, .slice none 0 0]) (by simp)).1.lt hg, Nat.le_trans (Nat.le_of_lt (HP1.out.own (w.heap.size, rdC q) (by simp)).1.lt) hg⟩))
        have dd : W32.cell? ⟨BB, 4, none⟩ = some (.slice none 0 0) := HQ2.out.at (x := (BB, [.string (strOf n2), .int .i64 n5, .int .i64 n8, .slice none 0 0, .slice none 0 0, .slice p1 l1.length c1])) (by simp) 4 _ rfl
        have gg : W32.frozen? ⟨BB, 4, none⟩ = false := (HQ2.out.own (BB, [.string (strOf n2), .int .i64 n5, .int .i64 n8, .slice none 0 0, .slice none 0 0, .slice p1 l1.length c1]) (by simp)).1.free 4 (by simp)
        have HP2 : Hid (RW (pRdr s q N hN) s w (W32.setCell ⟨BB, 4, none⟩ (.slice p2 l2.length c2)) [(BB, [.string (strOf n2), .int .i64 n5, .int .i64 n8, .slice none 0 0, .slice p2 l2.length c2, .slice p1 l1.length c1]), (W0.heap.size, [.string ⟨#[]⟩, .int .i64 0, .int .i64 0, .slice none 0 0, .slice none 0 0, .slice none 0 0]), (w.heap.size, rdC q)] kk2 bb2) := Lib.hid (HQ2.out.setOne 4 (.slice p2 l2.length c2) (by simp))
        have hk1 := keeps_one (W := W32) (X := (fun g => BB < g ∧ W0.heap.size < g ∧ w.heap.size ≤ g)) (g := BB) (j := 4) (v := .slice p2 l2.length c2) (fun hx => Nat.lt_irrefl _ hx.1)
        replace HX1 := Lib.hid (HX1.out.keep hk1)
        replace HX2 := Lib.hid (HX2.out.keep hk1)
        clear ho HQ2 HOR hrep2 hk1 hkc HP1
        have HOR := Lib.hid (HP2.out.own (w.heap.size, rdC q) (by simp)).1
        go_wp2_with (refine wpList_load_mid rfl 62 (.tmp 1) rfl w.heap.size 0 rfl (rdC q) _ HOR.out.cells Tryd.underlying62 rfl HIR.out ?_)
        refine (LI.out _ _ _ HP2.out.le HP2.out.st (HFK.out _ HP2.out.only)).mono ?_
        rintro e W33 ⟨v3, l3, kk3, bb3, ho⟩
        obtain rfl := ho.ret
        have hrep3 : Rw Ix.cells (fun g => _ ≤ g) W33 v3 l3 := ho.rep
        obtain ⟨p3, c3, hv3⟩ := Row.form hrep3
        rw [List.length_map] at hv3
        subst hv3
        have HO3 := Lib.hid ho.out
        have HQ3 := Lib.hid (HP2.out.ok ho)
        have hkc := keeps_call (X := (fun g => BB < g ∧ W0.heap.size < g ∧ w.heap.size ≤ g)) HP2.out ho.only (fun g hg => hg.2.2)
        replace HX1 := Lib.hid (HX1.out.keep hkc)
        replace HX2 := Lib.hid (HX2.out.keep hkc)
        have HX3 : Hid (Rw Ix.cells (fun g => BB < g ∧ W0.heap.size < g ∧ w.heap.size ≤ g) W33 (.slice p3 l3.length c3) l3) := Lib.hid (Row.weaken hrep3 (fun g hg _ => ⟨Nat.lt_of_lt_of_le (HP2.out.own (BB, [.string (strOf n2), .int .i64 n5, .int .i64 n8, .slice none 0 0, .slice p2 l2.length c2, .slice p1 l1.length c1]) (by simp)).1.lt hg, Nat.lt_of_lt_of_le (HP2.out.own (W0.heap.size, [.string ⟨#[]⟩, .int .i64 0, .int .i64 0, .slice none 0 0, .slice none 0 0, .slice none 0 0]) (by simp)).1.lt hg, Nat.le_trans (Nat.le_of_lt (HP2.out.own (w.heap.size, rdC q) (by simp)).1.lt) hg⟩))
        have dd : W33.cell? ⟨BB, 3, none⟩ = some (.slice none 0 0) := HQ3.out.at (x := (BB, [.string (strOf n2), .int .i64 n5, .int .i64 n8, .slice none 0 0, .slice p2 l2.length c2, .slice p1 l1.length c1])) (by simp) 3 _ rfl
        have gg : W33.frozen? ⟨BB, 3, none⟩ = false := (HQ3.out.own (BB, [.string (strOf n2), .int .i64 n5, .int .i64 n8, .slice none 0 0, .slice p2 l2.length c2, .slice p1 l1.length c1]) (by simp)).1.free 3 (by simp)
        have HP3 : Hid (RW (pRdr s q N hN) s w (W33.setCell ⟨BB, 3, none⟩ (.slice p3 l3.length c3)) [(BB, [.string (strOf n2), .int .i64 n5, .int .i64 n8, .slice p3 l3.length c3, .slice p2 l2.length c2, .slice p1 l1.length c1]), (W0.heap.size, [.string ⟨#[]⟩, .int .i64 0, .int .i64 0, .slice none 0 0, .slice none 0 0, .slice none 0 0]), (w.heap.size, rdC q)] kk3 bb3) := Lib.hid (HQ3.out.setOne 3 (.slice p3 l3.length c3) (by simp))
        have hk1 := keeps_one (W := W33) (X := (fun g => BB < g ∧ W0.heap.size < g ∧ w.heap.size ≤ g)) (g := BB) (j := 3) (v := .slice p3 l3.length c3) (fun hx => Nat.lt_irrefl _ hx.1)
        replace HX1 := Lib.hid (HX1.out.keep hk1)
        replace HX2 := Lib.hid (HX2.out.keep hk1)
        replace HX3 := Lib.hid (HX3.out.keep hk1)
        clear ho HQ3 HOR hrep3 hk1 hkc HP2
        have HCB := Lib.hid (HP3.out.own _ (List.mem_cons_self ..)).1
        have HPZ := Lib.hid (HP3.out.swap.stored [.string (strOf n2), .int .i64 n5, .int .i64 n8, .slice p3 l3.length c3, .slice p2 l2.length c2, .slice p1 l1.length c1] rfl)
        have HTZ := Lib.hid HPZ.out.1
        have HPY := Lib.hid HPZ.out.2
        clear HPZ
        have hkz := keeps_all (W := W33.setCell ⟨BB, 3, none⟩ (.slice p3 l3.length c3)) (X := (fun g => BB < g ∧ W0.heap.size < g ∧ w.heap.size ≤ g)) (g := W0.heap.size) (vs := ([.string (strOf n2), .int .i64 n5, .int .i64 n8, .slice p3 l3.length c3, .slice p2 l2.length c2, .slice p1 l1.length c1] : List Value).toArray.toList) (fun hx => Nat.lt_irrefl _ hx.2.1)
        replace HX1 := Lib.hid (HX1.out.keep hkz)
        replace HX2 := Lib.hid (HX2.out.keep hkz)
        replace HX3 := Lib.hid (HX3.out.keep hkz)
        clear hkz
        go_wp2_with (first
          | (refine wpList_load_mid rfl 38 (.tmp 3) rfl BB 0 rfl [.string (strOf n2), .int .i64 n5, .int .i64 n8, .slice p3 l3.length c3, .slice p2 l2.length c2, .slice p1 l1.length c1] _ HCB.out.cells Tryd.underlying38 rfl (by kernel_rfl) ?_)
          | (refine wpList_store_mid rfl 38 (.tmp 2) (.tmp 23) rfl W0.heap.size 0 ([.string (strOf n2), .int .i64 n5, .int .i64 n8, .slice p3 l3.length c3, .slice p2 l2.length c2, .slice p1 l1.length c1] : List Value).toArray rfl rfl HTZ.out (by kernel_rfl) (by simp [Value.oneCell']) ?_; generalize World.setCells _ _ _ _ = W50 at *))
        have HC := Lib.hid (HPY.out.own _ (List.mem_cons_self ..)).1
        refine bodyPost_ret (results_cell1 rfl _ _ rfl HC.out.cells Tryd.underlying38 rfl (by kernel_rfl)) rfl ?_
        exact ⟨_, ⟨n2, n5, n8, l3, l2, l1⟩, _, _, rfl, ⟨_, rfl, ⟨_, _, _, rfl, Row.weaken HX3.out (fun g hg _ => hg.2.2), Row.weaken HX2.out (fun g hg _ => hg.2.2), Row.weaken HX1.out (fun g hg _ => hg.2.2)⟩⟩, seq_pr HSQ.out HO1.out HO2.out HO3.out, HPY.out.st, HPY.out.only⟩
    · skip
      obtain rfl := List.mem_singleton.1 hq
      clear hq
      refine wpOp_wp rfl (by rfl) (fun K' hK => ?_)
      go_simp
      have HR4 := Lib.hid (HR3.out.alloc [.string ⟨#[]⟩, .int .i64 0, .int .i64 0, .slice none 0 0, .slice none 0 0, .slice none 0 0] 38)
      have hS4 := (And.intro (HR4.out.rw.fns (q := q) (rb := w.heap.size) (by simp)).1 (HR4.out.rw.fns (q := q) (rb := w.heap.size) (by simp)).2.1)
      refine hK.out _ _ ⟨hS4, ?_⟩
      clear hK K'
      try simp only [Act.put, List.getElem_toArray, List.getElem_cons_succ, List.getElem_cons_zero, List.setIfInBounds_toArray, List.set_cons_zero, List.set_cons_succ]
      generalize (World.heap W3).size = BB at HR4 ⊢
      refine wpAnyH_all (rs := [5]) (by kernel_rfl) (by simp) (fun q hq => ?_)
      obtain rfl := List.mem_singleton.1 hq
      clear hq
      refine wpOp_wp rfl (by rfl) (fun K' hK => ?_)
      go_simp
      refine (NR.out 1 rfl _ _ _ HR4.out.rw.le HR4.out.rw.st).mono ?_
      rintro e W5 ⟨n5, k5, b5, rfl, ho⟩
      have HR5 := Lib.hid (HR4.out.num ho)
      have hS5 := (And.intro (HR5.out.rw.fns (q := q) (rb := w.heap.size) (by simp)).1 (HR5.out.rw.fns (q := q) (rb := w.heap.size) (by simp)).2.1)
      refine hK.out _ _ ⟨hS5, ?_⟩
      clear hK K' ho
      try simp only [Act.put, List.getElem_toArray, List.getElem_cons_succ, List.getElem_cons_zero, List.setIfInBounds_toArray, List.set_cons_zero, List.set_cons_succ]
      refine wpAnyH_all (rs := [8]) (by kernel_rfl) (by simp) (fun q hq => ?_)
      obtain rfl := List.mem_singleton.1 hq
      clear hq
      refine wpOp_wp rfl (by rfl) (fun K' hK => ?_)
      go_simp
      refine (NR.out 1 rfl _ _ _ HR5.out.rw.le HR5.out.rw.st).mono ?_
      rintro e W6 ⟨n8, k8, b8, rfl, ho⟩
      have HR6 := Lib.hid (HR5.out.num ho)
      have hS6 := (And.intro (HR6.out.rw.fns (q := q) (rb := w.heap.size) (by simp)).1 (HR6.out.rw.fns (q := q) (rb := w.heap.size) (by simp)).2.1)
      refine hK.out _ _ ⟨hS6, ?_⟩
      clear hK K' ho
      try simp only [Act.put, List.getElem_toArray, List.getElem_cons_succ, List.getElem_cons_zero, List.setIfInBounds_toArray, List.set_cons_zero, List.set_cons_succ]
      refine wpAnyH_take (i := 9) (v := ?_) rfl (by kernel_rfl) (by kernel_rfl) (by kernel_rfl) (fun _ _ _ h => h) (Or.inl ⟨by rfl, ?_⟩) (by assumption) ?_
      rotate_left
      · intro w' hSw
        obtain ⟨hs0, hs1⟩ := hSw
        go_simp
        first | done | with_reducible rfl
      try simp only [Act.put, List.getElem_toArray, List.getElem_cons_succ, List.getElem_cons_zero, List.setIfInBounds_toArray, List.set_cons_zero, List.set_cons_succ]
      refine wpAnyH_all (rs := [11]) (by kernel_rfl) (by simp) (fun q hq => ?_)
      obtain rfl := List.mem_singleton.1 hq
      clear hq
      refine wpOp_wp rfl (by rfl) (fun K' hK => ?_)
      have HP := Lib.hid (HR6.out.rw.stored [.string (strOf n2), .int .i64 n5, .int .i64 n8, .slice none 0 0, .slice none 0 0, .slice none 0 0] rfl)
      have HT := Lib.hid HP.out.1
      have HPA := Lib.hid HP.out.2
      clear HP
      refine wp_store_mid 38 (.tmp 3) (.tmp 13) rfl BB 0 ([.string (strOf n2), .int .i64 n5, .int .i64 n8, .slice none 0 0, .slice none 0 0, .slice none 0 0] : List Value).toArray rfl rfl HT.out (by kernel_rfl) (by simp [Value.oneCell']) ?_
      generalize World.setCells _ _ _ _ = W20 at HPA ⊢
      refine hK.out _ _ ⟨(And.intro (HPA.out.fns (q := q) (rb := w.heap.size) (by simp)).1 (HPA.out.fns (q := q) (rb := w.heap.size) (by simp)).2.1), ?_⟩
      clear hK K'
      try simp only [Act.put, List.getElem_toArray, List.getElem_cons_succ, List.getElem_cons_zero]
      refine wpAnyH_done (by kernel_rfl) (NoPanic.normal ?_) _
      have HSQ := Lib.hid HR6.out.sq
      have HOR := Lib.hid (HPA.out.own (w.heap.size, rdC q) (by simp)).1
      go_wp2_with (refine wpList_load_mid rfl 62 (.tmp 1) rfl w.heap.size 0 rfl (rdC q) _ HOR.out.cells Tryd.underlying62 rfl HIR.out ?_)
      refine (LC.out _ _ _ HPA.out.le HPA.out.st (HFK.out _ HPA.out.only)).mono ?_
      rintro e W31 ⟨v1, l1, kk1, bb1, ho⟩
      obtain rfl := ho.ret
      have hrep1 : Rw Cp.cells (fun g => _ ≤ g) W31 v1 l1 := ho.rep
      obtain ⟨p1, c1, hv1⟩ := Row.form hrep1
      rw [List.length_map] at hv1
      subst hv1
      have HO1 := Lib.hid ho.out
      have HQ1 := Lib.hid (HPA.out.ok ho)
      have HX1 : Hid (Rw Cp.cells (fun g => BB < g ∧ W0.heap.size < g ∧ w.heap.size ≤ g) W31 (.slice p1 l1.length c1) l1) := Lib.hid (Row.weaken hrep1 (fun g hg _ => ⟨Nat.lt_of_lt_of_le (HPA.out.own (BB, [.string (strOf n2), .int .i64 n5, .int .i64 n8, .slice none 0 0, .slice none 0 0, .slice none 0 0]) (by simp)).1.lt hg, Nat.lt_of_lt_of_le (HPA.out.own (W0.heap.size, [.string ⟨#[]⟩, .int .i64 0, .int .i64 0, .slice none 0 0, .slice none 0 0, .slice none 0 0]) (by simp)).1.lt hg, Nat.le_trans (Nat.le_of_lt (HPA.out.own (w.heap.size, rdC q) (by simp)).1.lt) hg⟩))
      have dd : W31.cell? ⟨BB, 5, none⟩ = some (.slice none 0 0) := HQ1.out.at (x := (BB, [.string (strOf n2), .int .i64 n5, .int .i64 n8, .slice none 0 0, .slice none 0 0, .slice none 0 0])) (by simp) 5 _ rfl
      have gg : W31.frozen? ⟨BB, 5, none⟩ = false := (HQ1.out.own (BB, [.string (strOf n2), .int .i64 n5, .int .i64 n8, .slice none 0 0, .slice none 0 0, .slice none 0 0]) (by simp)).1.free 5 (by simp)
      have HP1 : Hid (RW (pRdr s q N hN) s w (W31.setCell ⟨BB, 5, none⟩ (.slice p1 l1.length c1)) [(BB, [.string (strOf n2), .int .i64 n5, .int .i64 n8, .slice none 0 0, .slice none 0 0, .slice p1 l1.length c1]), (W0.heap.size, [.string ⟨#[]⟩, .int .i64 0, .int .i64 0, .slice none 0 0, .slice none 0 0, .slice none 0 0]), (w.heap.size, rdC q)] kk1 bb1) := Lib.hid (HQ1.out.setOne 5 (.slice p1 l1.length c1) (by simp))
      have hk1 := keeps_one (W := W31) (X := (fun g => BB < g ∧ W0.heap.size < g ∧ w.heap.size ≤ g)) (g := BB) (j := 5) (v := .slice p1 l1.length c1) (fun hx => Nat.lt_irrefl _ hx.1)
      replace HX1 := Lib.hid (HX1.out.keep hk1)
      clear ho HQ1 HOR hrep1 hk1 HPA
      have HOR := Lib.hid (HP1.out.own (w.heap.size, rdC q) (by simp)).1
      go_wp2_with (refine wpList_load_mid rfl 62 (.tmp 1) rfl w.heap.size 0 rfl (rdC q) _ HOR.out.cells Tryd.underlying62 rfl HIR.out ?_)
      refine (LK.out _ _ _ HP1.out.le HP1.out.st (HFK.out _ HP1.out.only)).mono ?_
      rintro e W32 ⟨v2, l2, kk2, bb2, ho⟩
      obtain rfl := ho.ret
      have hrep2 : Rw Vl.cells (fun g => _ ≤ g) W32 v2 l2 := ho.rep
      obtain ⟨p2, c2, hv2⟩ := Row.form hrep2
      rw [List.length_map] at hv2
      subst hv2
      have HO2 := Lib.hid ho.out
      have HQ2 := Lib.hid (HP1.out.ok ho)
      have hkc := keeps_call (X := (fun g => BB < g ∧ W0.heap.size < g ∧ w.heap.size ≤ g)) HP1.out ho.only (fun g hg => hg.2.2)
      replace HX1 := Lib.hid (HX1.out.keep hkc)
      have HX2 : Hid (Rw Vl.cells (fun g => BB < g ∧ W0.heap.size < g ∧ w.heap.size ≤ g) W32 (.slice p2 l2.length c2) l2) := Lib.hid (Row.weaken hrep2 (fun g hg _ => ⟨Nat.lt_of_lt_of_le (HP1.out.own (BB, [.string (strOf n2), .int .i64 n5, .int .i64 n8, .slice none 0 0, .slice none 0 0, .slice p1 l1.length c1]) (by simp)).1.lt hg, Nat.lt_of_lt_of_le (HP1.out.own (W0.heap.size, [.string ⟨#[]⟩, .int .i64 0, .int .i64 0, .slice none 0 0, .slice none 0 0, .slice none 0 0]) (by simp)).1.lt hg, Nat.le_trans (Nat.le_of_lt (HP1.out.own (w.heap.size, rdC q) (by simp)).1.lt) hg⟩))
      have dd : W32.cell? ⟨BB, 4, none⟩ = some (.slice none 0 0) := HQ2.out.at (x := (BB, [.string (strOf n2), .int .i64 n5, .int .i64 n8, .slice none 0 0, .slice none 0 0, .slice p1 l1.length c1])) (by simp) 4 _ rfl
      have gg : W32.frozen? ⟨BB, 4, none⟩ = false := (HQ2.out.own (BB, [.string (strOf n2), .int .i64 n5, .int .i64 n8, .slice none 0 0, .slice none 0 0, .slice p1 l1.length c1]) (by simp)).1.free 4 (by simp)
      have HP2 : Hid (RW (pRdr s q N hN) s w (W32.setCell ⟨BB, 4, none⟩ (.slice p2 l2.length c2)) [(BB, [.string (strOf n2), .int .i64 n5, .int .i64 n8, .slice none 0 0, .slice p2 l2.length c2, .slice p1 l1.length c1]), (W0.heap.size, [.string ⟨#[]⟩, .int .i64 0, .int .i64 0, .slice none 0 0, .slice none 0 0, .slice none 0 0]), (w.heap.size, rdC q)] kk2 bb2) := Lib.hid (HQ2.out.setOne 4 (.slice p2 l2.length c2) (by simp))
      have hk1 := keeps_one (W := W32) (X := (fun g => BB < g ∧ W0.heap.size < g ∧ w.heap.size ≤ g)) (g := BB) (j := 4) (v := .slice p2 l2.length c2) (fun hx => Nat.lt_irrefl _ hx.1)
      replace HX1 := Lib.hid (HX1.out.keep hk1)
      replace HX2 := Lib.hid (HX2.out.keep hk1)
      clear ho HQ2 HOR hrep2 hk1 hkc HP1
      have HOR := Lib.hid (HP2.out.own (w.heap.size, rdC q) (by simp)).1
      go_wp2_with (refine wpList_load_mid rfl 62 (.tmp 1) rfl w.heap.size 0 rfl (rdC q) _ HOR.out.cells Tryd.underlying62 rfl HIR.out ?_)
      refine (LI.out _ _ _ HP2.out.le HP2.out.st (HFK.out _ HP2.out.only)).mono ?_
      rintro e W33 ⟨v3, l3, kk3, bb3, ho⟩
      obtain rfl := ho.ret
      have hrep3 : Rw Ix.cells (fun g => _ ≤ g) W33 v3 l3 := ho.rep
      obtain ⟨p3, c3, hv3⟩ := Row.form hrep3
      rw [List.length_map] at hv3
      subst hv3
      have HO3 := Lib.hid ho.out
      have HQ3 := Lib.hid (HP2.out.ok ho)
      have hkc := keeps_call (X := (fun g => BB < g ∧ W0.heap.size < g ∧ w.heap.size ≤ g)) HP2.out ho.only (fun g hg => hg.2.2)
      replace HX1 := Lib.hid (HX1.out.keep hkc)
      replace HX2 := Lib.hid (HX2.out.keep hkc)
      have HX3 : Hid (Rw Ix.cells (fun g => BB < g ∧ W0.heap.size < g ∧ w.heap.size ≤ g) W33 (.slice p3 l3.length c3) l3) := Lib.hid (Row.weaken hrep3 (fun g hg _ => ⟨Nat.lt_of_lt_of_le (HP2.out.own (BB, [.string (strOf n2), .int .i64 n5, .int .i64 n8, .slice none 0 0, .slice p2 l2.length c2, .slice p1 l1.length c1]) (by simp)).1.lt hg, Nat.lt_of_lt_of_le (HP2.out.own (W0.heap.size, [.string ⟨#[]⟩, .int .i64 0, .int .i64 0, .slice none 0 0, .slice none 0 0, .slice none 0 0]) (by simp)).1.lt hg, Nat.le_trans (Nat.le_of_lt (HP2.out.own (w.heap.size, rdC q) (by simp)).1.lt) hg⟩))
      have dd : W33.cell? ⟨BB, 3, none⟩ = some (.slice none 0 0) := HQ3.out.at (x := (BB, [.string (strOf n2), .int .i64 n5, .int .i64 n8, .slice none 0 0, .slice p2 l2.length c2, .slice p1 l1.length c1])) (by simp) 3 _ rfl
      have gg : W33.frozen? ⟨BB, 3, none⟩ = false := (HQ3.out.own (BB, [.string (strOf n2), .int .i64 n5, .int .i64 n8, .slice none 0 0, .slice p2 l2.length c2, .slice p1 l1.length c1]) (by simp)).1.free 3 (by simp)
      have HP3 : Hid (RW (pRdr s q N hN) s w (W33.setCell ⟨BB, 3, none⟩ (.slice p3 l3.length c3)) [(BB, [.string (strOf n2), .int .i64 n5, .int .i64 n8, .slice p3 l3.length c3, .slice p2 l2.length c2, .slice p1 l1.length c1]), (W0.heap.size, [.string ⟨#[]⟩, .int .i64 0, .int .i64 0, .slice none 0 0, .slice none 0 0, .slice none 0 0]), (w.heap.size, rdC q)] kk3 bb3) := Lib.hid (HQ3.out.setOne 3 (.slice p3 l3.length c3) (by simp))
      have hk1 := keeps_one (W := W33) (X := (fun g => BB < g ∧ W0.heap.size < g ∧ w.heap.size ≤ g)) (g := BB) (j := 3) (v := .slice p3 l3.length c3) (fun hx => Nat.lt_irrefl _ hx.1)
      replace HX1 := Lib.hid (HX1.out.keep hk1)
      replace HX2 := Lib.hid (HX2.out.keep hk1)
      replace HX3 := Lib.hid (HX3.out.keep hk1)
      clear ho HQ3 HOR hrep3 hk1 hkc HP2
      have HCB := Lib.hid (HP3.out.own _ (List.mem_cons_self ..)).1
      have HPZ := Lib.hid (HP3.out.swap.stored [.string (strOf n2), .int .i64 n5, .int .i64 n8, .slice p3 l3.length c3, .slice p2 l2.length c2, .slice p1 l1.length c1] rfl)
      have HTZ := Lib.hid HPZ.out.1
      have HPY := Lib.hid HPZ.out.2
      clear HPZ
      have hkz := keeps_all (W := W33.setCell ⟨BB, 3, none⟩ (.slice p3 l3.length c3)) (X := (fun g => BB < g ∧ W0.heap.size < g ∧ w.heap.size ≤ g)) (g := W0.heap.size) (vs := ([.string (strOf n2), .int .i64 n5, .int .i64 n8, .slice p3 l3.length c3, .slice p2 l2.length c2, .slice p1 l1.length c1] : List Value).toArray.toList) (fun hx => Nat.lt_irrefl _ hx.2.1)
      replace HX1 := Lib.hid (HX1.out.keep hkz)
      replace HX2 := Lib.hid (HX2.out.keep hkz)
      replace HX3 := Lib.hid (HX3.out.keep hkz)
      clear hkz
      go_wp2_with (first
        | (refine wpList_load_mid rfl 38 (.tmp 3) rfl BB 0 rfl [.string (strOf n2), .int .i64 n5, .int .i64 n8, .slice p3 l3.length c3, .slice p2 l2.length c2, .slice p1 l1.length c1] _ HCB.out.cells Tryd.underlying38 rfl (by kernel_rfl) ?_)
        | (refine wpList_store_mid rfl 38 (.tmp 2) (.tmp 23) rfl W0.heap.size 0 ([.string (strOf n2), .int .i64 n5, .int .i64 n8, .slice p3 l3.length c3, .slice p2 l2.length c2, .slice p1 l1.length c1] : List Value).toArray rfl rfl HTZ.out (by kernel_rfl) (by simp [Value.oneCell']) ?_; generalize World.setCells _ _ _ _ = W50 at *))
      have HC := Lib.hid (HPY.out.own _ (List.mem_cons_self ..)).1
      refine bodyPost_ret (results_cell1 rfl _ _ rfl HC.out.cells Tryd.underlying38 rfl (by kernel_rfl)) rfl ?_
      exact ⟨_, ⟨n2, n5, n8, l3, l2, l1⟩, _, _, rfl, ⟨_, rfl, ⟨_, _, _, rfl, Row.weaken HX3.out (fun g hg _ => hg.2.2), Row.weaken HX2.out (fun g hg _ => hg.2.2), Row.weaken HX1.out (fun g hg _ => hg.2.2)⟩⟩, seq_pr HSQ.out HO1.out HO2.out HO3.out, HPY.out.st, HPY.out.only⟩
  · skip
    obtain rfl := List.mem_singleton.1 hq
    clear hq
    refine wpOp_wp rfl (by rfl) (fun K' hK => ?_)
    go_simp
    have HR3 := Lib.hid (HR2.out.alloc [.string ⟨#[]⟩, .int .i64 0, .int .i64 0, .slice none 0 0, .slice none 0 0, .slice none 0 0] 38)
    have hS3 := (And.intro (HR3.out.rw.fns (q := q) (rb := w.heap.size) (by simp)).1 (HR3.out.rw.fns (q := q) (rb := w.heap.size) (by simp)).2.1)
    refine hK.out _ _ ⟨hS3, ?_⟩
    clear hK K'
    try simp only [Act.put, List.getElem_toArray, List.getElem_cons_succ, List.getElem_cons_zero, List.setIfInBounds_toArray, List.set_cons_zero, List.set_cons_succ]
    rw [show (World.heap W1.drew).size = (World.heap W1).size from rfl] at HR3
    generalize (World.heap W1).size = BB at HR3 ⊢
    refine wpAnyH_all (rs := [2]) (by kernel_rfl) (by simp) (fun q hq => ?_)
    obtain rfl := List.mem_singleton.1 hq
    clear hq
    refine wpOp_wp rfl (by rfl) (fun K' hK => ?_)
    go_simp
    refine (TR.out _ _ _ HR3.out.rw.le HR3.out.rw.st).mono ?_
    rintro e W4 ⟨n2, k2, b2, rfl, ho⟩
    have HR4 := Lib.hid (HR3.out.txt ho)
    have hS4 := (And.intro (HR4.out.rw.fns (q := q) (rb := w.heap.size) (by simp)).1 (HR4.out.rw.fns (q := q) (rb := w.heap.size) (by simp)).2.1)
    refine hK.out _ _ ⟨hS4, ?_⟩
    clear hK K' ho
    try simp only [Act.put, List.getElem_toArray, List.getElem_cons_succ, List.getElem_cons_zero, List.setIfInBounds_toArray, List.set_cons_zero, List.set_cons_succ]
    refine wpAnyH_all (rs := [5]) (by kernel_rfl) (by simp) (fun q hq => ?_)
    obtain rfl := List.mem_singleton.1 hq
    clear hq
    refine wpOp_wp rfl (by rfl) (fun K' hK => ?_)
    go_simp
    refine (NR.out 1 rfl _ _ _ HR4.out.rw.le HR4.out.rw.st).mono ?_
    rintro e W5 ⟨n5, k5, b5, rfl, ho⟩
    have HR5 := Lib.hid (HR4.out.num ho)
    have hS5 := (And.intro (HR5.out.rw.fns (q := q) (rb := w.heap.size) (by simp)).1 (HR5.out.rw.fns (q := q) (rb := w.heap.size) (by simp)).2.1)
    refine hK.out _ _ ⟨hS5, ?_⟩
    clear hK K' ho
    try simp only [Act.put, List.getElem_toArray, List.getElem_cons_succ, List.getElem_cons_zero, List.setIfInBounds_toArray, List.set_cons_zero, List.set_cons_succ]
    refine wpAnyH_all (rs := [8]) (by kernel_rfl) (by simp) (fun q hq => ?_)
    obtain rfl := List.mem_singleton.1 hq
    clear hq
    refine wpOp_wp rfl (by rfl) (fun K' hK => ?_)
    go_simp
    refine (NR.out 1 rfl _ _ _ HR5.out.rw.le HR5.out.rw.st).mono ?_
    rintro e W6 ⟨n8, k8, b8, rfl, ho⟩
    have HR6 := Lib.hid (HR5.out.num ho)
    have hS6 := (And.intro (HR6.out.rw.fns (q := q) (rb := w.heap.size) (by simp)).1 (HR6.out.rw.fns (q := q) (rb := w.heap.size) (by simp)).2.1)
    refine hK.out _ _ ⟨hS6, ?_⟩
    clear hK K' ho
    try simp only [Act.put, List.getElem_toArray, List.getElem_cons_succ, List.getElem_cons_zero, List.setIfInBounds_toArray, List.set_cons_zero, List.set_cons_succ]
    refine wpAnyH_take (i := 9) (v := ?_) rfl (by kernel_rfl) (by kernel_rfl) (by kernel_rfl) (fun _ _ _ h => h) (Or.inl ⟨by rfl, ?_⟩) (by assumption) ?_
    rotate_left
    · intro w' hSw
      obtain ⟨hs0, hs1⟩ := hSw
      go_simp
      first | done | with_reducible rfl
    try simp only [Act.put, List.getElem_toArray, List.getElem_cons_succ, List.getElem_cons_zero, List.setIfInBounds_toArray, List.set_cons_zero, List.set_cons_succ]
    refine wpAnyH_all (rs := [11]) (by kernel_rfl) (by simp) (fun q hq => ?_)
    obtain rfl := List.mem_singleton.1 hq
    clear hq
    refine wpOp_wp rfl (by rfl) (fun K' hK => ?_)
    have HP := Lib.hid (HR6.out.rw.stored [.string (strOf n2), .int .i64 n5, .int .i64 n8, .slice none 0 0, .slice none 0 0, .slice none 0 0] rfl)
    have HT := Lib.hid HP.out.1
    have HPA := Lib.hid HP.out.2
    clear HP
    refine wp_store_mid 38 (.tmp 3) (.tmp 13) rfl BB 0 ([.string (strOf n2), .int .i64 n5, .int .i64 n8, .slice none 0 0, .slice none 0 0, .slice none 0 0] : List Value).toArray rfl rfl HT.out (by kernel_rfl) (by simp [Value.oneCell']) ?_
    generalize World.setCells _ _ _ _ = W20 at HPA ⊢
    refine hK.out _ _ ⟨(And.intro (HPA.out.fns (q := q) (rb := w.heap.size) (by simp)).1 (HPA.out.fns (q := q) (rb := w.heap.size) (by simp)).2.1), ?_⟩
    clear hK K'
    try simp only [Act.put, List.getElem_toArray, List.getElem_cons_succ, List.getElem_cons_zero]
    refine wpAnyH_done (by kernel_rfl) (NoPanic.normal ?_) _
    have HSQ := Lib.hid HR6.out.sq
    have HOR := Lib.hid (HPA.out.own (w.heap.size, rdC q) (by simp)).1
    go_wp2_with (refine wpList_load_mid rfl 62 (.tmp 1) rfl w.heap.size 0 rfl (rdC q) _ HOR.out.cells Tryd.underlying62 rfl HIR.out ?_)
    refine (LC.out _ _ _ HPA.out.le HPA.out.st (HFK.out _ HPA.out.only)).mono ?_
    rintro e W31 ⟨v1, l1, kk1, bb1, ho⟩
    obtain rfl := ho.ret
    have hrep1 : Rw Cp.cells (fun g => _ ≤ g) W31 v1 l1 := ho.rep
    obtain ⟨p1, c1, hv1⟩ := Row.form hrep1
    rw [List.length_map] at hv1
    subst hv1
    have HO1 := Lib.hid ho.out
    have HQ1 := Lib.hid (HPA.out.ok ho)
    have HX1 : Hid (Rw Cp.cells (fun g => BB < g ∧ W0.heap.size < g ∧ w.heap.size ≤ g) W31 (.slice p1 l1.length c1) l1) := Lib.hid (Row.weaken hrep1 (fun g hg _ => ⟨Nat.lt_of_lt_of_le (HPA.out.own (BB, [.string (strOf n2), .int .i64 n5, .int .i64 n8, .slice none 0 0, .slice none 0 0, .slice none 0 0]) (by simp)).1.lt hg, Nat.lt_of_lt_of_le (HPA.out.own (W0.heap.size, [.string ⟨#[]⟩, .int .i64 0, .int .i64 0, .slice none 0 0, .slice none 0 0, .slice none 0 0]) (by simp)).1.lt hg, Nat.le_trans (Nat.le_of_lt (HPA.out.own (w.heap.size, rdC q) (by simp)).1.lt) hg⟩))
    have dd : W31.cell? ⟨BB, 5, none⟩ = some (.slice none 0 0) := HQ1.out.at (x := (BB, [.string (strOf n2), .int .i64 n5, .int .i64 n8, .slice none 0 0, .slice none 0 0, .slice none 0 0])) (by simp) 5 _ rfl
    have gg : W31.frozen? ⟨BB, 5, none⟩ = false := (HQ1.out.own (BB, [.string (strOf n2), .int .i64 n5, .int .i64 n8, .slice none 0 0, .slice none 0 0, .slice none 0 0]) (by simp)).1.free 5 (by simp)
    have HP1 : Hid (RW (pRdr s q N hN) s w (W31.setCell ⟨BB, 5, none⟩ (.slice p1 l1.length c1)) [(BB, [.string (strOf n2), .int .i64 n5, .int .i64 n8, .slice none 0 0, .slice none 0 0, .slice p1 l1.length c1]), (W0.heap.size, [.string ⟨#[]⟩, .int .i64 0, .int .i64 0, .slice none 0 0, .slice none 0 0, .slice none 0 0]), (w.heap.size, rdC q)] kk1 bb1) := Lib.hid (HQ1.out.setOne 5 (.slice p1 l1.length c1) (by simp))
    have hk1 := keeps_one (W := W31) (X := (fun g => BB < g ∧ W0.heap.size < g ∧ w.heap.size ≤ g)) (g := BB) (j := 5) (v := .slice p1 l1.length c1) (fun hx => Nat.lt_irrefl _ hx.1)
    replace HX1 := Lib.hid (HX1.out.keep hk1)
    clear ho HQ1 HOR hrep1 hk1 HPA
    have HOR := Lib.hid (HP1.out.own (w.heap.size, rdC q) (by simp)).1
    go_wp2_with (refine wpList_load_mid rfl 62 (.tmp 1) rfl w.heap.size 0 rfl (rdC q) _ HOR.out.cells Tryd.underlying62 rfl HIR.out ?_)
    refine (LK.out _ _ _ HP1.out.le HP1.out.st (HFK.out _ HP1.out.only)).mono ?_
    rintro e W32 ⟨v2, l2, kk2, bb2, ho⟩
    obtain rfl := ho.ret
    have hrep2 : Rw Vl.cells (fun g => _ ≤ g) W32 v2 l2 := ho.rep
    obtain ⟨p2, c2, hv2⟩ := Row.form hrep2
    rw [List.length_map] at hv2
    subst hv2
    have HO2 := Lib.hid ho.out
    have HQ2 := Lib.hid (HP1.out.ok ho)
    have hkc := keeps_call (X := (fun g => BB < g ∧ W0.heap.size < g ∧ w.heap.size ≤ g)) HP1.out ho.only (fun g hg => hg.2.2)
    replace HX1 := Lib.hid (HX1.out.keep hkc)
    have HX2 : Hid (Rw Vl.cells (fun g => BB < g ∧ W0.heap.size < g ∧ w.heap.size ≤ g) W32 (.slice p2 l2.length c2) l2) := Lib.hid (Row.weaken hrep2 (fun g hg _ => ⟨Nat.lt_of_lt_of_le (HP1.out.own (BB, [.string (strOf n2), .int .i64 n5, .int .i64 n8, .slice none 0 0, .slice none 0 0, .slice p1 l1.length c1]) (by simp)).1.lt hg, Nat.lt_of_lt_of_le (HP1.out.own (W0.heap.size, [.string ⟨#[]⟩, .int .i64 0, .int .i64 0, .slice none 0 0, .slice none 0 0, .slice none 0 0]) (by simp)).1.lt hg, Nat.le_trans (Nat.le_of_lt (HP1.out.own (w.heap.size, rdC q) (by simp)).1.lt) hg⟩))
    have dd : W32.cell? ⟨BB, 4, none⟩ = some (.slice none 0 0) := HQ2.out.at (x := (BB, [.string (strOf n2), .int .i64 n5, .int .i64 n8, .slice none 0 0, .slice none 0 0, .slice p1 l1.length c1])) (by simp) 4 _ rfl
    have gg : W32.frozen? ⟨BB, 4, none⟩ = false := (HQ2.out.own (BB, [.string (strOf n2), .int .i64 n5, .int .i64 n8, .slice none 0 0, .slice none 0 0, .slice p1 l1.length c1]) (by simp)).1.free 4 (by simp)
    have HP2 : Hid (RW (pRdr s q N hN) s w (W32.setCell ⟨BB, 4, none⟩ (.slice p2 l2.length c2)) [(BB, [.string (strOf n2), .int .i64 n5, .int .i64 n8, .slice none 0 0, .slice p2 l2.length c2, .slice p1 l1.length c1]), (W0.heap.size, [.string ⟨#[]⟩, .int .i64 0, .int .i64 0, .slice none 0 0, .slice none 0 0, .slice none 0 0]), (w.heap.size, rdC q)] kk2 bb2) := Lib.hid (HQ2.out.setOne 4 (.slice p2 l2.length c2) (by simp))
    have hk1 := keeps_one (W := W32) (X := (fun g => BB < g ∧ W0.heap.size < g ∧ w.heap.size ≤ g)) (g := BB) (j := 4) (v := .slice p2 l2.length c2) (fun hx => Nat.lt_irrefl _ hx.1)
    replace HX1 := Lib.hid (HX1.out.keep hk1)
    replace HX2 := Lib.hid (HX2.out.keep hk1)
    clear ho HQ2 HOR hrep2 hk1 hkc HP1
    have HOR := Lib.hid (HP2.out.own (w.heap.size, rdC q) (by simp)).1
    go_wp2_with (refine wpList_load_mid rfl 62 (.tmp 1) rfl w.heap.size 0 rfl (rdC q) _ HOR.out.cells Tryd.underlying62 rfl HIR.out ?_)
    refine (LI.out _ _ _ HP2.out.le HP2.out.st (HFK.out _ HP2.out.only)).mono ?_
    rintro e W33 ⟨v3, l3, kk3, bb3, ho⟩
    obtain rfl := ho.ret
    have hrep3 : Rw Ix.cells (fun g => _ ≤ g) W33 v3 l3 := ho.rep
    obtain ⟨p3, c3, hv3⟩ := Row.form hrep3
    rw [List.length_map] at hv3
    subst hv3
    have HO3 := Lib.hid ho.out
    have HQ3 := Lib.hid (HP2.out.ok ho)
    have hkc := keeps_call (X := (fun g => BB < g ∧ W0.heap.size < g ∧ w.heap.size ≤ g)) HP2.out ho.only (fun g hg => hg.2.2)
    replace HX1 := Lib.hid (HX1.out.keep hkc)
    replace HX2 := Lib.hid (HX2.out.keep hkc)
    have HX3 : Hid (Rw Ix.cells (fun g => BB < g ∧ W0.heap.size < g ∧ w.heap.size ≤ g) W33 (.slice p3 l3.length c3) l3) := Lib.hid (Row.weaken hrep3 (fun g hg _ => ⟨Nat.lt_of_lt_of_le (HP2.out.own (BB, [.string (strOf n2), .int .i64 n5, .int .i64 n8, .slice none 0 0, .slice p2 l2.length c2, .slice p1 l1.length c1]) (by simp)).1.lt hg, Nat.lt_of_lt_of_le (HP2.out.own (W0.heap.size, [.string ⟨#[]⟩, .int .i64 0, .int .i64 0, .slice none 0 0, .slice none 0 0, .slice none 0 0]) (by simp)).1.lt hg, Nat.le_trans (Nat.le_of_lt (HP2.out.own (w.heap.size, rdC q) (by simp)).1.lt) hg⟩))
    have dd : W33.cell? ⟨BB, 3, none⟩ = some (.slice none 0 0) := HQ3.out.at (x := (BB, [.string (strOf n2), .int .i64 n5, .int .i64 n8, .slice none 0 0, .slice p2 l2.length c2, .slice p1 l1.length c1])) (by simp) 3 _ rfl
    have gg : W33.frozen? ⟨BB, 3, none⟩ = false := (HQ3.out.own (BB, [.string (strOf n2), .int .i64 n5, .int .i64 n8, .slice none 0 0, .slice p2 l2.length c2, .slice p1 l1.length c1]) (by simp)).1.free 3 (by simp)
    have HP3 : Hid (RW (pRdr s q N hN) s w (W33.setCell ⟨BB, 3, none⟩ (.slice p3 l3.length c3)) [(BB, [.string (strOf n2), .int .i64 n5, .int .i64 n8, .slice p3 l3.length c3, .slice p2 l2.length c2, .slice p1 l1.length c1]), (W0.heap.size, [.string ⟨#[]⟩, .int .i64 0, .int .i64 0, .slice none 0 0, .slice none 0 0, .slice none 0 0]), (w.heap.size, rdC q)] kk3 bb3) := Lib.hid (HQ3.out.setOne 3 (.slice p3 l3.length c3) (by simp))
    have hk1 := keeps_one (W := W33) (X := (fun g => BB < g ∧ W0.heap.size < g ∧ w.heap.size ≤ g)) (g := BB) (j := 3) (v := .slice p3 l3.length c3) (fun hx => Nat.lt_irrefl _ hx.1)
    replace HX1 := Lib.hid (HX1.out.keep hk1)
    replace HX2 := Lib.hid (HX2.out.keep hk1)
    replace HX3 := Lib.hid (HX3.out.keep hk1)
    clear ho HQ3 HOR hrep3 hk1 hkc HP2
    have HCB := Lib.hid (HP3.out.own _ (List.mem_cons_self ..)).1
    have HPZ := Lib.hid (HP3.out.swap.stored [.string (strOf n2), .int .i64 n5, .int .i64 n8, .slice p3 l3.length c3, .slice p2 l2.length c2, .slice p1 l1.length c1] rfl)
    have HTZ := Lib.hid HPZ.out.1
    have HPY := Lib.hid HPZ.out.2
    clear HPZ
    have hkz := keeps_all (W := W33.setCell ⟨BB, 3, none⟩ (.slice p3 l3.length c3)) (X := (fun g => BB < g ∧ W0.heap.size < g ∧ w.heap.size ≤ g)) (g := W0.heap.size) (vs := ([.string (strOf n2), .int .i64 n5, .int .i64 n8, .slice p3 l3.length c3, .slice p2 l2.length c2, .slice p1 l1.length c1] : List Value).toArray.toList) (fun hx => Nat.lt_irrefl _ hx.2.1)
    replace HX1 := Lib.hid (HX1.out.keep hkz)
    replace HX2 := Lib.hid (HX2.out.keep hkz)
    replace HX3 := Lib.hid (HX3.out.keep hkz)
    clear hkz
    go_wp2_with (first
      | (refine wpList_load_mid rfl 38 (.tmp 3) rfl BB 0 rfl [.string (strOf n2), .int .i64 n5, .int .i64 n8, .slice p3 l3.length c3, .slice p2 l2.length c2, .slice p1 l1.length c1] _ HCB.out.cells Tryd.underlying38 rfl (by kernel_rfl) ?_)
      | (refine wpList_store_mid rfl 38 (.tmp 2) (.tmp 23) rfl W0.heap.size 0 ([.string (strOf n2), .int .i64 n5, .int .i64 n8, .slice p3 l3.length c3, .slice p2 l2.length c2, .slice p1 l1.length c1] : List Value).toArray rfl rfl HTZ.out (by kernel_rfl) (by simp [Value.oneCell']) ?_; generalize World.setCells _ _ _ _ = W50 at *))
    have HC := Lib.hid (HPY.out.own _ (List.mem_cons_self ..)).1
    refine bodyPost_ret (results_cell1 rfl _ _ rfl HC.out.cells Tryd.underlying38 rfl (by kernel_rfl)) rfl ?_
    exact ⟨_, ⟨n2, n5, n8, l3, l2, l1⟩, _, _, rfl, ⟨_, rfl, ⟨_, _, _, rfl, Row.weaken HX3.out (fun g hg _ => hg.2.2), Row.weaken HX2.out (fun g hg _ => hg.2.2), Row.weaken HX1.out (fun g hg _ => hg.2.2)⟩⟩, seq_pr HSQ.out HO1.out HO2.out HO3.out, HPY.out.st, HPY.out.only⟩
end
end Go.Proofs.YtmloljfnnkfkjaaDoor.Im

