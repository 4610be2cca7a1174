/- The walk of readUnit: its contract. No condition but those that each states. -/
import Derived.Test.YtmloljfnnkfkjaaDoorMgAX
namespace Go.Proofs.YtmloljfnnkfkjaaDoor.Im
open Go.RowKit Dk In

/-- A row of protos that may be written; a unit with one. -/
def prsT : Rep (List Pr) := fun X W v l => ∃ css, RowT 6 X W v css ∧ Each X W css l
def UCT (X : Nat → Prop) (W : World) (cs : List Value) (u : Un) : Prop := ∃ vu vp, cs = [.string (strOf u.nm), .int .i64 u.ver, vu, .int .i64 u.funs, vp] ∧ Rw Us.cells X W vu u.uses ∧ ∃ css, RowT 6 X W vp css ∧ Each X W css u.prs
def unT : Rep Un := fun X W v u => ∃ cs, v = .agg cs.toArray ∧ UCT X W cs u
theorem UCT.uc {X : Nat → Prop} {W : World} {cs : List Value} {u : Un} (h : UCT X W cs u) : UC X W cs u := by
  obtain ⟨a, b, e, h1, css, h2, h3⟩ := h
  exact ⟨a, b, e, h1, css, h2.1, h3⟩
theorem UCT.keep {X : Nat → Prop} {W W' : World} {cs : List Value} {u : Un} (h : UCT X W cs u) (hb : Keeps X W W') : UCT X W' cs u := by
  obtain ⟨a, b, e, h1, css, h2, h3⟩ := h
  exact ⟨a, b, e, Row.keep h1 hb, css, h2.keep hb, h3.keep hb⟩
theorem UCT.later {X : Nat → Prop} {W W' : World} {cs : List Value} {u : Un} (h : UCT X W cs u) (hb : Below W.heap.size W W') : UCT X W' cs u := h.keep (.of hb)
theorem UCT.weaken {X Y : Nat → Prop} {W : World} {cs : List Value} {u : Un} (h : UCT X W cs u) (hx : ∀ g, X g → g < W.heap.size → Y g) : UCT Y W cs u := by
  obtain ⟨a, b, e, h1, css, h2, h3⟩ := h
  exact ⟨a, b, e, Row.weaken h1 hx, css, h2.weaken hx, h3.weaken hx⟩
theorem uct_zero (X : Nat → Prop) (W : World) : UCT X W [.string ByteArray.empty, .int .i64 0, .slice none 0 0, .int .i64 0, .slice none 0 0] Un.zero := ⟨_, _, rfl, Rw.nil _ X W, [], RowT.nil 6 X W, Each.nil X W⟩
section
variable {s : List UInt8} {q : Rq} {N : Nat} (hN : q.ba < N ∧ q.bh < N) (hnf : ¬rF q 0)
include hnf in
theorem listpr : ∀ (w : World) (k : Nat) (b : Bool), k ≤ s.length → RD s q N w k b → HasF w → Calls Tryd.prog 79 #[.agg (rdC q).toArray, .func (.func 80) #[] #[]] w (RdAny (pRdr s q N hN) s (rdL (rdPr fixI)) prsT w k b) := fun w k b hk h HF =>
  rdlist_pr hN enters_readProto (R := prR) (RO := prsT) (readProto_any hN hnf) (fun X W css l => Each X W css l) (fun X W => Each.nil X W) (fun _ _ _ _ _ h hk => h.keep hk) (fun _ _ _ _ _ h hx => h.weaken hx)
    (fun X Y W css l v x he hr hx => by obtain ⟨cs, e, hpc⟩ := hr; exact ⟨cs, e, hpc.len, pc_ones hpc, he.push (hpc.weaken hx)⟩) (fun X W v css l hr he => ⟨css, hr, he⟩) w k b hk h HF hnf
theorem seq_un {k0 k k2 k3 k4 : Nat} {b0 b b2 b3 b4 : Bool} {a : List UInt8} {z u v : Int} {d : List Us} {f : List Pr} (h : Seqs s k0 b0 [.n 4 u, .t a, .n 4 z] k b) (h2 : Out (rdL rdUse) s k b d k2 b2) (h3 : Out (rdN 1) s k2 b2 v k3 b3) (h4 : Out (rdL (rdPr fixI)) s k3 b3 f k4 b4) : Out (rdUn fixI) s k0 b0 ⟨a, u, d, v, f⟩ k4 b4 := by
  cases h with
  | num h5 h6 =>
    cases h5 with
    | txt h7 h8 =>
      cases h7 with
      | num h9 h10 =>
        cases h9
        exact h10.bind (h8.bind (h6.bind (h2.bind (h3.bind h4.bindRet))))
set_option maxHeartbeats 8000000 in
set_option maxRecDepth 100000 in
include hnf in
theorem readUnit_any : RdF s q N hN 39 (rdUn fixI) unT := by
  intro w k b hk h HF
  obtain ⟨W0, hW0⟩ : ∃ W0, W0 = w.alloc (.cells (rdC q).toArray 62) := ⟨_, rfl⟩
  obtain ⟨W1, hW1⟩ : ∃ W1, W1 = W0.alloc (.cells #[.string ⟨#[]⟩, .int .i64 0, .slice none 0 0, .int .i64 0, .slice none 0 0] 25) := ⟨_, rfl⟩
  have HR0 : RS (pRdr s q N hN) s k b w w [] [] k b := ⟨RW.new (Q := pRdr s q N hN) h hk, .nil hk⟩
  have HR1 : Hid (RS (pRdr s q N hN) s k b w W1 [(W0.heap.size, [.string ⟨#[]⟩, .int .i64 0, .slice none 0 0, .int .i64 0, .slice none 0 0]), (w.heap.size, rdC q)] [] k b) := Lib.hid (by rw [hW1, hW0]; exact (HR0.alloc (rdC q) _).alloc [.string ⟨#[]⟩, .int .i64 0, .slice none 0 0, .int .i64 0, .slice none 0 0] _)
  have HS0 : Hid (W0.heap.size = w.heap.size + 1) := Lib.hid (by rw [hW0]; simp)
  have hW2 : w.alloc (.cells #[f2 q, f3 q, f4 q, f5 q] 62) = W0 := hW0.symm
  have hW3 := hW1.symm
  have HFK : Hid (∀ W, Only (pRdr s q N hN).F w W → HasF W) := Lib.hid (fun W hO => HasF.only HF hO hnf)
  have NR := Lib.hid (fun (K : Nat) (hK : wideB (K : Int) = true) => numR (s := s) (q := q) hN hK)
  have TR := Lib.hid (textR (s := s) (q := q) hN)
  have HIR := Lib.hid (r_info.trans (congrArg some (show 4 = (rdC q).length from rfl)))
  have e2 := enters_r2
  have e3 := enters_r3
  unfold Enters at e2 e3
  have LU := Lib.hid (listus (s := s) hN hnf)
  have LP := Lib.hid (listpr (s := s) hN hnf)
  obtain ⟨c0, -, -, -⟩ := HR1.out.rw.fns (q := q) (rb := w.heap.size) (by simp)
  show Calls _ _ #[.agg #[f2 q, f3 q, f4 q, f5 q]] w _
  clear hW0 hW1 HR0 h HF
  go_enter Tryd.func39, Tryd.ntmps39
  go_wp2_with fail
  refine (NR.out 4 rfl _ _ _ HR1.out.rw.le HR1.out.rw.st).mono ?_
  rintro e W10 ⟨zz, k10, b10, rfl, ho⟩
  have HR0 := Lib.hid (HR1.out.num ho)
  have HR2 := Lib.hid HR0.out.drew
  have hS2 : W10.drew.cell? ⟨w.heap.size, 0, none⟩ = some (f2 q) ∧ W10.drew.cell? ⟨w.heap.size, 1, none⟩ = some (f3 q) := (And.intro (HR2.out.rw.fns (q := q) (rb := w.heap.size) (by simp)).1 (HR2.out.rw.fns (q := q) (rb := w.heap.size) (by simp)).2.1)
  clear ho HR1 c0
  go_wp2_with fail
  refine wp_region_noPanic (wp_region_held_drew (S := fun W => W.cell? ⟨w.heap.size, 0, none⟩ = some (f2 q) ∧ W.cell? ⟨w.heap.size, 1, none⟩ = some (f3 q)) (by kernel_rfl) hS2 (fun hHeld => ?_))
  refine wpAnyH_take (i := 0) (v := ?_) rfl (by kernel_rfl) (by kernel_rfl) (by kernel_rfl) (fun _ _ _ h => h) (Or.inl ⟨by rfl, ?_⟩) (by assumption) ?_
  rotate_left
  · intro w' hSw
    obtain ⟨hs0, hs1⟩ := hSw
    go_simp
    first | done | with_reducible rfl
  try simp only [Act.put, List.getElem_toArray, List.getElem_cons_zero, List.setIfInBounds_toArray, List.set_cons_zero, List.set_cons_succ]
  refine wpAnyH_take (i := 1) (v := ?_) rfl (by kernel_rfl) (by kernel_rfl) (by kernel_rfl) (fun _ _ _ h => h) (Or.inl ⟨by rfl, ?_⟩) (by assumption) ?_
  rotate_left
  · intro w' hSw
    obtain ⟨hs0, hs1⟩ := hSw
    go_simp
    first | done | with_reducible rfl
  try simp only [Act.put, List.getElem_toArray, List.getElem_cons_succ, List.getElem_cons_zero, List.setIfInBounds_toArray, List.set_cons_zero, List.set_cons_succ]
  refine wpAnyH_take (i := 3) (v := ?_) rfl (by kernel_rfl) (by kernel_rfl) (by kernel_rfl) (fun _ _ _ h => h) (Or.inl ⟨by rfl, ?_⟩) (by assumption) ?_
  rotate_left
  · intro w' hSw
    obtain ⟨hs0, hs1⟩ := hSw
    go_simp
    first | done | with_reducible rfl
  try simp only [Act.put, List.getElem_toArray, List.getElem_cons_succ, List.getElem_cons_zero, List.setIfInBounds_toArray, List.set_cons_zero, List.set_cons_succ]
  refine wpAnyH_take (i := 4) (v := ?_) rfl (by kernel_rfl) (by kernel_rfl) (by kernel_rfl) (fun _ _ _ h => h) (Or.inl ⟨by rfl, ?_⟩) (by assumption) ?_
  rotate_left
  · intro w' hSw
    obtain ⟨hs0, hs1⟩ := hSw
    go_simp
    first | done | with_reducible rfl
  try simp only [Act.put, List.getElem_toArray, List.getElem_cons_succ, List.getElem_cons_zero, List.setIfInBounds_toArray, List.set_cons_zero, List.set_cons_succ]
  refine wpAnyH_all (rs := [2, 7]) (by kernel_rfl) (by simp) (fun q hq => ?_)
  rcases List.mem_cons.1 hq with rfl | hq
  · skip
    refine wpOp_wp rfl (by rfl) (fun K' hK => ?_)
    go_simp
    refine (TR.out _ _ _ HR2.out.rw.le HR2.out.rw.st).mono ?_
    rintro e W3 ⟨n2, k2, b2, rfl, ho⟩
    have HR3 := Lib.hid (HR2.out.txt ho)
    have hS3 := (And.intro (HR3.out.rw.fns (q := q) (rb := w.heap.size) (by simp)).1 (HR3.out.rw.fns (q := q) (rb := w.heap.size) (by simp)).2.1)
    refine hK.out _ _ ⟨hS3, ?_⟩
    clear hK K' ho
    try simp only [Act.put, List.getElem_toArray, List.getElem_cons_succ, List.getElem_cons_zero, List.setIfInBounds_toArray, List.set_cons_zero, List.set_cons_succ]
    refine wpAnyH_all (rs := [5, 7]) (by kernel_rfl) (by simp) (fun q hq => ?_)
    rcases List.mem_cons.1 hq with rfl | hq
    · skip
      refine wpOp_wp rfl (by rfl) (fun K' hK => ?_)
      go_simp
      refine (NR.out 4 rfl _ _ _ HR3.out.rw.le HR3.out.rw.st).mono ?_
      rintro e W4 ⟨n5, k5, b5, rfl, ho⟩
      have HR4 := Lib.hid (HR3.out.num ho)
      have hS4 := (And.intro (HR4.out.rw.fns (q := q) (rb := w.heap.size) (by simp)).1 (HR4.out.rw.fns (q := q) (rb := w.heap.size) (by simp)).2.1)
      refine hK.out _ _ ⟨hS4, ?_⟩
      clear hK K' ho
      try simp only [Act.put, List.getElem_toArray, List.getElem_cons_succ, List.getElem_cons_zero, List.setIfInBounds_toArray, List.set_cons_zero, List.set_cons_succ]
      refine wpAnyH_take (i := 6) (v := ?_) rfl (by kernel_rfl) (by kernel_rfl) (by kernel_rfl) (fun _ _ _ h => h) (Or.inl ⟨by rfl, ?_⟩) (by assumption) ?_
      rotate_left
      · intro w' hSw
        obtain ⟨hs0, hs1⟩ := hSw
        go_simp
        first | done | with_reducible rfl
      try simp only [Act.put, List.getElem_toArray, List.getElem_cons_succ, List.getElem_cons_zero, List.setIfInBounds_toArray, List.set_cons_zero, List.set_cons_succ]
      refine wpAnyH_all (rs := [7]) (by kernel_rfl) (by simp) (fun q hq => ?_)
      obtain rfl := List.mem_singleton.1 hq
      clear hq
      refine wpOp_wp rfl (by rfl) (fun K' hK => ?_)
      go_simp
      have HR5 := Lib.hid (HR4.out.alloc [.string ⟨#[]⟩, .int .i64 0, .slice none 0 0, .int .i64 0, .slice none 0 0] 25)
      have hS5 := (And.intro (HR5.out.rw.fns (q := q) (rb := w.heap.size) (by simp)).1 (HR5.out.rw.fns (q := q) (rb := w.heap.size) (by simp)).2.1)
      refine hK.out _ _ ⟨hS5, ?_⟩
      clear hK K'
      try simp only [Act.put, List.getElem_toArray, List.getElem_cons_succ, List.getElem_cons_zero, List.setIfInBounds_toArray, List.set_cons_zero, List.set_cons_succ]
      generalize (World.heap W4).size = BB at HR5 ⊢
      refine wpAnyH_all (rs := [8]) (by kernel_rfl) (by simp) (fun q hq => ?_)
      obtain rfl := List.mem_singleton.1 hq
      clear hq
      refine wpOp_wp rfl (by rfl) (fun K' hK => ?_)
      have HP := Lib.hid (HR5.out.rw.stored [.string (strOf n2), .int .i64 n5, .slice none 0 0, .int .i64 0, .slice none 0 0] rfl)
      have HT := Lib.hid HP.out.1
      have HPA := Lib.hid HP.out.2
      clear HP
      refine wp_store_mid 25 (.tmp 3) (.tmp 13) rfl BB 0 ([.string (strOf n2), .int .i64 n5, .slice none 0 0, .int .i64 0, .slice none 0 0] : List Value).toArray rfl rfl HT.out (by kernel_rfl) (by simp [Value.oneCell']) ?_
      generalize World.setCells _ _ _ _ = W20 at HPA ⊢
      refine hK.out _ _ ⟨(And.intro (HPA.out.fns (q := q) (rb := w.heap.size) (by simp)).1 (HPA.out.fns (q := q) (rb := w.heap.size) (by simp)).2.1), ?_⟩
      clear hK K'
      try simp only [Act.put, List.getElem_toArray, List.getElem_cons_succ, List.getElem_cons_zero]
      refine wpAnyH_done (by kernel_rfl) (NoPanic.normal ?_) _
      have HSQ := Lib.hid HR5.out.sq
      have HOR := Lib.hid (HPA.out.own (w.heap.size, rdC q) (by simp)).1
      go_wp2_with (refine wpList_load_mid rfl 62 (.tmp 1) rfl w.heap.size 0 rfl (rdC q) _ HOR.out.cells Tryd.underlying62 rfl HIR.out ?_)
      refine (LU.out _ _ _ HPA.out.le HPA.out.st (HFK.out _ HPA.out.only)).mono ?_
      rintro e W31 ⟨v1, l1, kk1, bb1, ho⟩
      obtain rfl := ho.ret
      have hrep1 : Rw Us.cells (fun g => _ ≤ g) W31 v1 l1 := ho.rep
      obtain ⟨p1, c1, hv1⟩ := Row.form hrep1
      rw [List.length_map] at hv1
      subst hv1
      have HO1 := Lib.hid ho.out
      have HQ1 := Lib.hid (HPA.out.ok ho)
      have HX1 : Hid (Rw Us.cells (fun g => BB < g ∧ W0.heap.size < g ∧ w.heap.size ≤ g) W31 (.slice p1 l1.length c1) l1) := Lib.hid (Row.weaken hrep1 (fun g hg _ => ⟨Nat.lt_of_lt_of_le (HPA.out.own (BB, [.string (strOf n2), .int .i64 n5, .slice none 0 0, .int .i64 0, .slice none 0 0]) (by simp)).1.lt hg, Nat.lt_of_lt_of_le (HPA.out.own (W0.heap.size, [.string ⟨#[]⟩, .int .i64 0, .slice none 0 0, .int .i64 0, .slice none 0 0]) (by simp)).1.lt hg, Nat.le_trans (Nat.le_of_lt (HPA.out.own (w.heap.size, rdC q) (by simp)).1.lt) hg⟩))
      have dd : W31.cell? ⟨BB, 2, none⟩ = some (.slice none 0 0) := HQ1.out.at (x := (BB, [.string (strOf n2), .int .i64 n5, .slice none 0 0, .int .i64 0, .slice none 0 0])) (by simp) 2 _ rfl
      have gg : W31.frozen? ⟨BB, 2, none⟩ = false := (HQ1.out.own (BB, [.string (strOf n2), .int .i64 n5, .slice none 0 0, .int .i64 0, .slice none 0 0]) (by simp)).1.free 2 (by simp)
      have HP1 : Hid (RW (pRdr s q N hN) s w (W31.setCell ⟨BB, 2, none⟩ (.slice p1 l1.length c1)) [(BB, [.string (strOf n2), .int .i64 n5, .slice p1 l1.length c1, .int .i64 0, .slice none 0 0]), (W0.heap.size, [.string ⟨#[]⟩, .int .i64 0, .slice none 0 0, .int .i64 0, .slice none 0 0]), (w.heap.size, rdC q)] kk1 bb1) := Lib.hid (HQ1.out.setOne 2 (.slice p1 l1.length c1) (by simp))
      have hk1 := keeps_one (W := W31) (X := (fun g => BB < g ∧ W0.heap.size < g ∧ w.heap.size ≤ g)) (g := BB) (j := 2) (v := .slice p1 l1.length c1) (fun hx => Nat.lt_irrefl _ hx.1)
      replace HX1 := Lib.hid (HX1.out.keep hk1)
      clear ho HQ1 HOR hrep1 hk1 HPA
      obtain ⟨c0, -, -, -⟩ := HP1.out.fns (q := q) (rb := w.heap.size) (by simp)
      go_wp2_with fail
      refine (NR.out 1 rfl _ _ _ HP1.out.le HP1.out.st).mono ?_
      rintro e W32 ⟨nn2, kk2, bb2, rfl, ho⟩
      have HO2 := Lib.hid ho.out
      have HQ2 := Lib.hid (HP1.out.ok ho)
      have hkc := keeps_call (X := (fun g => BB < g ∧ W0.heap.size < g ∧ w.heap.size ≤ g)) HP1.out ho.only (fun g hg => hg.2.2)
      replace HX1 := Lib.hid (HX1.out.keep hkc)
      have dd : W32.cell? ⟨BB, 3, none⟩ = some (.int .i64 0) := HQ2.out.at (x := (BB, [.string (strOf n2), .int .i64 n5, .slice p1 l1.length c1, .int .i64 0, .slice none 0 0])) (by simp) 3 _ rfl
      have gg : W32.frozen? ⟨BB, 3, none⟩ = false := (HQ2.out.own (BB, [.string (strOf n2), .int .i64 n5, .slice p1 l1.length c1, .int .i64 0, .slice none 0 0]) (by simp)).1.free 3 (by simp)
      have HP2 : Hid (RW (pRdr s q N hN) s w (W32.setCell ⟨BB, 3, none⟩ (.int .i64 nn2)) [(BB, [.string (strOf n2), .int .i64 n5, .slice p1 l1.length c1, .int .i64 nn2, .slice none 0 0]), (W0.heap.size, [.string ⟨#[]⟩, .int .i64 0, .slice none 0 0, .int .i64 0, .slice none 0 0]), (w.heap.size, rdC q)] kk2 bb2) := Lib.hid (HQ2.out.setOne 3 (.int .i64 nn2) (by simp))
      have hk1 := keeps_one (W := W32) (X := (fun g => BB < g ∧ W0.heap.size < g ∧ w.heap.size ≤ g)) (g := BB) (j := 3) (v := .int .i64 nn2) (fun hx => Nat.lt_irrefl _ hx.1)
      replace HX1 := Lib.hid (HX1.out.keep hk1)
      clear ho HQ2 c0 hk1 hkc HP1
      have HOR := Lib.hid (HP2.out.own (w.heap.size, rdC q) (by simp)).1
      go_wp2_with (refine wpList_load_mid rfl 62 (.tmp 1) rfl w.heap.size 0 rfl (rdC q) _ HOR.out.cells Tryd.underlying62 rfl HIR.out ?_)
      refine (LP.out _ _ _ HP2.out.le HP2.out.st (HFK.out _ HP2.out.only)).mono ?_
      rintro e W33 ⟨v3, l3, kk3, bb3, ho⟩
      obtain rfl := ho.ret
      have hrep3 : prsT (fun g => _ ≤ g) W33 v3 l3 := ho.rep
      obtain ⟨css3, hrow3, heach3⟩ := hrep3
      obtain ⟨p3, c3, hv3⟩ := Row.form hrow3.1
      subst hv3
      have HO3 := Lib.hid ho.out
      have HQ3 := Lib.hid (HP2.out.ok ho)
      have hkc := keeps_call (X := (fun g => BB < g ∧ W0.heap.size < g ∧ w.heap.size ≤ g)) HP2.out ho.only (fun g hg => hg.2.2)
      replace HX1 := Lib.hid (HX1.out.keep hkc)
      have HX3 : Hid (RowT 6 (fun g => BB < g ∧ W0.heap.size < g ∧ w.heap.size ≤ g) W33 (.slice p3 css3.length c3) css3) := Lib.hid (hrow3.weaken (fun g hg _ => ⟨Nat.lt_of_lt_of_le (HP2.out.own (BB, [.string (strOf n2), .int .i64 n5, .slice p1 l1.length c1, .int .i64 nn2, .slice none 0 0]) (by simp)).1.lt hg, Nat.lt_of_lt_of_le (HP2.out.own (W0.heap.size, [.string ⟨#[]⟩, .int .i64 0, .slice none 0 0, .int .i64 0, .slice none 0 0]) (by simp)).1.lt hg, Nat.le_trans (Nat.le_of_lt (HP2.out.own (w.heap.size, rdC q) (by simp)).1.lt) hg⟩))
      have HE3 : Hid (Each (fun g => BB < g ∧ W0.heap.size < g ∧ w.heap.size ≤ g) W33 css3 l3) := Lib.hid (heach3.weaken (fun g hg _ => ⟨Nat.lt_of_lt_of_le (HP2.out.own (BB, [.string (strOf n2), .int .i64 n5, .slice p1 l1.length c1, .int .i64 nn2, .slice none 0 0]) (by simp)).1.lt hg, Nat.lt_of_lt_of_le (HP2.out.own (W0.heap.size, [.string ⟨#[]⟩, .int .i64 0, .slice none 0 0, .int .i64 0, .slice none 0 0]) (by simp)).1.lt hg, Nat.le_trans (Nat.le_of_lt (HP2.out.own (w.heap.size, rdC q) (by simp)).1.lt) hg⟩))
      have dd : W33.cell? ⟨BB, 4, none⟩ = some (.slice none 0 0) := HQ3.out.at (x := (BB, [.string (strOf n2), .int .i64 n5, .slice p1 l1.length c1, .int .i64 nn2, .slice none 0 0])) (by simp) 4 _ rfl
      have gg : W33.frozen? ⟨BB, 4, none⟩ = false := (HQ3.out.own (BB, [.string (strOf n2), .int .i64 n5, .slice p1 l1.length c1, .int .i64 nn2, .slice none 0 0]) (by simp)).1.free 4 (by simp)
      have HP3 : Hid (RW (pRdr s q N hN) s w (W33.setCell ⟨BB, 4, none⟩ (.slice p3 css3.length c3)) [(BB, [.string (strOf n2), .int .i64 n5, .slice p1 l1.length c1, .int .i64 nn2, .slice p3 css3.length c3]), (W0.heap.size, [.string ⟨#[]⟩, .int .i64 0, .slice none 0 0, .int .i64 0, .slice none 0 0]), (w.heap.size, rdC q)] kk3 bb3) := Lib.hid (HQ3.out.setOne 4 (.slice p3 css3.length c3) (by simp))
      have hk1 := keeps_one (W := W33) (X := (fun g => BB < g ∧ W0.heap.size < g ∧ w.heap.size ≤ g)) (g := BB) (j := 4) (v := .slice p3 css3.length c3) (fun hx => Nat.lt_irrefl _ hx.1)
      replace HX1 := Lib.hid (HX1.out.keep hk1)
      replace HX3 := Lib.hid (HX3.out.keep hk1)
      replace HE3 := Lib.hid (HE3.out.keep hk1)
      clear ho HQ3 HOR hrow3 heach3 hk1 hkc HP2
      have HCB := Lib.hid (HP3.out.own _ (List.mem_cons_self ..)).1
      have HPZ := Lib.hid (HP3.out.swap.stored [.string (strOf n2), .int .i64 n5, .slice p1 l1.length c1, .int .i64 nn2, .slice p3 css3.length c3] rfl)
      have HTZ := Lib.hid HPZ.out.1
      have HPY := Lib.hid HPZ.out.2
      clear HPZ
      have hkz := keeps_all (W := W33.setCell ⟨BB, 4, none⟩ (.slice p3 css3.length c3)) (X := (fun g => BB < g ∧ W0.heap.size < g ∧ w.heap.size ≤ g)) (g := W0.heap.size) (vs := ([.string (strOf n2), .int .i64 n5, .slice p1 l1.length c1, .int .i64 nn2, .slice p3 css3.length c3] : List Value).toArray.toList) (fun hx => Nat.lt_irrefl _ hx.2.1)
      replace HX1 := Lib.hid (HX1.out.keep hkz)
      replace HX3 := Lib.hid (HX3.out.keep hkz)
      replace HE3 := Lib.hid (HE3.out.keep hkz)
      clear hkz
      go_wp2_with (first
        | (refine wpList_load_mid rfl 25 (.tmp 3) rfl BB 0 rfl [.string (strOf n2), .int .i64 n5, .slice p1 l1.length c1, .int .i64 nn2, .slice p3 css3.length c3] _ HCB.out.cells Tryd.underlying25 rfl (by kernel_rfl) ?_)
        | (refine wpList_store_mid rfl 25 (.tmp 2) (.tmp 24) rfl W0.heap.size 0 ([.string (strOf n2), .int .i64 n5, .slice p1 l1.length c1, .int .i64 nn2, .slice p3 css3.length c3] : List Value).toArray rfl rfl HTZ.out (by kernel_rfl) (by simp [Value.oneCell']) ?_; generalize World.setCells _ _ _ _ = W50 at *))
      have HC := Lib.hid (HPY.out.own _ (List.mem_cons_self ..)).1
      refine bodyPost_ret (results_cell1 rfl _ _ rfl HC.out.cells Tryd.underlying25 rfl (by kernel_rfl)) rfl ?_
      exact ⟨_, ⟨n2, n5, l1, nn2, l3⟩, _, _, rfl, ⟨_, rfl, ⟨_, _, rfl, Row.weaken HX1.out (fun g hg _ => hg.2.2), css3, HX3.out.weaken (fun g hg _ => hg.2.2), HE3.out.weaken (fun g hg _ => hg.2.2)⟩⟩, seq_un HSQ.out HO1.out HO2.out HO3.out, HPY.out.st, HPY.out.only⟩
    · skip
      obtain rfl := List.mem_singleton.1 hq
      clear hq
      refine wpOp_wp rfl (by rfl) (fun K' hK => ?_)
      go_simp
      have HR4 := Lib.hid (HR3.out.alloc [.string ⟨#[]⟩, .int .i64 0, .slice none 0 0, .int .i64 0, .slice none 0 0] 25)
      have hS4 := (And.intro (HR4.out.rw.fns (q := q) (rb := w.heap.size) (by simp)).1 (HR4.out.rw.fns (q := q) (rb := w.heap.size) (by simp)).2.1)
      refine hK.out _ _ ⟨hS4, ?_⟩
      clear hK K'
      try simp only [Act.put, List.getElem_toArray, List.getElem_cons_succ, List.getElem_cons_zero, List.setIfInBounds_toArray, List.set_cons_zero, List.set_cons_succ]
      generalize (World.heap W3).size = BB at HR4 ⊢
      refine wpAnyH_all (rs := [5]) (by kernel_rfl) (by simp) (fun q hq => ?_)
      obtain rfl := List.mem_singleton.1 hq
      clear hq
      refine wpOp_wp rfl (by rfl) (fun K' hK => ?_)
      go_simp
      refine (NR.out 4 rfl _ _ _ HR4.out.rw.le HR4.out.rw.st).mono ?_
      rintro e W5 ⟨n5, k5, b5, rfl, ho⟩
      have HR5 := Lib.hid (HR4.out.num ho)
      have hS5 := (And.intro (HR5.out.rw.fns (q := q) (rb := w.heap.size) (by simp)).1 (HR5.out.rw.fns (q := q) (rb := w.heap.size) (by simp)).2.1)
      refine hK.out _ _ ⟨hS5, ?_⟩
      clear hK K' ho
      try simp only [Act.put, List.getElem_toArray, List.getElem_cons_succ, List.getElem_cons_zero, List.setIfInBounds_toArray, List.set_cons_zero, List.set_cons_succ]
      refine wpAnyH_take (i := 6) (v := ?_) rfl (by kernel_rfl) (by kernel_rfl) (by kernel_rfl) (fun _ _ _ h => h) (Or.inl ⟨by rfl, ?_⟩) (by assumption) ?_
      rotate_left
      · intro w' hSw
        obtain ⟨hs0, hs1⟩ := hSw
        go_simp
        first | done | with_reducible rfl
      try simp only [Act.put, List.getElem_toArray, List.getElem_cons_succ, List.getElem_cons_zero, List.setIfInBounds_toArray, List.set_cons_zero, List.set_cons_succ]
      refine wpAnyH_all (rs := [8]) (by kernel_rfl) (by simp) (fun q hq => ?_)
      obtain rfl := List.mem_singleton.1 hq
      clear hq
      refine wpOp_wp rfl (by rfl) (fun K' hK => ?_)
      have HP := Lib.hid (HR5.out.rw.stored [.string (strOf n2), .int .i64 n5, .slice none 0 0, .int .i64 0, .slice none 0 0] rfl)
      have HT := Lib.hid HP.out.1
      have HPA := Lib.hid HP.out.2
      clear HP
      refine wp_store_mid 25 (.tmp 3) (.tmp 13) rfl BB 0 ([.string (strOf n2), .int .i64 n5, .slice none 0 0, .int .i64 0, .slice none 0 0] : List Value).toArray rfl rfl HT.out (by kernel_rfl) (by simp [Value.oneCell']) ?_
      generalize World.setCells _ _ _ _ = W20 at HPA ⊢
      refine hK.out _ _ ⟨(And.intro (HPA.out.fns (q := q) (rb := w.heap.size) (by simp)).1 (HPA.out.fns (q := q) (rb := w.heap.size) (by simp)).2.1), ?_⟩
      clear hK K'
      try simp only [Act.put, List.getElem_toArray, List.getElem_cons_succ, List.getElem_cons_zero]
      refine wpAnyH_done (by kernel_rfl) (NoPanic.normal ?_) _
      have HSQ := Lib.hid HR5.out.sq
      have HOR := Lib.hid (HPA.out.own (w.heap.size, rdC q) (by simp)).1
      go_wp2_with (refine wpList_load_mid rfl 62 (.tmp 1) rfl w.heap.size 0 rfl (rdC q) _ HOR.out.cells Tryd.underlying62 rfl HIR.out ?_)
      refine (LU.out _ _ _ HPA.out.le HPA.out.st (HFK.out _ HPA.out.only)).mono ?_
      rintro e W31 ⟨v1, l1, kk1, bb1, ho⟩
      obtain rfl := ho.ret
      have hrep1 : Rw Us.cells (fun g => _ ≤ g) W31 v1 l1 := ho.rep
      obtain ⟨p1, c1, hv1⟩ := Row.form hrep1
      rw [List.length_map] at hv1
      subst hv1
      have HO1 := Lib.hid ho.out
      have HQ1 := Lib.hid (HPA.out.ok ho)
      have HX1 : Hid (Rw Us.cells (fun g => BB < g ∧ W0.heap.size < g ∧ w.heap.size ≤ g) W31 (.slice p1 l1.length c1) l1) := Lib.hid (Row.weaken hrep1 (fun g hg _ => ⟨Nat.lt_of_lt_of_le (HPA.out.own (BB, [.string (strOf n2), .int .i64 n5, .slice none 0 0, .int .i64 0, .slice none 0 0]) (by simp)).1.lt hg, Nat.lt_of_lt_of_le (HPA.out.own (W0.heap.size, [.string ⟨#[]⟩, .int .i64 0, .slice none 0 0, .int .i64 0, .slice none 0 0]) (by simp)).1.lt hg, Nat.le_trans (Nat.le_of_lt (HPA.out.own (w.heap.size, rdC q) (by simp)).1.lt) hg⟩))
      have dd : W31.cell? ⟨BB, 2, none⟩ = some (.slice none 0 0) := HQ1.out.at (x := (BB, [.string (strOf n2), .int .i64 n5, .slice none 0 0, .int .i64 0, .slice none 0 0])) (by simp) 2 _ rfl
      have gg : W31.frozen? ⟨BB, 2, none⟩ = false := (HQ1.out.own (BB, [.string (strOf n2), .int .i64 n5, .slice none 0 0, .int .i64 0, .slice none 0 0]) (by simp)).1.free 2 (by simp)
      have HP1 : Hid (RW (pRdr s q N hN) s w (W31.setCell ⟨BB, 2, none⟩ (.slice p1 l1.length c1)) [(BB, [.string (strOf n2), .int .i64 n5, .slice p1 l1.length c1, .int .i64 0, .slice none 0 0]), (W0.heap.size, [.string ⟨#[]⟩, .int .i64 0, .slice none 0 0, .int .i64 0, .slice none 0 0]), (w.heap.size, rdC q)] kk1 bb1) := Lib.hid (HQ1.out.setOne 2 (.slice p1 l1.length c1) (by simp))
      have hk1 := keeps_one (W := W31) (X := (fun g => BB < g ∧ W0.heap.size < g ∧ w.heap.size ≤ g)) (g := BB) (j := 2) (v := .slice p1 l1.length c1) (fun hx => Nat.lt_irrefl _ hx.1)
      replace HX1 := Lib.hid (HX1.out.keep hk1)
      clear ho HQ1 HOR hrep1 hk1 HPA
      obtain ⟨c0, -, -, -⟩ := HP1.out.fns (q := q) (rb := w.heap.size) (by simp)
      go_wp2_with fail
      refine (NR.out 1 rfl _ _ _ HP1.out.le HP1.out.st).mono ?_
      rintro e W32 ⟨nn2, kk2, bb2, rfl, ho⟩
      have HO2 := Lib.hid ho.out
      have HQ2 := Lib.hid (HP1.out.ok ho)
      have hkc := keeps_call (X := (fun g => BB < g ∧ W0.heap.size < g ∧ w.heap.size ≤ g)) HP1.out ho.only (fun g hg => hg.2.2)
      replace HX1 := Lib.hid (HX1.out.keep hkc)
      have dd : W32.cell? ⟨BB, 3, none⟩ = some (.int .i64 0) := HQ2.out.at (x := (BB, [.string (strOf n2), .int .i64 n5, .slice p1 l1.length c1, .int .i64 0, .slice none 0 0])) (by simp) 3 _ rfl
      have gg : W32.frozen? ⟨BB, 3, none⟩ = false := (HQ2.out.own (BB, [.string (strOf n2), .int .i64 n5, .slice p1 l1.length c1, .int .i64 0, .slice none 0 0]) (by simp)).1.free 3 (by simp)
      have HP2 : Hid (RW (pRdr s q N hN) s w (W32.setCell ⟨BB, 3, none⟩ (.int .i64 nn2)) [(BB, [.string (strOf n2), .int .i64 n5, .slice p1 l1.length c1, .int .i64 nn2, .slice none 0 0]), (W0.heap.size, [.string ⟨#[]⟩, .int .i64 0, .slice none 0 0, .int .i64 0, .slice none 0 0]), (w.heap.size, rdC q)] kk2 bb2) := Lib.hid (HQ2.out.setOne 3 (.int .i64 nn2) (by simp))
      have hk1 := keeps_one (W := W32) (X := (fun g => BB < g ∧ W0.heap.size < g ∧ w.heap.size ≤ g)) (g := BB) (j := 3) (v := .int .i64 nn2) (fun hx => Nat.lt_irrefl _ hx.1)
      replace HX1 := Lib.hid (HX1.out.keep hk1)
      clear ho HQ2 c0 hk1 hkc HP1
      have HOR := Lib.hid (HP2.out.own (w.heap.size, rdC q) (by simp)).1
      go_wp2_with (refine wpList_load_mid rfl 62 (.tmp 1) rfl w.heap.size 0 rfl (rdC q) _ HOR.out.cells Tryd.underlying62 rfl HIR.out ?_)
      refine (LP.out _ _ _ HP2.out.le HP2.out.st (HFK.out _ HP2.out.only)).mono ?_
      rintro e W33 ⟨v3, l3, kk3, bb3, ho⟩
      obtain rfl := ho.ret
      have hrep3 : prsT (fun g => _ ≤ g) W33 v3 l3 := ho.rep
      obtain ⟨css3, hrow3, heach3⟩ := hrep3
      obtain ⟨p3, c3, hv3⟩ := Row.form hrow3.1
      subst hv3
      have HO3 := Lib.hid ho.out
      have HQ3 := Lib.hid (HP2.out.ok ho)
      have hkc := keeps_call (X := (fun g => BB < g ∧ W0.heap.size < g ∧ w.heap.size ≤ g)) HP2.out ho.only (fun g hg => hg.2.2)
      replace HX1 := Lib.hid (HX1.out.keep hkc)
      have HX3 : Hid (RowT 6 (fun g => BB < g ∧ W0.heap.size < g ∧ w.heap.size ≤ g) W33 (.slice p3 css3.length c3) css3) := Lib.hid (hrow3.weaken (fun g hg _ => ⟨Nat.lt_of_lt_of_le (HP2.out.own (BB, [.string (strOf n2), .int .i64 n5, .slice p1 l1.length c1, .int .i64 nn2, .slice none 0 0]) (by simp)).1.lt hg, Nat.lt_of_lt_of_le (HP2.out.own (W0.heap.size, [.string ⟨#[]⟩, .int .i64 0, .slice none 0 0, .int .i64 0, .slice none 0 0]) (by simp)).1.lt hg, Nat.le_trans (Nat.le_of_lt (HP2.out.own (w.heap.size, rdC q) (by simp)).1.lt) hg⟩))
      have HE3 : Hid (Each (fun g => BB < g ∧ W0.heap.size < g ∧ w.heap.size ≤ g) W33 css3 l3) := Lib.hid (heach3.weaken (fun g hg _ => ⟨Nat.lt_of_lt_of_le (HP2.out.own (BB, [.string (strOf n2), .int .i64 n5, .slice p1 l1.length c1, .int .i64 nn2, .slice none 0 0]) (by simp)).1.lt hg, Nat.lt_of_lt_of_le (HP2.out.own (W0.heap.size, [.string ⟨#[]⟩, .int .i64 0, .slice none 0 0, .int .i64 0, .slice none 0 0]) (by simp)).1.lt hg, Nat.le_trans (Nat.le_of_lt (HP2.out.own (w.heap.size, rdC q) (by simp)).1.lt) hg⟩))
      have dd : W33.cell? ⟨BB, 4, none⟩ = some (.slice none 0 0) := HQ3.out.at (x := (BB, [.string (strOf n2), .int .i64 n5, .slice p1 l1.length c1, .int .i64 nn2, .slice none 0 0])) (by simp) 4 _ rfl
      have gg : W33.frozen? ⟨BB, 4, none⟩ = false := (HQ3.out.own (BB, [.string (strOf n2), .int .i64 n5, .slice p1 l1.length c1, .int .i64 nn2, .slice none 0 0]) (by simp)).1.free 4 (by simp)
      have HP3 : Hid (RW (pRdr s q N hN) s w (W33.setCell ⟨BB, 4, none⟩ (.slice p3 css3.length c3)) [(BB, [.string (strOf n2), .int .i64 n5, .slice p1 l1.length c1, .int .i64 nn2, .slice p3 css3.length c3]), (W0.heap.size, [.string ⟨#[]⟩, .int .i64 0, .slice none 0 0, .int .i64 0, .slice none 0 0]), (w.heap.size, rdC q)] kk3 bb3) := Lib.hid (HQ3.out.setOne 4 (.slice p3 css3.length c3) (by simp))
      have hk1 := keeps_one (W := W33) (X := (fun g => BB < g ∧ W0.heap.size < g ∧ w.heap.size ≤ g)) (g := BB) (j := 4) (v := .slice p3 css3.length c3) (fun hx => Nat.lt_irrefl _ hx.1)
      replace HX1 := Lib.hid (HX1.out.keep hk1)
      replace HX3 := Lib.hid (HX3.out.keep hk1)
      replace HE3 := Lib.hid (HE3.out.keep hk1)
      clear ho HQ3 HOR hrow3 heach3 hk1 hkc HP2
      have HCB := Lib.hid (HP3.out.own _ (List.mem_cons_self ..)).1
      have HPZ := Lib.hid (HP3.out.swap.stored [.string (strOf n2), .int .i64 n5, .slice p1 l1.length c1, .int .i64 nn2, .slice p3 css3.length c3] rfl)
      have HTZ := Lib.hid HPZ.out.1
      have HPY := Lib.hid HPZ.out.2
      clear HPZ
      have hkz := keeps_all (W := W33.setCell ⟨BB, 4, none⟩ (.slice p3 css3.length c3)) (X := (fun g => BB < g ∧ W0.heap.size < g ∧ w.heap.size ≤ g)) (g := W0.heap.size) (vs := ([.string (strOf n2), .int .i64 n5, .slice p1 l1.length c1, .int .i64 nn2, .slice p3 css3.length c3] : List Value).toArray.toList) (fun hx => Nat.lt_irrefl _ hx.2.1)
      replace HX1 := Lib.hid (HX1.out.keep hkz)
      replace HX3 := Lib.hid (HX3.out.keep hkz)
      replace HE3 := Lib.hid (HE3.out.keep hkz)
      clear hkz
      go_wp2_with (first
        | (refine wpList_load_mid rfl 25 (.tmp 3) rfl BB 0 rfl [.string (strOf n2), .int .i64 n5, .slice p1 l1.length c1, .int .i64 nn2, .slice p3 css3.length c3] _ HCB.out.cells Tryd.underlying25 rfl (by kernel_rfl) ?_)
        | (refine wpList_store_mid rfl 25 (.tmp 2) (.tmp 24) rfl W0.heap.size 0 ([.string (strOf n2), .int .i64 n5, .slice p1 l1.length c1, .int .i64 nn2, .slice p3 css3.length c3] : List Value).toArray rfl rfl HTZ.out (by kernel_rfl) (by simp [Value.oneCell']) ?_; generalize World.setCells _ _ _ _ = W50 at *))
      have HC := Lib.hid (HPY.out.own _ (List.mem_cons_self ..)).1
      refine bodyPost_ret (results_cell1 rfl _ _ rfl HC.out.cells Tryd.underlying25 rfl (by kernel_rfl)) rfl ?_
      exact ⟨_, ⟨n2, n5, l1, nn2, l3⟩, _, _, rfl, ⟨_, rfl, ⟨_, _, rfl, Row.weaken HX1.out (fun g hg _ => hg.2.2), css3, HX3.out.weaken (fun g hg _ => hg.2.2), HE3.out.weaken (fun g hg _ => hg.2.2)⟩⟩, seq_un HSQ.out HO1.out HO2.out HO3.out, HPY.out.st, HPY.out.only⟩
  · skip
    obtain rfl := List.mem_singleton.1 hq
    clear hq
    refine wpOp_wp rfl (by rfl) (fun K' hK => ?_)
    go_simp
    have HR3 := Lib.hid (HR2.out.alloc [.string ⟨#[]⟩, .int .i64 0, .slice none 0 0, .int .i64 0, .slice none 0 0] 25)
    have hS3 := (And.intro (HR3.out.rw.fns (q := q) (rb := w.heap.size) (by simp)).1 (HR3.out.rw.fns (q := q) (rb := w.heap.size) (by simp)).2.1)
    refine hK.out _ _ ⟨hS3, ?_⟩
    clear hK K'
    try simp only [Act.put, List.getElem_toArray, List.getElem_cons_succ, List.getElem_cons_zero, List.setIfInBounds_toArray, List.set_cons_zero, List.set_cons_succ]
    rw [show (World.heap W10.drew).size = (World.heap W10).size from rfl] at HR3
    generalize (World.heap W10).size = BB at HR3 ⊢
    refine wpAnyH_all (rs := [2]) (by kernel_rfl) (by simp) (fun q hq => ?_)
    obtain rfl := List.mem_singleton.1 hq
    clear hq
    refine wpOp_wp rfl (by rfl) (fun K' hK => ?_)
    go_simp
    refine (TR.out _ _ _ HR3.out.rw.le HR3.out.rw.st).mono ?_
    rintro e W4 ⟨n2, k2, b2, rfl, ho⟩
    have HR4 := Lib.hid (HR3.out.txt ho)
    have hS4 := (And.intro (HR4.out.rw.fns (q := q) (rb := w.heap.size) (by simp)).1 (HR4.out.rw.fns (q := q) (rb := w.heap.size) (by simp)).2.1)
    refine hK.out _ _ ⟨hS4, ?_⟩
    clear hK K' ho
    try simp only [Act.put, List.getElem_toArray, List.getElem_cons_succ, List.getElem_cons_zero, List.setIfInBounds_toArray, List.set_cons_zero, List.set_cons_succ]
    refine wpAnyH_all (rs := [5]) (by kernel_rfl) (by simp) (fun q hq => ?_)
    obtain rfl := List.mem_singleton.1 hq
    clear hq
    refine wpOp_wp rfl (by rfl) (fun K' hK => ?_)
    go_simp
    refine (NR.out 4 rfl _ _ _ HR4.out.rw.le HR4.out.rw.st).mono ?_
    rintro e W5 ⟨n5, k5, b5, rfl, ho⟩
    have HR5 := Lib.hid (HR4.out.num ho)
    have hS5 := (And.intro (HR5.out.rw.fns (q := q) (rb := w.heap.size) (by simp)).1 (HR5.out.rw.fns (q := q) (rb := w.heap.size) (by simp)).2.1)
    refine hK.out _ _ ⟨hS5, ?_⟩
    clear hK K' ho
    try simp only [Act.put, List.getElem_toArray, List.getElem_cons_succ, List.getElem_cons_zero, List.setIfInBounds_toArray, List.set_cons_zero, List.set_cons_succ]
    refine wpAnyH_take (i := 6) (v := ?_) rfl (by kernel_rfl) (by kernel_rfl) (by kernel_rfl) (fun _ _ _ h => h) (Or.inl ⟨by rfl, ?_⟩) (by assumption) ?_
    rotate_left
    · intro w' hSw
      obtain ⟨hs0, hs1⟩ := hSw
      go_simp
      first | done | with_reducible rfl
    try simp only [Act.put, List.getElem_toArray, List.getElem_cons_succ, List.getElem_cons_zero, List.setIfInBounds_toArray, List.set_cons_zero, List.set_cons_succ]
    refine wpAnyH_all (rs := [8]) (by kernel_rfl) (by simp) (fun q hq => ?_)
    obtain rfl := List.mem_singleton.1 hq
    clear hq
    refine wpOp_wp rfl (by rfl) (fun K' hK => ?_)
    have HP := Lib.hid (HR5.out.rw.stored [.string (strOf n2), .int .i64 n5, .slice none 0 0, .int .i64 0, .slice none 0 0] rfl)
    have HT := Lib.hid HP.out.1
    have HPA := Lib.hid HP.out.2
    clear HP
    refine wp_store_mid 25 (.tmp 3) (.tmp 13) rfl BB 0 ([.string (strOf n2), .int .i64 n5, .slice none 0 0, .int .i64 0, .slice none 0 0] : List Value).toArray rfl rfl HT.out (by kernel_rfl) (by simp [Value.oneCell']) ?_
    generalize World.setCells _ _ _ _ = W20 at HPA ⊢
    refine hK.out _ _ ⟨(And.intro (HPA.out.fns (q := q) (rb := w.heap.size) (by simp)).1 (HPA.out.fns (q := q) (rb := w.heap.size) (by simp)).2.1), ?_⟩
    clear hK K'
    try simp only [Act.put, List.getElem_toArray, List.getElem_cons_succ, List.getElem_cons_zero]
    refine wpAnyH_done (by kernel_rfl) (NoPanic.normal ?_) _
    have HSQ := Lib.hid HR5.out.sq
    have HOR := Lib.hid (HPA.out.own (w.heap.size, rdC q) (by simp)).1
    go_wp2_with (refine wpList_load_mid rfl 62 (.tmp 1) rfl w.heap.size 0 rfl (rdC q) _ HOR.out.cells Tryd.underlying62 rfl HIR.out ?_)
    refine (LU.out _ _ _ HPA.out.le HPA.out.st (HFK.out _ HPA.out.only)).mono ?_
    rintro e W31 ⟨v1, l1, kk1, bb1, ho⟩
    obtain rfl := ho.ret
    have hrep1 : Rw Us.cells (fun g => _ ≤ g) W31 v1 l1 := ho.rep
    obtain ⟨p1, c1, hv1⟩ := Row.form hrep1
    rw [List.length_map] at hv1
    subst hv1
    have HO1 := Lib.hid ho.out
    have HQ1 := Lib.hid (HPA.out.ok ho)
    have HX1 : Hid (Rw Us.cells (fun g => BB < g ∧ W0.heap.size < g ∧ w.heap.size ≤ g) W31 (.slice p1 l1.length c1) l1) := Lib.hid (Row.weaken hrep1 (fun g hg _ => ⟨Nat.lt_of_lt_of_le (HPA.out.own (BB, [.string (strOf n2), .int .i64 n5, .slice none 0 0, .int .i64 0, .slice none 0 0]) (by simp)).1.lt hg, Nat.lt_of_lt_of_le (HPA.out.own (W0.heap.size, [.string ⟨#[]⟩, .int .i64 0, .slice none 0 0, .int .i64 0, .slice none 0 0]) (by simp)).1.lt hg, Nat.le_trans (Nat.le_of_lt (HPA.out.own (w.heap.size, rdC q) (by simp)).1.lt) hg⟩))
    have dd : W31.cell? ⟨BB, 2, none⟩ = some (.slice none 0 0) := HQ1.out.at (x := (BB, [.string (strOf n2), .int .i64 n5, .slice none 0 0, .int .i64 0, .slice none 0 0])) (by simp) 2 _ rfl
    have gg : W31.frozen? ⟨BB, 2, none⟩ = false := (HQ1.out.own (BB, [.string (strOf n2), .int .i64 n5, .slice none 0 0, .int .i64 0, .slice none 0 0]) (by simp)).1.free 2 (by simp)
    have HP1 : Hid (RW (pRdr s q N hN) s w (W31.setCell ⟨BB, 2, none⟩ (.slice p1 l1.length c1)) [(BB, [.string (strOf n2), .int .i64 n5, .slice p1 l1.length c1, .int .i64 0, .slice none 0 0]), (W0.heap.size, [.string ⟨#[]⟩, .int .i64 0, .slice none 0 0, .int .i64 0, .slice none 0 0]), (w.heap.size, rdC q)] kk1 bb1) := Lib.hid (HQ1.out.setOne 2 (.slice p1 l1.length c1) (by simp))
    have hk1 := keeps_one (W := W31) (X := (fun g => BB < g ∧ W0.heap.size < g ∧ w.heap.size ≤ g)) (g := BB) (j := 2) (v := .slice p1 l1.length c1) (fun hx => Nat.lt_irrefl _ hx.1)
    replace HX1 := Lib.hid (HX1.out.keep hk1)
    clear ho HQ1 HOR hrep1 hk1 HPA
    obtain ⟨c0, -, -, -⟩ := HP1.out.fns (q := q) (rb := w.heap.size) (by simp)
    go_wp2_with fail
    refine (NR.out 1 rfl _ _ _ HP1.out.le HP1.out.st).mono ?_
    rintro e W32 ⟨nn2, kk2, bb2, rfl, ho⟩
    have HO2 := Lib.hid ho.out
    have HQ2 := Lib.hid (HP1.out.ok ho)
    have hkc := keeps_call (X := (fun g => BB < g ∧ W0.heap.size < g ∧ w.heap.size ≤ g)) HP1.out ho.only (fun g hg => hg.2.2)
    replace HX1 := Lib.hid (HX1.out.keep hkc)
    have dd : W32.cell? ⟨BB, 3, none⟩ = some (.int .i64 0) := HQ2.out.at (x := (BB, [.string (strOf n2), .int .i64 n5, .slice p1 l1.length c1, .int .i64 0, .slice none 0 0])) (by simp) 3 _ rfl
    have gg : W32.frozen? ⟨BB, 3, none⟩ = false := (HQ2.out.own (BB, [.string (strOf n2), .int .i64 n5, .slice p1 l1.length c1, .int .i64 0, .slice none 0 0]) (by simp)).1.free 3 (by simp)
    have HP2 : Hid (RW (pRdr s q N hN) s w (W32.setCell ⟨BB, 3, none⟩ (.int .i64 nn2)) [(BB, [.string (strOf n2), .int .i64 n5, .slice p1 l1.length c1, .int .i64 nn2, .slice none 0 0]), (W0.heap.size, [.string ⟨#[]⟩, .int .i64 0, .slice none 0 0, .int .i64 0, .slice none 0 0]), (w.heap.size, rdC q)] kk2 bb2) := Lib.hid (HQ2.out.setOne 3 (.int .i64 nn2) (by simp))
    have hk1 := keeps_one (W := W32) (X := (fun g => BB < g ∧ W0.heap.size < g ∧ w.heap.size ≤ g)) (g := BB) (j := 3) (v := .int .i64 nn2) (fun hx => Nat.lt_irrefl _ hx.1)
    replace HX1 := Lib.hid (HX1.out.keep hk1)
    clear ho HQ2 c0 hk1 hkc HP1
    have HOR := Lib.hid (HP2.out.own (w.heap.size, rdC q) (by simp)).1
    go_wp2_with (refine wpList_load_mid rfl 62 (.tmp 1) rfl w.heap.size 0 rfl (rdC q) _ HOR.out.cells Tryd.underlying62 rfl HIR.out ?_)
    refine (LP.out _ _ _ HP2.out.le HP2.out.st (HFK.out _ HP2.out.only)).mono ?_
    rintro e W33 ⟨v3, l3, kk3, bb3, ho⟩
    obtain rfl := ho.ret
    have hrep3 : prsT (fun g => _ ≤ g) W33 v3 l3 := ho.rep
    obtain ⟨css3, hrow3, heach3⟩ := hrep3
    obtain ⟨p3, c3, hv3⟩ := Row.form hrow3.1
    subst hv3
    have HO3 := Lib.hid ho.out
    have HQ3 := Lib.hid (HP2.out.ok ho)
    have hkc := keeps_call (X := (fun g => BB < g ∧ W0.heap.size < g ∧ w.heap.size ≤ g)) HP2.out ho.only (fun g hg => hg.2.2)
    replace HX1 := Lib.hid (HX1.out.keep hkc)
    have HX3 : Hid (RowT 6 (fun g => BB < g ∧ W0.heap.size < g ∧ w.heap.size ≤ g) W33 (.slice p3 css3.length c3) css3) := Lib.hid (hrow3.weaken (fun g hg _ => ⟨Nat.lt_of_lt_of_le (HP2.out.own (BB, [.string (strOf n2), .int .i64 n5, .slice p1 l1.length c1, .int .i64 nn2, .slice none 0 0]) (by simp)).1.lt hg, Nat.lt_of_lt_of_le (HP2.out.own (W0.heap.size, [.string ⟨#[]⟩, .int .i64 0, .slice none 0 0, .int .i64 0, .slice none 0 0]) (by simp)).1.lt hg, Nat.le_trans (Nat.le_of_lt (HP2.out.own (w.heap.size, rdC q) (by simp)).1.lt) hg⟩))
    have HE3 : Hid (Each (fun g => BB < g ∧ W0.heap.size < g ∧ w.heap.size ≤ g) W33 css3 l3) := Lib.hid (heach3.weaken (fun g hg _ => ⟨Nat.lt_of_lt_of_le (HP2.out.own (BB, [.string (strOf n2), .int .i64 n5, .slice p1 l1.length c1, .int .i64 nn2, .slice none 0 0]) (by simp)).1.lt hg, Nat.lt_of_lt_of_le (HP2.out.own (W0.heap.size, [.string ⟨#[]⟩, .int .i64 0, .slice none 0 0, .int .i64 0, .slice none 0 0]) (by simp)).1.lt hg, Nat.le_trans (Nat.le_of_lt (HP2.out.own (w.heap.size, rdC q) (by simp)).1.lt) hg⟩))
    have dd : W33.cell? ⟨BB, 4, none⟩ = some (.slice none 0 0) := HQ3.out.at (x := (BB, [.string (strOf n2), .int .i64 n5, .slice p1 l1.length c1, .int .i64 nn2, .slice none 0 0])) (by simp) 4 _ rfl
    have gg : W33.frozen? ⟨BB, 4, none⟩ = false := (HQ3.out.own (BB, [.string (strOf n2), .int .i64 n5, .slice p1 l1.length c1, .int .i64 nn2, .slice none 0 0]) (by simp)).1.free 4 (by simp)
    have HP3 : Hid (RW (pRdr s q N hN) s w (W33.setCell ⟨BB, 4, none⟩ (.slice p3 css3.length c3)) [(BB, [.string (strOf n2), .int .i64 n5, .slice p1 l1.length c1, .int .i64 nn2, .slice p3 css3.length c3]), (W0.heap.size, [.string ⟨#[]⟩, .int .i64 0, .slice none 0 0, .int .i64 0, .slice none 0 0]), (w.heap.size, rdC q)] kk3 bb3) := Lib.hid (HQ3.out.setOne 4 (.slice p3 css3.length c3) (by simp))
    have hk1 := keeps_one (W := W33) (X := (fun g => BB < g ∧ W0.heap.size < g ∧ w.heap.size ≤ g)) (g := BB) (j := 4) (v := .slice p3 css3.length c3) (fun hx => Nat.lt_irrefl _ hx.1)
    replace HX1 := Lib.hid (HX1.out.keep hk1)
    replace HX3 := Lib.hid (HX3.out.keep hk1)
    replace HE3 := Lib.hid (HE3.out.keep hk1)
    clear ho HQ3 HOR hrow3 heach3 hk1 hkc HP2
    have HCB := Lib.hid (HP3.out.own _ (List.mem_cons_self ..)).1
    have HPZ := Lib.hid (HP3.out.swap.stored [.string (strOf n2), .int .i64 n5, .slice p1 l1.length c1, .int .i64 nn2, .slice p3 css3.length c3] rfl)
    have HTZ := Lib.hid HPZ.out.1
    have HPY := Lib.hid HPZ.out.2
    clear HPZ
    have hkz := keeps_all (W := W33.setCell ⟨BB, 4, none⟩ (.slice p3 css3.length c3)) (X := (fun g => BB < g ∧ W0.heap.size < g ∧ w.heap.size ≤ g)) (g := W0.heap.size) (vs := ([.string (strOf n2), .int .i64 n5, .slice p1 l1.length c1, .int .i64 nn2, .slice p3 css3.length c3] : List Value).toArray.toList) (fun hx => Nat.lt_irrefl _ hx.2.1)
    replace HX1 := Lib.hid (HX1.out.keep hkz)
    replace HX3 := Lib.hid (HX3.out.keep hkz)
    replace HE3 := Lib.hid (HE3.out.keep hkz)
    clear hkz
    go_wp2_with (first
      | (refine wpList_load_mid rfl 25 (.tmp 3) rfl BB 0 rfl [.string (strOf n2), .int .i64 n5, .slice p1 l1.length c1, .int .i64 nn2, .slice p3 css3.length c3] _ HCB.out.cells Tryd.underlying25 rfl (by kernel_rfl) ?_)
      | (refine wpList_store_mid rfl 25 (.tmp 2) (.tmp 24) rfl W0.heap.size 0 ([.string (strOf n2), .int .i64 n5, .slice p1 l1.length c1, .int .i64 nn2, .slice p3 css3.length c3] : List Value).toArray rfl rfl HTZ.out (by kernel_rfl) (by simp [Value.oneCell']) ?_; generalize World.setCells _ _ _ _ = W50 at *))
    have HC := Lib.hid (HPY.out.own _ (List.mem_cons_self ..)).1
    refine bodyPost_ret (results_cell1 rfl _ _ rfl HC.out.cells Tryd.underlying25 rfl (by kernel_rfl)) rfl ?_
    exact ⟨_, ⟨n2, n5, l1, nn2, l3⟩, _, _, rfl, ⟨_, rfl, ⟨_, _, rfl, Row.weaken HX1.out (fun g hg _ => hg.2.2), css3, HX3.out.weaken (fun g hg _ => hg.2.2), HE3.out.weaken (fun g hg _ => hg.2.2)⟩⟩, seq_un HSQ.out HO1.out HO2.out HO3.out, HPY.out.st, HPY.out.only⟩
end
end Go.Proofs.YtmloljfnnkfkjaaDoor.Im

