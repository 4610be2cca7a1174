/- The walks of protoBytes and of image.Build: their contracts. No condition but those that each states. -/
import Derived.Test.YtmloljfnnkfkjaaDoorMgAN
import Derived.Test.YtmloljfnnkfkjaaDoorMgAS
namespace Go.Proofs.YtmloljfnnkfkjaaDoor.Im
open Go.RowKit Dk In
variable {X : Nat → Prop}

theorem enters_useBytes : Enters 21 := fun a W => by kernel_rfl
theorem enters_capBytes : Enters 49 := fun a W => by kernel_rfl
theorem enters_constBytes : Enters 51 := fun a W => by kernel_rfl
theorem enters_instBytes : Enters 53 := fun a W => by kernel_rfl
theorem enters_protoBytes : Enters 23 := fun a W => by kernel_rfl
theorem flatMap_len {α : Type} {f : α → List UInt8} {K : Nat} : ∀ {l : List α}, (∀ x ∈ l, (f x).length ≤ K) → (l.flatMap f).length ≤ l.length * K
  | [], _ => by simp
  | x :: l, h => by
    have h1 := h x (List.mem_cons_self ..)
    have h2 := flatMap_len (fun y hy => h y (List.mem_cons_of_mem _ hy))
    rw [List.flatMap_cons, List.length_append, List.length_cons, Nat.succ_mul]
    omega
theorem encL_len {α : Type} {f : α → List UInt8} {K : Nat} {l : List α} (h : ∀ x ∈ l, (f x).length ≤ K) : (encL f l).length ≤ 2 + l.length * K := by
  unfold encL
  rw [List.length_append, le_length]
  have := flatMap_len h
  omega
theorem encUse_len {x : Us} (h : useB x = true) : (encUse x).length ≤ 41 := by
  obtain ⟨h1, h2, -, -⟩ := use_parts h
  unfold encUse
  rw [List.length_append, List.length_append, txt_len, txt_len, le_length]
  omega
theorem encCap_len (x : Cp) : (encCap x).length ≤ 2 := by unfold encCap; rw [List.length_append, le_length, le_length]; omega
theorem encVal_len {x : Vl} (h : valB x = true) : (encVal x).length ≤ 1029 := by
  obtain ⟨k, n, s⟩ := x
  unfold encVal
  by_cases h1 : k = 1
  · simp only [h1, if_true, List.length_append, le_length]; omega
  · by_cases h2 : k = 2
    · subst h2
      unfold valB at h
      simp at h
      simp only [if_neg (show ¬(2 : Int) = 1 by decide), if_true, List.length_append, le_length, txt_len]
      omega
    · simp only [if_neg h1, if_neg h2, le_length]; omega
/-- What is asked of a proto so that its bytes are laid down. -/
structure PrOk (p : Pr) : Prop where
  right : prB p = true
  nm : p.nm.length ≤ 16
  capn : p.caps.length ≤ 255
  cap : ∀ c ∈ p.caps, capB c = true
theorem PrOk.parts {p : Pr} (h : PrOk p) : (0 ≤ p.ps ∧ p.ps ≤ 8) ∧ (0 ≤ p.rg ∧ p.rg ≤ 100) ∧ (p.ks.length ≤ 200 ∧ ∀ v ∈ p.ks, valB v = true) ∧ (p.code.length ≤ 8000 ∧ ∀ x ∈ p.code, rightB x = true) := by
  have h := h.right
  unfold prB at h
  simp only [Bool.and_eq_true, inB_iff, allB_iff] at h
  obtain ⟨⟨⟨h1, h2⟩, h3⟩, h4⟩ := h
  have hm : 0 ≤ p.rg := by have := Int.le_max_left 1 p.ps; omega
  exact ⟨h1, ⟨hm, h2.2⟩, h3, h4⟩
theorem caps_len {p : Pr} (h : PrOk p) : (encL encCap p.caps).length ≤ 512 := by
  have := encL_len (f := encCap) (K := 2) (l := p.caps) (fun x _ => encCap_len x)
  have := h.capn
  omega
theorem ks_len {p : Pr} (h : PrOk p) : (encL encVal p.ks).length ≤ 205802 := by
  obtain ⟨-, -, h3, -⟩ := h.parts
  have := encL_len (f := encVal) (K := 1029) (l := p.ks) (fun x hx => encVal_len (h3.2 x hx))
  omega
theorem code_len {p : Pr} (h : PrOk p) : (encL buildL p.code).length ≤ 32002 := by
  obtain ⟨-, -, -, h4⟩ := h.parts
  have := encL_len (f := buildL) (K := 4) (l := p.code) (fun x _ => Nat.le_refl 4)
  omega
theorem encPr_len {p : Pr} (h : PrOk p) : (encPr p).length ≤ 238338 := by
  have h1 := caps_len h
  have h2 := ks_len h
  have h3 := code_len h
  have h4 := h.nm
  unfold encPr
  simp only [List.length_append, txt_len, le_length]
  omega
theorem un_ok {u : Un} (h : unB u = true) : ∀ p ∈ u.prs, PrOk p := fun p hp => by
  obtain ⟨-, -, -, h4, -⟩ := un_parts h
  obtain ⟨a, b, c, d⟩ := h4.2 p hp
  exact ⟨a, b, c, d⟩
theorem uses_len {u : Un} (h : unB u = true) : (encL encUse u.uses).length ≤ 658 := by
  obtain ⟨-, -, h3, -, -⟩ := un_parts h
  have := encL_len (f := encUse) (K := 41) (l := u.uses) (fun x hx => encUse_len (h3.2 x hx))
  omega
theorem prs_len {u : Un} (h : unB u = true) : (encL encPr u.prs).length ≤ 15253634 := by
  obtain ⟨-, -, -, h4, -⟩ := un_parts h
  have := encL_len (f := encPr) (K := 238338) (l := u.prs) (fun p hp => encPr_len (un_ok h p hp))
  omega
theorem pr_cells {sn : ByteArray} {ps rg : Int} {vc vk vp : Value} {w W : World} {b : Nat} (h : SE w W b [.string sn, .int .i64 ps, .int .i64 rg, vc, vk, vp]) : W.cell? ⟨b, 0, none⟩ = some (.string sn) ∧ W.cell? ⟨b, 1, none⟩ = some (.int .i64 ps) ∧ W.cell? ⟨b, 2, none⟩ = some (.int .i64 rg) ∧ W.cell? ⟨b, 5, none⟩ = some (vp) ∧ W.cell? ⟨b, 4, none⟩ = some (vk) ∧ W.cell? ⟨b, 3, none⟩ = some (vc) := ⟨h.el.at 0 _ rfl, h.el.at 1 _ rfl, h.el.at 2 _ rfl, h.el.at 5 _ rfl, h.el.at 4 _ rfl, h.el.at 3 _ rfl⟩
set_option maxHeartbeats 4000000 in
set_option maxRecDepth 100000 in
theorem protoBytes_any {cs : List Value} {p : Pr} (w : World) (hp : PC X w cs p) (hk : PrOk p) (HF : HasF w) : Calls Tryd.prog 23 #[.agg cs.toArray] w fun e w' => e = .returned (.string (strOf (encPr p))) ∧ Below w.heap.size w w' := by
  obtain ⟨vc, vk, vp, rfl, h1, h2, h3⟩ := hp
  obtain ⟨q1, q2, q3, q4⟩ := hk.parts
  have l1 := caps_len hk
  have l2 := ks_len hk
  have l3 := code_len hk
  have l4 := hk.nm
  have l5 := hk.capn
  have T1 := Lib.hid (fun W => text_row p.nm W (by omega))
  have N1 := Lib.hid (fun W => num1 p.ps q1.1 (by omega) W)
  have N2 := Lib.hid (fun W => num1 p.rg q2.1 (by omega) W)
  have LC := Lib.hid (fun (W : World) (hb : Below w.heap.size w W) => lists_cp (l := p.caps) encCap enters_capBytes (Row.later h3 hb) (cp_two _) (cp_ones _) (List.length_map _) (by omega) (by omega) (fun i cs x e1 e2 W' _ => by rw [map_at e1 e2]; exact capBytes_any x W' (hk.cap x (mem_at e2))))
  have LK := Lib.hid (fun (W : World) (hb : Below w.heap.size w W) => lists_vl (l := p.ks) encVal enters_constBytes (Row.later h2 hb) (vl_three _) (vl_ones _) (List.length_map _) (by omega) (by omega) (fun i cs x e1 e2 W' _ => by rw [map_at e1 e2]; exact constBytes_any x W' (q3.2 x (mem_at e2))))
  have LI := Lib.hid (fun (W : World) (hb : Below w.heap.size w W) => lists_ix (l := p.code) buildL enters_instBytes (Row.later h1 hb) (ix_four _) (ix_ones _) (List.length_map _) (by omega) (by omega) (fun i cs x e1 e2 W' hb' => by rw [map_at e1 e2]; exact instBytes_any x W' (HF.later (chain2 hb hb')) (q4.2 x (mem_at e2))))
  have p1 := fun W => sum_run (txt p.nm) (le 1 p.ps) (by simp only [txt_len, le_length]; omega) W
  have p2 := fun W => sum_run (txt p.nm ++ le 1 p.ps) (le 1 p.rg) (by simp only [List.length_append, txt_len, le_length]; omega) W
  have p3 := fun W => sum_run (txt p.nm ++ le 1 p.ps ++ le 1 p.rg) (encL encCap p.caps) (by simp only [List.length_append, txt_len, le_length]; omega) W
  have p4 := fun W => sum_run (txt p.nm ++ le 1 p.ps ++ le 1 p.rg ++ encL encCap p.caps) (encL encVal p.ks) (by simp only [List.length_append, txt_len, le_length]; omega) W
  have p5 := fun W => sum_run (txt p.nm ++ le 1 p.ps ++ le 1 p.rg ++ encL encCap p.caps ++ encL encVal p.ks) (encL buildL p.code) (by simp only [List.length_append, txt_len, le_length]; omega) W
  show Calls _ _ #[.agg #[.string (strOf p.nm), .int .i64 p.ps, .int .i64 p.rg, vc, vk, vp]] w fun e w' => e = .returned (.string (strOf (txt p.nm ++ le 1 p.ps ++ le 1 p.rg ++ encL encCap p.caps ++ encL encVal p.ks ++ encL buildL p.code))) ∧ Below w.heap.size w w'
  obtain ⟨W1, hW1⟩ : ∃ W1, W1 = w.alloc (.cells #[.string (strOf p.nm), .int .i64 p.ps, .int .i64 p.rg, vc, vk, vp] 38) := ⟨_, rfl⟩
  have HX1 : Hid (SE w W1 w.heap.size [.string (strOf p.nm), .int .i64 p.ps, .int .i64 p.rg, vc, vk, vp]) := Lib.hid (by rw [hW1]; exact se_new w [.string (strOf p.nm), .int .i64 p.ps, .int .i64 p.rg, vc, vk, vp] _)
  have hW2 := hW1.symm
  generalize strOf (txt p.nm ++ le 1 p.ps ++ le 1 p.rg ++ encL encCap p.caps ++ encL encVal p.ks ++ encL buildL p.code) = s6 at *
  generalize strOf (txt p.nm ++ le 1 p.ps ++ le 1 p.rg ++ encL encCap p.caps ++ encL encVal p.ks) = s5 at *
  generalize strOf (txt p.nm ++ le 1 p.ps ++ le 1 p.rg ++ encL encCap p.caps) = s4 at *
  generalize strOf (txt p.nm ++ le 1 p.ps ++ le 1 p.rg) = s3 at *
  generalize strOf (txt p.nm ++ le 1 p.ps) = s2 at *
  generalize strOf (txt p.nm) = t0 at *
  generalize strOf (le 1 p.ps) = t1 at *
  generalize strOf (le 1 p.rg) = t2 at *
  generalize strOf (encL encCap p.caps) = t3 at *
  generalize strOf (encL encVal p.ks) = t4 at *
  generalize strOf (encL buildL p.code) = t5 at *
  generalize strOf p.nm = sn at *
  generalize p.ps = ps at *
  generalize p.rg = rg at *
  clear hW1 q1 q2 q3 q4 h1 h2 h3 l1 l2 l3 l4 l5 hk HF
  go_enter Tryd.func23, Tryd.ntmps23
  go_wp2_with fail
  have h0 := SE.drew HX1.out
  have h1 := HX1.out
  go_region_held3 (fun W => W.cell? ⟨w.heap.size, 0, none⟩ = some (.string sn) ∧ W.cell? ⟨w.heap.size, 1, none⟩ = some (.int .i64 ps) ∧ W.cell? ⟨w.heap.size, 2, none⟩ = some (.int .i64 rg) ∧ W.cell? ⟨w.heap.size, 5, none⟩ = some (vp) ∧ W.cell? ⟨w.heap.size, 4, none⟩ = some (vk) ∧ W.cell? ⟨w.heap.size, 3, none⟩ = some (vc)) (first | exact pr_cells (by assumption) | go_keep) (first
    | (go_at_call 18; (with_reducible refine (T1.out _).mono ?_); rintro e W4 ⟨rfl, hb⟩; have hq := SE.later (b := w.heap.size) (cs := [.string sn, .int .i64 ps, .int .i64 rg, vc, vk, vp]) (by assumption) hb; clear hb)
    | (go_at_call 19; (with_reducible refine (N1.out _).mono ?_); rintro e W4 ⟨rfl, hb⟩; have hq := SE.later (b := w.heap.size) (cs := [.string sn, .int .i64 ps, .int .i64 rg, vc, vk, vp]) (by assumption) hb; clear hb)
    | (go_at_call 19; (with_reducible refine (N2.out _).mono ?_); rintro e W4 ⟨rfl, hb⟩; have hq := SE.later (b := w.heap.size) (cs := [.string sn, .int .i64 ps, .int .i64 rg, vc, vk, vp]) (by assumption) hb; clear hb)
    | (go_at_call 48; (with_reducible refine (LC.out _ (SE.below (b := w.heap.size) (cs := [.string sn, .int .i64 ps, .int .i64 rg, vc, vk, vp]) (by assumption))).mono ?_); rintro e W4 ⟨rfl, hb⟩; have hq := SE.later (b := w.heap.size) (cs := [.string sn, .int .i64 ps, .int .i64 rg, vc, vk, vp]) (by assumption) hb; clear hb)
    | (go_at_call 50; (with_reducible refine (LK.out _ (SE.below (b := w.heap.size) (cs := [.string sn, .int .i64 ps, .int .i64 rg, vc, vk, vp]) (by assumption))).mono ?_); rintro e W4 ⟨rfl, hb⟩; have hq := SE.later (b := w.heap.size) (cs := [.string sn, .int .i64 ps, .int .i64 rg, vc, vk, vp]) (by assumption) hb; clear hb)
    | (go_at_call 52; (with_reducible refine (LI.out _ (SE.below (b := w.heap.size) (cs := [.string sn, .int .i64 ps, .int .i64 rg, vc, vk, vp]) (by assumption))).mono ?_); rintro e W4 ⟨rfl, hb⟩; have hq := SE.later (b := w.heap.size) (cs := [.string sn, .int .i64 ps, .int .i64 rg, vc, vk, vp]) (by assumption) hb; clear hb))
  go_wp2
  go_ret
  exact ⟨rfl, SE.below (b := w.heap.size) (cs := [.string sn, .int .i64 ps, .int .i64 rg, vc, vk, vp]) (by assumption)⟩

theorem un_cells {sn : ByteArray} {ver fu : Int} {vu vp : Value} {w W : World} {b : Nat} (h : SE w W b [.string sn, .int .i64 ver, vu, .int .i64 fu, vp]) : W.cell? ⟨b, 0, none⟩ = some (.string sn) ∧ W.cell? ⟨b, 1, none⟩ = some (.int .i64 ver) ∧ W.cell? ⟨b, 2, none⟩ = some (vu) ∧ W.cell? ⟨b, 3, none⟩ = some (.int .i64 fu) ∧ W.cell? ⟨b, 4, none⟩ = some (vp) := ⟨h.el.at 0 _ rfl, h.el.at 1 _ rfl, h.el.at 2 _ rfl, h.el.at 3 _ rfl, h.el.at 4 _ rfl⟩
theorem u_info (cs : List Value) (h : cs.length = 5) : (Tryd.prog.info? 25).map (·.size) = some cs.length := by rw [h]; kernel_rfl
/-- What Build answers, as a value. -/
def ansB (p : List UInt8 × Int) : Value := .tuple #[.string (strOf p.1), .int .i64 p.2]
set_option maxHeartbeats 4000000 in
set_option maxRecDepth 100000 in
theorem ubuild_any {cs : List Value} {u : Un} (w : World) (hu : UC X w cs u) (hs : SmU u) (HF : HasF w) : Calls Tryd.prog 10 #[.agg cs.toArray] w fun e w' => e = .returned (ansB (buildU u)) ∧ Below w.heap.size w w' := by
  obtain ⟨W1, hW1⟩ : ∃ W1, W1 = w.alloc (.cells cs.toArray 25) := ⟨_, rfl⟩
  have HB1 : Hid (Below w.heap.size w W1) := Lib.hid (by rw [hW1]; exact (Below.refl _ _).alloc (Nat.le_refl _) _)
  have RT := Lib.hid (uright_any W1 (hu.later HB1.out) hs (HF.later HB1.out))
  have HX1 : Hid (SE w W1 w.heap.size cs) := Lib.hid (by rw [hW1]; exact se_new w cs _)
  have hW2 := hW1.symm
  have HFW := Lib.hid HF
  obtain ⟨vu, vp, hcs, h1, css, h2, h3⟩ := hu
  have HI := Lib.hid (u_info cs (by rw [hcs]; rfl))
  cases hr : unB u with
  | false =>
    rw [hr] at RT
    rw [show buildU u = ([], 4) by unfold buildU; rw [hr]; rfl]
    show Calls _ _ _ w fun e w' => e = .returned (.tuple #[.string ⟨#[]⟩, .int .i64 4]) ∧ _
    clear hW1 HF hs hcs h1 h2 h3 hr
    go_enter Tryd.func10, Tryd.ntmps10
    go_wp2_with (refine wpList_load_mid rfl 25 (.tmp 1) rfl w.heap.size 0 rfl cs _ HX1.out.el.cells Tryd.underlying25 rfl HI.out ?_)
    refine RT.out.mono ?_
    rintro e W2 ⟨rfl, hb⟩
    have HB2 := Lib.hid (chain2 HB1.out hb)
    clear hb RT
    go_wp2
    go_ret2
    exact ⟨rfl, HB2.out⟩
  | true =>
    rw [hr] at RT
    rw [show buildU u = (encUn u, 0) by unfold buildU; rw [hr]; rfl]
    obtain ⟨k1, k2, k3, k4, k5⟩ := un_parts hr
    have l1 := name_len k1
    have l2 := uses_len hr
    have l3 := prs_len hr
    have hok := un_ok hr
    have T1 := Lib.hid (fun W => text_row u.nm W (by omega))
    have N1 := Lib.hid (fun W => num4 u.ver (by omega) (by omega) W)
    have N2 := Lib.hid (fun W => num1 u.funs k5.1 (by omega) W)
    have LU := Lib.hid (fun (W : World) (hb : Below w.heap.size w W) => lists_us (l := u.uses) encUse enters_useBytes (Row.later h1 hb) (us_three _) (us_ones _) (List.length_map _) (by omega) (by omega) (fun i cs x e1 e2 W' _ => by rw [map_at e1 e2]; exact useBytes_any x W' (k3.2 x (mem_at e2))))
    have LP := Lib.hid (fun (W : World) (hb : Below w.heap.size w W) => lists_pr (l := u.prs) encPr enters_protoBytes (Row.later h2 hb) h3.six h3.ones h3.len (by omega) (by omega) (fun i cs x e1 e2 W' hb' => protoBytes_any W' ((h3.at' i cs x e1 e2).later (chain2 hb hb')) (hok x (mem_at e2)) (HFW.out.later (chain2 hb hb'))))
    have lm : magic.length = 4 := rfl
    have p1 := fun W => sum_run (magic) (txt u.nm) (by simp only [txt_len, lm]; omega) W
    have p2 := fun W => sum_run (magic ++ txt u.nm) (le 4 u.ver) (by simp only [List.length_append, txt_len, le_length, lm]; omega) W
    have p3 := fun W => sum_run (magic ++ txt u.nm ++ le 4 u.ver) (encL encUse u.uses) (by simp only [List.length_append, txt_len, le_length, lm]; omega) W
    have p4 := fun W => sum_run (magic ++ txt u.nm ++ le 4 u.ver ++ encL encUse u.uses) (le 1 u.funs) (by simp only [List.length_append, txt_len, le_length, lm]; omega) W
    have p5 := fun W => sum_run (magic ++ txt u.nm ++ le 4 u.ver ++ encL encUse u.uses ++ le 1 u.funs) (encL encPr u.prs) (by simp only [List.length_append, txt_len, le_length, lm]; omega) W
    have hmg : strOf magic = ⟨#[67, 72, 82, 89]⟩ := rfl
    show Calls _ _ _ w fun e w' => e = .returned (.tuple #[.string (strOf (magic ++ txt u.nm ++ le 4 u.ver ++ encL encUse u.uses ++ le 1 u.funs ++ encL encPr u.prs)), .int .i64 0]) ∧ _
    rw [hmg] at p1
    generalize strOf (magic ++ txt u.nm ++ le 4 u.ver ++ encL encUse u.uses ++ le 1 u.funs ++ encL encPr u.prs) = s6 at *
    generalize strOf (magic ++ txt u.nm ++ le 4 u.ver ++ encL encUse u.uses ++ le 1 u.funs) = s5 at *
    generalize strOf (magic ++ txt u.nm ++ le 4 u.ver ++ encL encUse u.uses) = s4 at *
    generalize strOf (magic ++ txt u.nm ++ le 4 u.ver) = s3 at *
    generalize strOf (magic ++ txt u.nm) = s2 at *
    generalize strOf (txt u.nm) = t1 at *
    generalize strOf (le 4 u.ver) = t2 at *
    generalize strOf (encL encUse u.uses) = t3 at *
    generalize strOf (le 1 u.funs) = t4 at *
    generalize strOf (encL encPr u.prs) = t5 at *
    have HX1' : Hid (SE w W1 w.heap.size [.string (strOf u.nm), .int .i64 u.ver, vu, .int .i64 u.funs, vp]) := Lib.hid (by rw [← hcs]; exact HX1.out)
    generalize strOf u.nm = sn at *
    generalize u.ver = ver at *
    generalize u.funs = fu at *
    clear hW1 HF hs h1 h2 h3 hr k1 k2 k3 k4 k5 l1 l2 l3 hok hcs hmg lm
    go_enter Tryd.func10, Tryd.ntmps10
    go_wp2_with (refine wpList_load_mid rfl 25 (.tmp 1) rfl w.heap.size 0 rfl cs _ HX1.out.el.cells Tryd.underlying25 rfl HI.out ?_)
    refine RT.out.mono ?_
    rintro e W2 ⟨rfl, hb⟩
    have HX2 := Lib.hid (HX1'.out.later hb)
    clear hb RT HX1 HX1' HI
    go_wp2_with fail
    have h0 := SE.drew HX2.out
    have h1 := HX2.out
    go_region_held3 (fun W => W.cell? ⟨w.heap.size, 0, none⟩ = some (.string sn) ∧ W.cell? ⟨w.heap.size, 1, none⟩ = some (.int .i64 ver) ∧ W.cell? ⟨w.heap.size, 2, none⟩ = some (vu) ∧ W.cell? ⟨w.heap.size, 3, none⟩ = some (.int .i64 fu) ∧ W.cell? ⟨w.heap.size, 4, none⟩ = some (vp)) (first | exact un_cells (by assumption) | go_keep) (first
      | (go_at_call 18; (with_reducible refine (T1.out _).mono ?_); rintro e W4 ⟨rfl, hb⟩; have hq := SE.later (b := w.heap.size) (cs := [.string sn, .int .i64 ver, vu, .int .i64 fu, vp]) (by assumption) hb; clear hb)
      | (go_at_call 19; (with_reducible refine (N1.out _).mono ?_); rintro e W4 ⟨rfl, hb⟩; have hq := SE.later (b := w.heap.size) (cs := [.string sn, .int .i64 ver, vu, .int .i64 fu, vp]) (by assumption) hb; clear hb)
      | (go_at_call 19; (with_reducible refine (N2.out _).mono ?_); rintro e W4 ⟨rfl, hb⟩; have hq := SE.later (b := w.heap.size) (cs := [.string sn, .int .i64 ver, vu, .int .i64 fu, vp]) (by assumption) hb; clear hb)
      | (go_at_call 20; (with_reducible refine (LU.out _ (SE.below (b := w.heap.size) (cs := [.string sn, .int .i64 ver, vu, .int .i64 fu, vp]) (by assumption))).mono ?_); rintro e W4 ⟨rfl, hb⟩; have hq := SE.later (b := w.heap.size) (cs := [.string sn, .int .i64 ver, vu, .int .i64 fu, vp]) (by assumption) hb; clear hb)
      | (go_at_call 22; (with_reducible refine (LP.out _ (SE.below (b := w.heap.size) (cs := [.string sn, .int .i64 ver, vu, .int .i64 fu, vp]) (by assumption))).mono ?_); rintro e W4 ⟨rfl, hb⟩; have hq := SE.later (b := w.heap.size) (cs := [.string sn, .int .i64 ver, vu, .int .i64 fu, vp]) (by assumption) hb; clear hb))
    go_wp2
    go_ret2
    exact ⟨rfl, SE.below (b := w.heap.size) (cs := [.string sn, .int .i64 ver, vu, .int .i64 fu, vp]) (by assumption)⟩

end Go.Proofs.YtmloljfnnkfkjaaDoor.Im

