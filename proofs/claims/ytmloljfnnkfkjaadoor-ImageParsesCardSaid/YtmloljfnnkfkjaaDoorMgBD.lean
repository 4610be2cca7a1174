/- The walk of the document's laid: its contract. No condition but those that each states. -/
import Derived.Test.YtmloljfnnkfkjaaDoorMgBC
import Derived.Test.YtmloljfnnkfkjaaDoorMgAP
namespace Go.Proofs.YtmloljfnnkfkjaaDoor.Im
open Go.RowKit Dk In
variable {X : Nat → Prop}

theorem rtext_row (l : List UInt8) (w : World) (h : l.length ≤ 20000) : Calls Tryd.prog 24 #[.string (strOf l)] w fun e w' => e = .returned (.string (strOf (txt l))) ∧ Below w.heap.size w w' := by
  have := rtext_any (strOf l) w (by rw [strOf_size]; omega)
  rw [strOf_size] at this
  have e : (⟨(Lib.leBytes 4 l.length).toArray⟩ : ByteArray) ++ strOf l = strOf (txt l) := strOf_append (Lib.leBytes 4 l.length) l
  rwa [e] at this
theorem rnum1 (n : Int) (h0 : 0 ≤ n) (h1 : n < 256) (w : World) : Calls Tryd.prog 25 #[.int .i64 n, .int .i64 1] w fun e w' => e = .returned (.string (strOf (le 1 n))) ∧ Below w.heap.size w w' := rnum_any n 1 w rfl (fits_small (k := 1) (.inl rfl) h0 h1)
theorem rnum2 (n : Int) (h0 : 0 ≤ n) (h1 : n < 65536) (w : World) : Calls Tryd.prog 25 #[.int .i64 n, .int .i64 2] w fun e w' => e = .returned (.string (strOf (le 2 n))) ∧ Below w.heap.size w w' := rnum_any n 2 w rfl (fits_small (k := 2) (.inr (.inl rfl)) h0 h1)
theorem rnum4 (n : Int) (h0 : 0 ≤ n) (h1 : n < 4294967296) (w : World) : Calls Tryd.prog 25 #[.int .i64 n, .int .i64 4] w fun e w' => e = .returned (.string (strOf (le 4 n))) ∧ Below w.heap.size w w' := rnum_any n 4 w rfl (fits_small (k := 4) (.inr (.inr rfl)) h0 h1)
theorem rnum8 (n : Int) (w : World) : Calls Tryd.prog 25 #[.int .i64 n, .int .i64 8] w fun e w' => e = .returned (.string (strOf (le 8 n))) ∧ Below w.heap.size w w' := rnum_any n 8 w rfl (fits_eight n)
/-- The first i of a list, laid down behind what is there. -/
def upto {α : Type} (A : List UInt8) (f : α → List UInt8) (l : List α) (i : Nat) : List UInt8 := A ++ (l.take i).flatMap f
theorem upto_zero {α : Type} (A : List UInt8) (f : α → List UInt8) (l : List α) : upto A f l 0 = A := by unfold upto; simp
theorem upto_all {α : Type} (A : List UInt8) (f : α → List UInt8) (l : List α) : upto A f l l.length = A ++ l.flatMap f := by unfold upto; rw [List.take_length]
theorem upto_succ {α : Type} (A : List UInt8) (f : α → List UInt8) {l : List α} {i : Nat} {x : α} (h : l[i]? = some x) : upto A f l (i + 1) = upto A f l i ++ f x := by
  obtain ⟨hi, rfl⟩ := List.getElem?_eq_some_iff.1 h
  unfold upto
  rw [List.take_succ_eq_append_getElem hi, List.flatMap_append, ← List.append_assoc]
  simp
theorem upto_len {α : Type} (A : List UInt8) (f : α → List UInt8) {l : List α} {K : Nat} (h : ∀ x ∈ l, (f x).length ≤ K) (i : Nat) (hi : i ≤ l.length) : (upto A f l i).length ≤ A.length + l.length * K := by
  unfold upto
  rw [List.length_append]
  have h1 := flatMap_len (f := f) (l := l.take i) (fun x hx => h x (List.mem_of_mem_take hx))
  rw [List.length_take, Nat.min_eq_left hi] at h1
  have h2 := Nat.mul_le_mul_right K hi
  omega
/-- An append, as the walk wants it. -/
theorem add_up (a b : List UInt8) (ha : a.length ≤ 1099511627776) (hb : b.length ≤ 1099511627776) : ∀ W : World, (Op.stringOp .add (strOf a) (strOf b)).run Tryd.prog W = .ok (.string (strOf (a ++ b))) W := fun W => sum_run a b (by omega) W

theorem lp_cells {sn : ByteArray} {ps rg : Int} {p3 p4 p5 : Option Addr} {n3 n4 n5 k3 k4 k5 : Nat} {w W : World} {b : Nat} (h : SE w W b [.string sn, .int .i64 ps, .int .i64 rg, .slice p3 n3 k3, .slice p4 n4 k4, .slice p5 n5 k5]) : W.cell? ⟨b, 0, none⟩ = some (.string sn) ∧ W.cell? ⟨b, 1, none⟩ = some (.int .i64 ps) ∧ W.cell? ⟨b, 2, none⟩ = some (.int .i64 rg) ∧ W.cell? ⟨b, 5, none⟩ = some (.slice p5 n5 k5) := ⟨h.el.at 0 _ rfl, h.el.at 1 _ rfl, h.el.at 2 _ rfl, h.el.at 5 _ rfl⟩
set_option maxHeartbeats 4000000 in
set_option maxRecDepth 100000 in
theorem laid_any {cs : List Value} {p : Pr} (w : World) (hp : PC X w cs p) (hk : PrOk p) : Calls Tryd.prog 26 #[.agg cs.toArray] w fun e w' => e = .returned (.string (strOf (encPr p))) ∧ Below w.heap.size w w' := by
  obtain ⟨vc, vk, vp, rfl, h1, h2, h3⟩ := hp
  obtain ⟨p3, k3, hv3⟩ := Row.form h1
  obtain ⟨p4, k4, hv4⟩ := Row.form h2
  obtain ⟨p5, k5, hv5⟩ := Row.form h3
  rw [List.length_map] at hv3 hv4 hv5
  subst hv3 hv4 hv5
  have V3 := Lib.hid (Rw.el (Z := 4) h1 (fun _ => rfl)).2
  have V4 := Lib.hid (Rw.el (Z := 3) h2 (fun _ => rfl)).2
  have V5 := Lib.hid (Rw.el (Z := 2) h3 (fun _ => rfl)).2
  obtain ⟨q1, q2, q3, q4⟩ := hk.parts
  have l4 := hk.nm
  have l5 := hk.capn
  have HCAP := Lib.hid hk.cap
  have HVAL := Lib.hid q3.2
  have HINS := Lib.hid q4.2
  obtain ⟨nm, ps, rg, code, ks, caps⟩ := p
  simp only at q1 q2 q3 q4 l4 l5 HCAP HVAL HINS V3 V4 V5
  have T1 := Lib.hid (fun W => rtext_row nm W (by omega))
  have N1 := Lib.hid (fun W => rnum1 ps q1.1 (by omega) W)
  have N2 := Lib.hid (fun W => rnum1 rg q2.1 (by omega) W)
  have N5 := Lib.hid (fun W => rnum2 (caps.length : Int) (by omega) (by omega) W)
  have N4 := Lib.hid (fun W => rnum2 (ks.length : Int) (by omega) (by omega) W)
  have N3 := Lib.hid (fun W => rnum2 (code.length : Int) (by omega) (by omega) W)
  obtain ⟨A0, hA0⟩ : ∃ A0, A0 = txt nm ++ le 1 ps ++ le 1 rg ++ le 2 (caps.length : Int) := ⟨_, rfl⟩
  have hA0l : A0.length ≤ 24 := by rw [hA0]; simp only [List.length_append, txt_len, le_length]; omega
  have p1 := add_up (txt nm) (le 1 ps) (by rw [txt_len]; omega) (by rw [le_length]; omega)
  have p2 := add_up (txt nm ++ le 1 ps) (le 1 rg) (by simp only [List.length_append, txt_len, le_length]; omega) (by rw [le_length]; omega)
  have p3' := add_up (txt nm ++ le 1 ps ++ le 1 rg) (le 2 (caps.length : Int)) (by simp only [List.length_append, txt_len, le_length]; omega) (by rw [le_length]; omega)
  rw [← hA0] at p3'
  have L1 := Lib.hid (fun i hi => upto_len A0 encCap (l := caps) (K := 2) (fun x _ => encCap_len x) i hi)
  have hB : (A0 ++ caps.flatMap encCap).length ≤ 600 := by
    have := flatMap_len (f := encCap) (l := caps) (fun x _ => encCap_len x)
    rw [List.length_append]; omega
  obtain ⟨A1, hA1⟩ : ∃ A1, A1 = A0 ++ caps.flatMap encCap ++ le 2 (ks.length : Int) := ⟨_, rfl⟩
  have hA1l : A1.length ≤ 602 := by rw [hA1, List.length_append, le_length]; omega
  have HP4 : Hid (∀ W : World, (Op.stringOp .add (strOf (upto A0 encCap caps caps.length)) (strOf (le 2 (ks.length : Int)))).run Tryd.prog W = .ok (.string (strOf A1)) W) := Lib.hid (by rw [upto_all, hA1]; exact add_up _ _ (by omega) (by rw [le_length]; omega))
  have L2 := Lib.hid (fun i hi => upto_len A1 encVal (l := ks) (K := 1029) (fun x hx => encVal_len (q3.2 x hx)) i hi)
  have hC : (A1 ++ ks.flatMap encVal).length ≤ 300000 := by
    have := flatMap_len (f := encVal) (l := ks) (fun x hx => encVal_len (q3.2 x hx))
    rw [List.length_append]; omega
  obtain ⟨A2, hA2⟩ : ∃ A2, A2 = A1 ++ ks.flatMap encVal ++ le 2 (code.length : Int) := ⟨_, rfl⟩
  have hA2l : A2.length ≤ 300002 := by rw [hA2, List.length_append, le_length]; omega
  have HP3 : Hid (∀ W : World, (Op.stringOp .add (strOf (upto A1 encVal ks ks.length)) (strOf (le 2 (code.length : Int)))).run Tryd.prog W = .ok (.string (strOf A2)) W) := Lib.hid (by rw [upto_all, hA2]; exact add_up _ _ (by omega) (by rw [le_length]; omega))
  have L3 := Lib.hid (fun i hi => upto_len A2 buildL (l := code) (K := 4) (fun x _ => Nat.le_refl 4) i hi)
  have HE : Hid (encPr ⟨nm, ps, rg, code, ks, caps⟩ = upto A2 buildL code code.length) := Lib.hid (by
    rw [upto_all, hA2, hA1, hA0]
    unfold encPr encL
    simp only [List.append_assoc])
  have HL1 : Hid (∀ i, i ≤ caps.length → (upto A0 encCap caps i).length ≤ 600) := Lib.hid (fun i hi => by have := L1.out i hi; omega)
  have HL2 : Hid (∀ i, i ≤ ks.length → (upto A1 encVal ks i).length ≤ 300000) := Lib.hid (fun i hi => by have := L2.out i hi; omega)
  have HL3 : Hid (∀ i, i ≤ code.length → (upto A2 buildL code i).length ≤ 400000) := Lib.hid (fun i hi => by have := L3.out i hi; omega)
  have HZ0 : Hid (upto A0 encCap caps 0 = A0) := Lib.hid (upto_zero _ _ _)
  have HZ1 : Hid (upto A1 encVal ks 0 = A1) := Lib.hid (upto_zero _ _ _)
  have HZ2 : Hid (upto A2 buildL code 0 = A2) := Lib.hid (upto_zero _ _ _)
  obtain ⟨E, hEE⟩ : ∃ E, E = encPr ⟨nm, ps, rg, code, ks, caps⟩ := ⟨_, rfl⟩
  show Calls _ _ #[.agg #[.string (strOf nm), .int .i64 ps, .int .i64 rg, .slice p3 code.length k3, .slice p4 ks.length k4, .slice p5 caps.length k5]] w fun e w' => e = .returned (.string (strOf (encPr ⟨nm, ps, rg, code, ks, caps⟩))) ∧ Below w.heap.size w w'
  rw [← hEE]
  rw [← hEE] at HE
  have HB3 : Hid (code.length ≤ 8000) := Lib.hid q4.1
  have HB4 : Hid (ks.length ≤ 200) := Lib.hid q3.1
  have HB5 : Hid (caps.length ≤ 255) := Lib.hid l5
  obtain ⟨n3, hn3⟩ : ∃ n, n = code.length := ⟨_, rfl⟩
  obtain ⟨n4, hn4⟩ : ∃ n, n = ks.length := ⟨_, rfl⟩
  obtain ⟨n5, hn5⟩ : ∃ n, n = caps.length := ⟨_, rfl⟩
  rw [← hn3] at HE HL3 N3 HP3 HB3 ⊢
  rw [← hn4] at HL2 N4 HP4 HP3 HB4 ⊢
  rw [← hn5] at p3' HL1 N5 HP4 HB5 ⊢
  have HN3 := Lib.hid hn3
  have HN4 := Lib.hid hn4
  have HN5 := Lib.hid hn5
  obtain ⟨W1, hW1⟩ : ∃ W1, W1 = w.alloc (.cells #[.string (strOf nm), .int .i64 ps, .int .i64 rg, .slice p3 n3 k3, .slice p4 n4 k4, .slice p5 n5 k5] 38) := ⟨_, rfl⟩
  have HX1 : Hid (SE w W1 w.heap.size [.string (strOf nm), .int .i64 ps, .int .i64 rg, .slice p3 n3 k3, .slice p4 n4 k4, .slice p5 n5 k5]) := Lib.hid (by rw [hW1]; exact se_new w [.string (strOf nm), .int .i64 ps, .int .i64 rg, .slice p3 n3 k3, .slice p4 n4 k4, .slice p5 n5 k5] _)
  have hW2 := hW1.symm
  generalize strOf (txt nm ++ le 1 ps ++ le 1 rg) = s2 at *
  generalize strOf (txt nm ++ le 1 ps) = s1 at *
  generalize strOf (txt nm) = t0 at *
  generalize strOf (le 1 ps) = t1 at *
  generalize strOf (le 1 rg) = t2 at *
  generalize strOf (le 2 (n5 : Int)) = t5 at *
  generalize strOf (le 2 (n4 : Int)) = t4 at *
  generalize strOf (le 2 (n3 : Int)) = t3 at *
  generalize strOf nm = sn at *
  clear hW1 h1 h2 h3 hn3 hn4 hn5 hk q1 q2 q3 q4 l4 l5 hA0 hA1 hA2 hA0l hA1l hA2l hB hC hEE L1 L2 L3
  go_enter Tryd.func26, Tryd.ntmps26
  go_wp2_with fail
  have h0 := SE.drew HX1.out
  have h1 := HX1.out
  go_region_held3 (fun W => W.cell? ⟨w.heap.size, 0, none⟩ = some (.string sn) ∧ W.cell? ⟨w.heap.size, 1, none⟩ = some (.int .i64 ps) ∧ W.cell? ⟨w.heap.size, 2, none⟩ = some (.int .i64 rg) ∧ W.cell? ⟨w.heap.size, 5, none⟩ = some (.slice p5 n5 k5)) (first | exact lp_cells (by assumption) | go_keep) (first
    | (go_at_call 24; (with_reducible refine (T1.out _).mono ?_); rintro e W4 ⟨rfl, hb⟩; have hq := SE.later (b := w.heap.size) (cs := [.string sn, .int .i64 ps, .int .i64 rg, .slice p3 n3 k3, .slice p4 n4 k4, .slice p5 n5 k5]) (by assumption) hb; clear hb)
    | (go_at_call 25; (with_reducible refine (N1.out _).mono ?_); rintro e W4 ⟨rfl, hb⟩; have hq := SE.later (b := w.heap.size) (cs := [.string sn, .int .i64 ps, .int .i64 rg, .slice p3 n3 k3, .slice p4 n4 k4, .slice p5 n5 k5]) (by assumption) hb; clear hb)
    | (go_at_call 25; (with_reducible refine (N2.out _).mono ?_); rintro e W4 ⟨rfl, hb⟩; have hq := SE.later (b := w.heap.size) (cs := [.string sn, .int .i64 ps, .int .i64 rg, .slice p3 n3 k3, .slice p4 n4 k4, .slice p5 n5 k5]) (by assumption) hb; clear hb)
    | (go_at_call 25; (with_reducible refine (N5.out _).mono ?_); rintro e W4 ⟨rfl, hb⟩; have hq := SE.later (b := w.heap.size) (cs := [.string sn, .int .i64 ps, .int .i64 rg, .slice p3 n3 k3, .slice p4 n4 k4, .slice p5 n5 k5]) (by assumption) hb; clear hb))
  have HX2 := Lib.hid (‹SE w W4 w.heap.size [.string sn, .int .i64 ps, .int .i64 rg, .slice p3 n3 k3, .slice p4 n4 k4, .slice p5 n5 k5]›)
  clear h0 h1 T1 N1 N2 N5 p1 p2 p3'
  go_wp2
  go_loopw [3, 4] (fun vs vi wr => ∃ i : Nat, i ≤ n5 ∧ vi = .int .i64 (i : Int) ∧ vs = .string (strOf (upto A0 encCap caps i)) ∧ Hid (SE w wr w.heap.size [.string sn, .int .i64 ps, .int .i64 rg, .slice p3 n3 k3, .slice p4 n4 k4, .slice p5 n5 k5])) (fun _ vi _ => n5 - (intOf vi).toNat)
  case atStart => exact ⟨0, Nat.zero_le _, rfl, by rw [HZ0.out], HX2⟩
  case round =>
    clear HX2
    obtain ⟨i, hi, rfl, rfl, HX⟩ := hrel
    have ck : wr.cell? ⟨w.heap.size, 5, none⟩ = some (.slice p5 n5 k5) := HX.out.el.at 5 _ rfl
    by_cases hlt : i < n5
    · obtain ⟨x, hx⟩ : ∃ x, caps[i]? = some x := ⟨_, List.getElem?_eq_getElem (by rw [← HN5.out]; exact hlt)⟩
      obtain ⟨g, o, hq, hg, hr0⟩ := V5.out i x hx
      subst hq
      have z0 : (0 : Int) ≤ (i : Int) := by omega
      have z1 : (i : Int) < (n5 : Int) := by omega
      have HU := Lib.hid (upto_succ A0 encCap hx)
      have hla := HL1.out i hi
      have hnb := HB5.out
      have NA := Lib.hid (fun W => rnum1 (if x.up then 1 else 0) (by split <;> decide) (by split <;> decide) W)
      have hci := inB_iff.1 (HCAP.out x (mem_at hx))
      have NB := Lib.hid (fun W => rnum1 x.ix hci.1 (by omega) W)
      have HPC : Hid (∀ W, SE w W w.heap.size [.string sn, .int .i64 ps, .int .i64 rg, .slice p3 n3 k3, .slice p4 n4 k4, .slice (some ⟨g, o, none⟩) n5 k5] → (W.cell? ⟨w.heap.size, 5, none⟩ = some (.slice (some ⟨g, o, none⟩) n5 k5) ∧ W.cell? ⟨g, o + i * 2 + 1, none⟩ = some (.int .i64 x.ix)) ∧ W.cell? ⟨g, o + i * 2, none⟩ = some (.bool x.up)) := Lib.hid (fun W h => by
        have hr := Dk.rangeAt_block hr0 (h.below.block g hg)
        exact ⟨⟨h.el.at 5 _ rfl, hr 1 _ rfl⟩, hr 0 _ rfl⟩)
      have HKP := Lib.hid (fun W h => (HPC.out W h).1)
      have ce := (HPC.out wr HX.out).2
      have pa := add_up (upto A0 encCap caps i) (le 1 (if x.up then 1 else 0)) (by omega) (by rw [le_length]; omega)
      have pb := add_up (upto A0 encCap caps i ++ le 1 (if x.up then 1 else 0)) (le 1 x.ix) (by rw [List.length_append, le_length]; omega) (by rw [le_length]; omega)
      have HU2 : Hid (upto A0 encCap caps i ++ le 1 (if x.up then 1 else 0) ++ le 1 x.ix = upto A0 encCap caps (i + 1)) := Lib.hid (by rw [HU.out]; unfold encCap; rw [List.append_assoc])
      rw [HU2.out] at pb
      clear HU HU2 HPC hx hr0 hci hla
      obtain ⟨up, ix⟩ := x
      simp only at NA NB HKP ce pa pb
      cases up with
      | false =>
        replace NA : Hid (∀ W, Calls Tryd.prog 25 #[.int .i64 0, .int .i64 1] W fun e w' => e = .returned (.string (strOf (le 1 0))) ∧ Below W.heap.size W w') := NA
        replace pa : ∀ W : World, (Op.stringOp .add (strOf (upto A0 encCap caps i)) (strOf (le 1 0))).run Tryd.prog W = .ok (.string (strOf (upto A0 encCap caps i ++ le 1 0))) W := pa
        replace pb : ∀ W : World, (Op.stringOp .add (strOf (upto A0 encCap caps i ++ le 1 0)) (strOf (le 1 ix))).run Tryd.prog W = .ok (.string (strOf (upto A0 encCap caps (i + 1)))) W := pb
        generalize strOf (le 1 ix) = ti at *
        generalize strOf (le 1 0) = tu at *
        generalize strOf (upto A0 encCap caps i ++ le 1 0) = sm at *
        go_wp2_with fail
        have h0 := SE.drew HX.out
        have h1 := HX.out
        go_region_held3 (fun W => W.cell? ⟨w.heap.size, 5, none⟩ = some (.slice (some ⟨g, o, none⟩) n5 k5) ∧ W.cell? ⟨g, o + i * 2 + 1, none⟩ = some (.int .i64 ix)) (first | exact HKP.out _ (by assumption) | go_keep) (first
          | (go_at_call 25; (with_reducible refine (NA.out _).mono ?_); rintro e W4 ⟨rfl, hb⟩; have hq := SE.later (b := w.heap.size) (cs := [.string sn, .int .i64 ps, .int .i64 rg, .slice p3 n3 k3, .slice p4 n4 k4, .slice (some ⟨g, o, none⟩) n5 k5]) (by assumption) hb; clear hb)
          | (go_at_call 25; (with_reducible refine (NB.out _).mono ?_); rintro e W4 ⟨rfl, hb⟩; have hq := SE.later (b := w.heap.size) (cs := [.string sn, .int .i64 ps, .int .i64 rg, .slice p3 n3 k3, .slice p4 n4 k4, .slice (some ⟨g, o, none⟩) n5 k5]) (by assumption) hb; clear hb))
        have HX9 := Lib.hid (‹SE w W4 w.heap.size [.string sn, .int .i64 ps, .int .i64 rg, .slice p3 n3 k3, .slice p4 n4 k4, .slice (some ⟨g, o, none⟩) n5 k5]›)
        clear h0 h1
        go_wp2
        go_roundw
        case rel => exact ⟨i + 1, by omega, by go_num, rfl, HX9⟩
        case measure => simp [intOf]; omega
      | true =>
        replace NA : Hid (∀ W, Calls Tryd.prog 25 #[.int .i64 1, .int .i64 1] W fun e w' => e = .returned (.string (strOf (le 1 1))) ∧ Below W.heap.size W w') := NA
        replace pa : ∀ W : World, (Op.stringOp .add (strOf (upto A0 encCap caps i)) (strOf (le 1 1))).run Tryd.prog W = .ok (.string (strOf (upto A0 encCap caps i ++ le 1 1))) W := pa
        replace pb : ∀ W : World, (Op.stringOp .add (strOf (upto A0 encCap caps i ++ le 1 1)) (strOf (le 1 ix))).run Tryd.prog W = .ok (.string (strOf (upto A0 encCap caps (i + 1)))) W := pb
        generalize strOf (le 1 ix) = ti at *
        generalize strOf (le 1 1) = tu at *
        generalize strOf (upto A0 encCap caps i ++ le 1 1) = sm at *
        go_wp2_with fail
        have h0 := SE.drew HX.out
        have h1 := HX.out
        go_region_held3 (fun W => W.cell? ⟨w.heap.size, 5, none⟩ = some (.slice (some ⟨g, o, none⟩) n5 k5) ∧ W.cell? ⟨g, o + i * 2 + 1, none⟩ = some (.int .i64 ix)) (first | exact HKP.out _ (by assumption) | go_keep) (first
          | (go_at_call 25; (with_reducible refine (NA.out _).mono ?_); rintro e W4 ⟨rfl, hb⟩; have hq := SE.later (b := w.heap.size) (cs := [.string sn, .int .i64 ps, .int .i64 rg, .slice p3 n3 k3, .slice p4 n4 k4, .slice (some ⟨g, o, none⟩) n5 k5]) (by assumption) hb; clear hb)
          | (go_at_call 25; (with_reducible refine (NB.out _).mono ?_); rintro e W4 ⟨rfl, hb⟩; have hq := SE.later (b := w.heap.size) (cs := [.string sn, .int .i64 ps, .int .i64 rg, .slice p3 n3 k3, .slice p4 n4 k4, .slice (some ⟨g, o, none⟩) n5 k5]) (by assumption) hb; clear hb))
        have HX9 := Lib.hid (‹SE w W4 w.heap.size [.string sn, .int .i64 ps, .int .i64 rg, .slice p3 n3 k3, .slice p4 n4 k4, .slice (some ⟨g, o, none⟩) n5 k5]›)
        clear h0 h1
        go_wp2
        go_roundw
        case rel => exact ⟨i + 1, by omega, by go_num, rfl, HX9⟩
        case measure => simp [intOf]; omega
    · obtain rfl : n5 = i := by omega
      have HX95 := Lib.hid HX.out
      clear hi
      have cz : wr.cell? ⟨w.heap.size, 4, none⟩ = some (.slice p4 n4 k4) := HX95.out.el.at 4 _ rfl
      go_wp2_with fail
      refine (N4.out _).mono ?_
      rintro e W5 ⟨rfl, hb⟩
      have HX30 := Lib.hid (HX95.out.later hb)
      clear hb HX95
      have pz := HP4.out
      go_wp2
      clear pz
      go_loopw [3, 6] (fun vs vi wr => ∃ i : Nat, i ≤ n4 ∧ vi = .int .i64 (i : Int) ∧ vs = .string (strOf (upto A1 encVal ks i)) ∧ Hid (SE w wr w.heap.size [.string sn, .int .i64 ps, .int .i64 rg, .slice p3 n3 k3, .slice p4 n4 k4, .slice p5 n5 k5])) (fun _ vi _ => n4 - (intOf vi).toNat)
      case atStart => exact ⟨0, Nat.zero_le _, rfl, by rw [HZ1.out], HX30⟩
      case round =>
        clear HX30
        obtain ⟨i, hi, rfl, rfl, HX⟩ := hrel
        have ck : wr.cell? ⟨w.heap.size, 4, none⟩ = some (.slice p4 n4 k4) := HX.out.el.at 4 _ rfl
        by_cases hlt : i < n4
        · obtain ⟨x, hx⟩ : ∃ x, ks[i]? = some x := ⟨_, List.getElem?_eq_getElem (by rw [← HN4.out]; exact hlt)⟩
          obtain ⟨g, o, hq, hg, hr0⟩ := V4.out i x hx
          subst hq
          have z0 : (0 : Int) ≤ (i : Int) := by omega
          have z1 : (i : Int) < (n4 : Int) := by omega
          have HU := Lib.hid (upto_succ A1 encVal hx)
          have hla := HL2.out i hi
          have hnb := HB4.out
          have HRG := Lib.hid (Dk.rangeAt_block hr0 (HX.out.below.block g hg))
          have hvb := HVAL.out x (mem_at hx)
          have HI := Lib.hid (v_info x)
          have HIA : Hid ((Tryd.prog.info? 45).map (·.size) = some x.cells.toArray.size) := Lib.hid HI.out
          have HO := Lib.hid (all_oneCell_toArray (vl_ones [x] x.cells (by simp)))
          have HP := Lib.hid (put_new wr #[.int .i64 0, .int .i64 0, .string ⟨#[]⟩] 45 x.cells rfl)
          have HT1 := Lib.hid HP.out.1
          have HP2 := Lib.hid HP.out.2
          obtain ⟨kd, nn, sv⟩ := x
          have hkk : 0 ≤ kd ∧ kd ≤ 2 ∧ (kd = 2 → sv.length ≤ 1024) := by
            unfold valB at hvb
            by_cases a0 : kd = 0
            · omega
            · by_cases a1 : kd = 1
              · omega
              · by_cases a2 : kd = 2
                · simp [a2] at hvb
                  exact ⟨by omega, by omega, fun _ => hvb.2⟩
                · simp [a0, a1, a2] at hvb
          obtain ⟨k0, k2, hsv⟩ := hkk
          have NK := Lib.hid (fun W => rnum1 kd k0 (by omega) W)
          have N8 := Lib.hid (fun W => rnum8 nn W)
          have pa := add_up (upto A1 encVal ks i) (le 1 kd) (by omega) (by rw [le_length]; omega)
          have HCE : Hid (Vl.cells ⟨kd, nn, sv⟩ = [.int .i64 kd, .int .i64 nn, .string (strOf sv)]) := Lib.hid rfl
          have HEV : Hid (encVal ⟨kd, nn, sv⟩ = if kd = 1 then le 1 kd ++ le 8 nn else if kd = 2 then le 1 kd ++ txt sv else le 1 kd) := Lib.hid rfl
          clear hx hr0 HP hvb k0 k2
          generalize Vl.cells ⟨kd, nn, sv⟩ = pc at *
          generalize encVal ⟨kd, nn, sv⟩ = ev at *
          by_cases h1 : kd = 1
          · have hev := HEV.out
            rw [if_pos h1] at hev
            have y1 : (kd == 1) = true := by simp [h1]
            have y2 : (kd == 2) = false := by simp [h1]
            have pb := add_up (upto A1 encVal ks i ++ le 1 kd) (le 8 nn) (by rw [List.length_append, le_length]; omega) (by rw [le_length]; omega)
            have HU2 : Hid (upto A1 encVal ks i ++ le 1 kd ++ le 8 nn = upto A1 encVal ks (i + 1)) := Lib.hid (by rw [HU.out, hev, List.append_assoc])
            rw [HU2.out] at pb
            generalize hsm : strOf (upto A1 encVal ks i ++ le 1 kd) = sm at *
            generalize strOf (le 1 kd) = tk at *
            generalize strOf (le 8 nn) = tv at *
            generalize strOf sv = ss at *
            clear HU HU2 hev HEV hsm h1 hla hsv 
            go_wp2_with (first
              | (refine wpList_load_mid rfl 45 (.tmp 68) rfl g (o + i * 3) rfl pc _ HRG.out Tryd.underlying45 rfl HI.out ?_)
              | (refine wpList_store_mid rfl 45 (.tmp 7) (.tmp 69) rfl wr.heap.size 0 pc.toArray rfl rfl HT1.out HIA.out HO.out ?_; generalize World.setCells _ _ _ _ = W8 at HP2 ⊢; have HE8 := Lib.hid (show El W8 wr.heap.size [.int .i64 kd, .int .i64 nn, .string ss] by rw [← HCE.out]; exact ⟨HP2.out.cells, HP2.out.lt⟩); have HX8 := Lib.hid (HX.out.later HP2.out.below); have d0 : W8.cell? ⟨wr.heap.size, 0, none⟩ = some (.int .i64 kd) := HE8.out.at 0 _ rfl; clear HP2))
            refine (NK.out _).mono ?_
            rintro e W9 ⟨rfl, hb⟩
            have HE9 := Lib.hid (HE8.out.later hb)
            have HX9 := Lib.hid (HX8.out.later hb)
            clear hb d0 NK
            have d0 : W9.cell? ⟨wr.heap.size, 0, none⟩ = some (.int .i64 kd) := HE9.out.at 0 _ rfl
            have d1 : W9.cell? ⟨wr.heap.size, 1, none⟩ = some (.int .i64 nn) := HE9.out.at 1 _ rfl
            go_wp2_with fail
            refine (N8.out _).mono ?_
            rintro e W10 ⟨rfl, hb⟩
            have HE10 := Lib.hid (HE9.out.later hb)
            have HX10 := Lib.hid (HX9.out.later hb)
            clear hb d0 d1 N8
            have d0 : W10.cell? ⟨wr.heap.size, 0, none⟩ = some (.int .i64 kd) := HE10.out.at 0 _ rfl
            go_wp2
            go_roundw
            case rel => exact ⟨i + 1, by omega, by go_num, rfl, HX10⟩
            case measure => simp [intOf]; omega
          · have hev := HEV.out
            rw [if_neg h1] at hev
            have y1 : (kd == 1) = false := by simp [h1]
            by_cases h2 : kd = 2
            · rw [if_pos h2] at hev
              have y2 : (kd == 2) = true := by simp [h2]
              have T2 := Lib.hid (fun W => rtext_row sv W (by have := hsv h2; omega))
              have pb := add_up (upto A1 encVal ks i ++ le 1 kd) (txt sv) (by rw [List.length_append, le_length]; omega) (by rw [txt_len]; have := hsv h2; omega)
              have HU2 : Hid (upto A1 encVal ks i ++ le 1 kd ++ txt sv = upto A1 encVal ks (i + 1)) := Lib.hid (by rw [HU.out, hev, List.append_assoc])
              rw [HU2.out] at pb
              generalize hsm : strOf (upto A1 encVal ks i ++ le 1 kd) = sm at *
              generalize strOf (le 1 kd) = tk at *
              generalize strOf (txt sv) = tv at *
              generalize strOf sv = ss at *
              clear HU HU2 hev HEV hsm h1 hla hsv h2 N8
              go_wp2_with (first
                | (refine wpList_load_mid rfl 45 (.tmp 68) rfl g (o + i * 3) rfl pc _ HRG.out Tryd.underlying45 rfl HI.out ?_)
                | (refine wpList_store_mid rfl 45 (.tmp 7) (.tmp 69) rfl wr.heap.size 0 pc.toArray rfl rfl HT1.out HIA.out HO.out ?_; generalize World.setCells _ _ _ _ = W8 at HP2 ⊢; have HE8 := Lib.hid (show El W8 wr.heap.size [.int .i64 kd, .int .i64 nn, .string ss] by rw [← HCE.out]; exact ⟨HP2.out.cells, HP2.out.lt⟩); have HX8 := Lib.hid (HX.out.later HP2.out.below); have d0 : W8.cell? ⟨wr.heap.size, 0, none⟩ = some (.int .i64 kd) := HE8.out.at 0 _ rfl; clear HP2))
              refine (NK.out _).mono ?_
              rintro e W9 ⟨rfl, hb⟩
              have HE9 := Lib.hid (HE8.out.later hb)
              have HX9 := Lib.hid (HX8.out.later hb)
              clear hb d0 NK
              have d0 : W9.cell? ⟨wr.heap.size, 0, none⟩ = some (.int .i64 kd) := HE9.out.at 0 _ rfl
              have d2 : W9.cell? ⟨wr.heap.size, 2, none⟩ = some (.string ss) := HE9.out.at 2 _ rfl
              go_wp2_with fail
              refine (T2.out _).mono ?_
              rintro e W10 ⟨rfl, hb⟩
              have HE10 := Lib.hid (HE9.out.later hb)
              have HX10 := Lib.hid (HX9.out.later hb)
              clear hb d0 d2 T2
              have d0 : W10.cell? ⟨wr.heap.size, 0, none⟩ = some (.int .i64 kd) := HE10.out.at 0 _ rfl
              go_wp2
              go_roundw
              case rel => exact ⟨i + 1, by omega, by go_num, rfl, HX10⟩
              case measure => simp [intOf]; omega
            · rw [if_neg h2] at hev
              have y2 : (kd == 2) = false := by simp [h2]
              have HU2 : Hid (upto A1 encVal ks i ++ le 1 kd = upto A1 encVal ks (i + 1)) := Lib.hid (by rw [HU.out, hev])
              rw [HU2.out] at pa
              generalize strOf (le 1 kd) = tk at *
              generalize strOf sv = ss at *
              clear HU HU2 hev HEV h1 h2 hla hsv N8
              go_wp2_with (first
                | (refine wpList_load_mid rfl 45 (.tmp 68) rfl g (o + i * 3) rfl pc _ HRG.out Tryd.underlying45 rfl HI.out ?_)
                | (refine wpList_store_mid rfl 45 (.tmp 7) (.tmp 69) rfl wr.heap.size 0 pc.toArray rfl rfl HT1.out HIA.out HO.out ?_; generalize World.setCells _ _ _ _ = W8 at HP2 ⊢; have HE8 := Lib.hid (show El W8 wr.heap.size [.int .i64 kd, .int .i64 nn, .string ss] by rw [← HCE.out]; exact ⟨HP2.out.cells, HP2.out.lt⟩); have HX8 := Lib.hid (HX.out.later HP2.out.below); have d0 : W8.cell? ⟨wr.heap.size, 0, none⟩ = some (.int .i64 kd) := HE8.out.at 0 _ rfl; clear HP2))
              refine (NK.out _).mono ?_
              rintro e W9 ⟨rfl, hb⟩
              have HE9 := Lib.hid (HE8.out.later hb)
              have HX9 := Lib.hid (HX8.out.later hb)
              clear hb d0 NK
              have d0 : W9.cell? ⟨wr.heap.size, 0, none⟩ = some (.int .i64 kd) := HE9.out.at 0 _ rfl
              go_wp2
              go_roundw
              case rel => exact ⟨i + 1, by omega, by go_num, rfl, HX9⟩
              case measure => simp [intOf]; omega
        · obtain rfl : n4 = i := by omega
          have HX94 := Lib.hid HX.out
          clear hi
          have cz : wr.cell? ⟨w.heap.size, 3, none⟩ = some (.slice p3 n3 k3) := HX94.out.el.at 3 _ rfl
          go_wp2_with fail
          refine (N3.out _).mono ?_
          rintro e W5 ⟨rfl, hb⟩
          have HX40 := Lib.hid (HX94.out.later hb)
          clear hb HX94
          have pz := HP3.out
          go_wp2
          clear pz
          go_loopw [3, 8] (fun vs vi wr => ∃ i : Nat, i ≤ n3 ∧ vi = .int .i64 (i : Int) ∧ vs = .string (strOf (upto A2 buildL code i)) ∧ Hid (SE w wr w.heap.size [.string sn, .int .i64 ps, .int .i64 rg, .slice p3 n3 k3, .slice p4 n4 k4, .slice p5 n5 k5])) (fun _ vi _ => n3 - (intOf vi).toNat)
          case atStart => exact ⟨0, Nat.zero_le _, rfl, by rw [HZ2.out], HX40⟩
          case round =>
            clear HX40
            obtain ⟨i, hi, rfl, rfl, HX⟩ := hrel
            have ck : wr.cell? ⟨w.heap.size, 3, none⟩ = some (.slice p3 n3 k3) := HX.out.el.at 3 _ rfl
            by_cases hlt : i < n3
            · obtain ⟨x, hx⟩ : ∃ x, code[i]? = some x := ⟨_, List.getElem?_eq_getElem (by rw [← HN3.out]; exact hlt)⟩
              obtain ⟨g, o, hq, hg, hr0⟩ := V3.out i x hx
              subst hq
              have z0 : (0 : Int) ≤ (i : Int) := by omega
              have z1 : (i : Int) < (n3 : Int) := by omega
              have HU := Lib.hid (upto_succ A2 buildL hx)
              have hla := HL3.out i hi
              have hnb := HB3.out
              have HRG := Lib.hid (Dk.rangeAt_block hr0 (HX.out.below.block g hg))
              have HIX := Lib.hid (i_info x)
              have hrb := HINS.out x (mem_at hx)
              have BA0 := rbuild_any x wr
              rw [if_pos hrb] at BA0
              have BA := Lib.hid BA0
              have pa := add_up (upto A2 buildL code i) (buildL x) (by omega) (by show 4 ≤ _; omega)
              rw [← HU.out] at pa
              clear hx hr0 hrb BA0 HU hla
              generalize strOf (buildL x) = tb at *
              generalize x.cells = pc at *
              go_wp2_with (refine wpList_load_mid rfl 89 (.tmp 108) rfl g (o + i * 4) rfl pc _ HRG.out Tryd.underlying89 rfl HIX.out ?_)
              refine BA.out.mono ?_
              rintro e W9 ⟨rfl, hb⟩
              have HX9 := Lib.hid (HX.out.later hb)
              clear hb BA
              go_wp2
              go_roundw
              case rel => exact ⟨i + 1, by omega, by go_num, rfl, HX9⟩
              case measure => simp [intOf]; omega
            · obtain rfl : n3 = i := by omega
              have HX93 := Lib.hid HX.out
              clear hi
              go_wp2
              go_ret
              exact ⟨by rw [HE.out]; rfl, HX93.out.below⟩

end Go.Proofs.YtmloljfnnkfkjaaDoor.Im

