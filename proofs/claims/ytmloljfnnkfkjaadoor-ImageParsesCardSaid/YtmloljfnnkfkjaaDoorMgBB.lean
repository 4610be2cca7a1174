/- The walks of the document's in, constant, num, proto: their contracts. No condition but those that each states. -/
import Derived.Test.YtmloljfnnkfkjaaDoorMgAT
import Derived.Test.YtmloljfnnkfkjaaDoorMgAN
import Derived.Test.YtmloljfnnkfkjaaDoorMgAO
import Derived.Test.YtmloljfnnkfkjaaDoorMgBA
namespace Go.Proofs.YtmloljfnnkfkjaaDoor.Im
open Go.RowKit Dk In
variable {X : Nat → Prop}

theorem in_any (n lo hi : Int) (w : World) : Calls Tryd.prog 36 #[.int .i64 n, .int .i64 lo, .int .i64 hi] w fun e w' => e = .returned (.bool (inB n lo hi)) ∧ w = w' := by
  unfold inB
  by_cases h0 : lo ≤ n
  · rw [decide_eq_true h0, Bool.true_and]
    have v0 : n ≥ lo := h0
    by_cases h1 : n ≤ hi
    · rw [decide_eq_true h1]
      go_enter Tryd.func36, Tryd.ntmps36
      go_wp2
      go_ret
      exact ⟨rfl, rfl⟩
    · rw [decide_eq_false h1]
      go_enter Tryd.func36, Tryd.ntmps36
      go_wp2
      go_ret
      exact ⟨rfl, rfl⟩
  · rw [decide_eq_false h0, Bool.false_and]
    have v0 : ¬n ≥ lo := h0
    go_enter Tryd.func36, Tryd.ntmps36
    go_wp2
    go_ret
    exact ⟨rfl, rfl⟩

set_option maxHeartbeats 1000000 in
set_option maxRecDepth 100000 in
theorem rconst_any (x : Vl) (w : World) : Calls Tryd.prog 67 #[.agg x.cells.toArray] w fun e w' => e = .returned (.bool (valB x)) ∧ Below w.heap.size w w' := by
  obtain ⟨W1, hW1⟩ : ∃ W1, W1 = w.alloc (.cells x.cells.toArray 45) := ⟨_, rfl⟩
  have HB1 : Hid (Below w.heap.size w W1) := Lib.hid (by rw [hW1]; exact (Below.refl _ _).alloc (Nat.le_refl _) _)
  have HX1 : Hid (El W1 w.heap.size x.cells) := Lib.hid (by rw [hW1]; exact el_new w _ _)
  obtain ⟨k, n, s⟩ := x
  replace HX1 : Hid (El W1 w.heap.size [.int .i64 k, .int .i64 n, .string (strOf s)]) := HX1
  have hW2 : w.alloc (.cells #[.int .i64 k, .int .i64 n, .string (strOf s)] 45) = W1 := hW1.symm
  show Calls _ _ #[.agg #[.int .i64 k, .int .i64 n, .string (strOf s)]] w fun e w' => e = .returned (.bool (valB ⟨k, n, s⟩)) ∧ Below w.heap.size w w'
  have c0 : W1.cell? ⟨w.heap.size, 0, none⟩ = some (.int .i64 k) := HX1.out.at 0 _ rfl
  have c1 : W1.cell? ⟨w.heap.size, 1, none⟩ = some (.int .i64 n) := HX1.out.at 1 _ rfl
  have c2 : W1.cell? ⟨w.heap.size, 2, none⟩ = some (.string (strOf s)) := HX1.out.at 2 _ rfl
  have es : (strOf s).toList.isEmpty = decide (s = []) := by
    rw [strOf_tl]
    cases s <;> rfl
  have esz : ((strOf s).size : Int) = (s.length : Int) := by rw [strOf_size]
  have HV : Hid (valB ⟨k, n, s⟩ = if k = 0 then decide (n = 0) && decide (s = []) else if k = 1 then decide (s = []) else if k = 2 then decide (n = 0) && decide (s.length ≤ 1024) else false) := Lib.hid rfl
  have e3 : decide (s.length ≤ 1024) = decide ((s.length : Int) ≤ 1024) := by rw [decide_eq_decide]; omega
  rw [e3, ← esz, ← es] at HV
  generalize valB ⟨k, n, s⟩ = R at *
  generalize strOf s = q at *
  clear hW1 es esz e3
  by_cases h0 : k = 0
  · have hv := HV.out
    rw [if_pos h0] at hv
    have z0 : (k == 0) = true := by simp [h0]
    clear HV
    have HH := Lib.hid h0
    clear h0
    by_cases h1 : n = 0
    · rw [decide_eq_true h1, Bool.true_and] at hv
      have z1 : (n == 0) = true := by simp [h1]
      subst hv
      have HH1 := Lib.hid h1
      clear h1
      go_enter Tryd.func67, Tryd.ntmps67
      go_wp2
      go_ret
      exact ⟨rfl, HB1.out⟩
    · rw [decide_eq_false h1, Bool.false_and] at hv
      have z1 : (n == 0) = false := by simp [h1]
      subst hv
      clear h1
      go_enter Tryd.func67, Tryd.ntmps67
      go_wp2
      go_ret
      exact ⟨rfl, HB1.out⟩
  · rw [if_neg h0] at HV
    have z0 : (k == 0) = false := by simp [h0]
    clear h0
    by_cases h0 : k = 1
    · have hv := HV.out
      rw [if_pos h0] at hv
      have z2 : (k == 1) = true := by simp [h0]
      clear HV h0
      subst hv
      go_enter Tryd.func67, Tryd.ntmps67
      go_wp2
      go_ret
      exact ⟨rfl, HB1.out⟩
    · rw [if_neg h0] at HV
      have z2 : (k == 1) = false := by simp [h0]
      clear h0
      by_cases h0 : k = 2
      · have hv := HV.out
        rw [if_pos h0] at hv
        have z3 : (k == 2) = true := by simp [h0]
        clear HV h0
        by_cases h1 : n = 0
        · rw [decide_eq_true h1, Bool.true_and] at hv
          have z1 : (n == 0) = true := by simp [h1]
          subst hv
          clear h1
          go_enter Tryd.func67, Tryd.ntmps67
          go_wp2
          go_ret
          exact ⟨rfl, HB1.out⟩
        · rw [decide_eq_false h1, Bool.false_and] at hv
          have z1 : (n == 0) = false := by simp [h1]
          subst hv
          clear h1
          go_enter Tryd.func67, Tryd.ntmps67
          go_wp2
          go_ret
          exact ⟨rfl, HB1.out⟩
      · have hv := HV.out
        rw [if_neg h0] at hv
        have z3 : (k == 2) = false := by simp [h0]
        clear HV h0
        subst hv
        go_enter Tryd.func67, Tryd.ntmps67
        go_wp2
        go_ret
        exact ⟨rfl, HB1.out⟩

theorem rnum_any (n k : Int) (w : World) (hk : wideB k = true) (hf : fitsB n k = true) : Calls Tryd.prog 25 #[.int .i64 n, .int .i64 k] w fun e w' => e = .returned (.string (strOf (le k.toNat n))) ∧ Below w.heap.size w w' := by
  have PT : Hid (Calls Tryd.prog 54 #[.int .i64 n, .int .i64 k] w fun e w' => e = .returned (.tuple #[.string (strOf (le k.toNat n)), .int .i64 0]) ∧ Below w.heap.size w w') := Lib.hid (rput_ok n k w hk hf)
  generalize strOf (le k.toNat n) = s at *
  clear hk hf
  go_enter Tryd.func25, Tryd.ntmps25
  go_wp2_with fail
  refine PT.out.mono ?_
  rintro e W2 ⟨rfl, hb⟩
  have HB := Lib.hid hb
  clear hb PT
  go_wp2
  go_ret
  exact ⟨rfl, HB.out⟩
/-- The elements of a row, one by one. -/
theorem Rw.el {α : Type} {c : α → List Value} {Z : Nat} {W : World} {p : Option Addr} {n k : Nat} {l : List α} (h : Rw c X W (.slice p n k) l) (hk : ∀ x, (c x).length = Z) :
    n = l.length ∧ ∀ (i : Nat) (x : α), l[i]? = some x → ∃ g o, p = some ⟨g, o, none⟩ ∧ g < W.heap.size ∧ W.rangeAt g (o + i * Z) (c x) := by
  have hz : ∀ q ∈ l.map c, q.length = Z := fun q hq => by obtain ⟨x, _, rfl⟩ := List.mem_map.1 hq; exact hk x
  refine ⟨by rw [Row.len h, List.length_map], fun i x hx => ?_⟩
  obtain ⟨hi, he⟩ := List.getElem?_eq_some_iff.1 hx
  obtain ⟨g, o, hp, hg, hr⟩ := Row.at h hz i (by rw [List.length_map]; exact hi)
  refine ⟨g, o, hp, hg.2, ?_⟩
  rw [List.getElem_map, he] at hr
  exact hr

theorem v_info (x : Vl) : (Tryd.prog.info? 45).map (·.size) = some x.cells.length := by kernel_rfl
/-- What is asked of a proto that is a function of the module, or stands within one. -/
def topB (t : Bool) (p : Pr) : Bool := prB p && if t then funB p else innerB p
theorem top_parts (t : Bool) (p : Pr) : topB t p = true ↔ (if t then Lx.isName p.nm = true ∧ p.caps.length = 0 else p.nm = [] ∧ p.caps.length ≤ 255 ∧ ∀ c ∈ p.caps, capB c = true) ∧ inB p.ps 0 8 = true ∧ inB p.rg 1 100 = true ∧ p.ps ≤ p.rg ∧ (p.ks.length ≤ 200 ∧ ∀ v ∈ p.ks, valB v = true) ∧ (p.code.length ≤ 8000 ∧ ∀ x ∈ p.code, rightB x = true) := by
  unfold topB prB funB innerB
  simp only [Bool.and_eq_true, inB_iff, allB_iff]
  have hm : ∀ r : Int, (max 1 p.ps ≤ r) ↔ (1 ≤ r ∧ p.ps ≤ r) := fun r => Int.max_le
  rw [hm]
  cases t <;> simp only [if_true, if_false, Bool.false_eq_true, Bool.and_eq_true, decide_eq_true_eq, allB_iff] <;> constructor <;> rintro ⟨h1, h2⟩ <;> simp_all
set_option maxHeartbeats 4000000 in
set_option maxRecDepth 100000 in
theorem rproto_any {cs : List Value} {p : Pr} (t : Bool) (w : World) (hp : PC X w cs p) (hs : SmP p) : Calls Tryd.prog 37 #[.agg cs.toArray, .bool t] w fun e w' => e = .returned (.bool (topB t p)) ∧ Below w.heap.size w w' := by
  obtain ⟨vc, vk, vp, rfl, h1, h2, h3⟩ := hp
  obtain ⟨p3, k3, hv3⟩ := Row.form h1
  obtain ⟨p4, k4, hv4⟩ := Row.form h2
  obtain ⟨p5, k5, hv5⟩ := Row.form h3
  rw [List.length_map] at hv3 hv4 hv5
  subst hv3 hv4 hv5
  have NM := Lib.hid (fun W => Lx.rname_any p.nm W hs.nm)
  have HT := Lib.hid ((top_parts t p).2)
  have HB := Lib.hid ((top_parts t p).1)
  have V3 := Lib.hid (Rw.el (Z := 4) h1 (fun _ => rfl)).2
  have V4 := Lib.hid (Rw.el (Z := 3) h2 (fun _ => rfl)).2
  have V5 := Lib.hid (Rw.el (Z := 2) h3 (fun _ => rfl)).2
  have I1 := Lib.hid (fun W => in_any p.ps 0 8 W)
  have I2 := Lib.hid (fun W => in_any p.rg 1 100 W)
  have hl3 := hs.code
  have hl4 := hs.ks
  have hl5 := hs.caps
  have es : (strOf p.nm).toList.isEmpty = decide (p.nm = []) := by
    rw [strOf_tl]
    cases p.nm <;> rfl
  obtain ⟨nm, ps, rg, code, ks, caps⟩ := p
  simp only at HT HB V3 V4 V5 es hl3 hl4 hl5
  replace NM : Hid (∀ W, Calls Tryd.prog 35 #[.string (strOf nm)] W fun e w' => e = .returned (.bool (Lx.isName nm)) ∧ Below W.heap.size W w') := NM
  replace I1 : Hid (∀ W, Calls Tryd.prog 36 #[.int .i64 ps, .int .i64 0, .int .i64 8] W fun e w' => e = .returned (.bool (inB ps 0 8)) ∧ W = w') := I1
  replace I2 : Hid (∀ W, Calls Tryd.prog 36 #[.int .i64 rg, .int .i64 1, .int .i64 100] W fun e w' => e = .returned (.bool (inB rg 1 100)) ∧ W = w') := I2
  show Calls _ _ #[.agg #[.string (strOf nm), .int .i64 ps, .int .i64 rg, .slice p3 code.length k3, .slice p4 ks.length k4, .slice p5 caps.length k5], .bool t] w _
  obtain ⟨n3, hn3⟩ : ∃ n, n = code.length := ⟨_, rfl⟩
  obtain ⟨n4, hn4⟩ : ∃ n, n = ks.length := ⟨_, rfl⟩
  obtain ⟨n5, hn5⟩ : ∃ n, n = caps.length := ⟨_, rfl⟩
  rw [← hn3] at HT HB hl3 ⊢
  rw [← hn4] at HT HB hl4 ⊢
  rw [← hn5] at HT HB hl5 ⊢
  have HN3 := Lib.hid hn3
  have HN4 := Lib.hid hn4
  have HN5 := Lib.hid hn5
  have hlen0 : decide (nm = []) = true ∨ decide (nm = []) = false := by cases decide (nm = []) <;> simp
  obtain ⟨E, hE⟩ : ∃ E, E = decide (nm = []) := ⟨_, rfl⟩
  rw [← hE] at es
  have HEM : Hid (E = true ↔ nm = []) := Lib.hid (by rw [hE, decide_eq_true_eq])
  generalize hR : topB t ⟨nm, ps, rg, code, ks, caps⟩ = R at *
  obtain ⟨W1, hW1⟩ : ∃ W1, W1 = w.alloc (.cells #[.string (strOf nm), .int .i64 ps, .int .i64 rg, .slice p3 n3 k3, .slice p4 n4 k4, .slice p5 n5 k5] 38) := ⟨_, rfl⟩
  have HX1 : Hid (SE w W1 w.heap.size [.string (strOf nm), .int .i64 ps, .int .i64 rg, .slice p3 n3 k3, .slice p4 n4 k4, .slice p5 n5 k5]) := Lib.hid (by rw [hW1]; exact se_new w [.string (strOf nm), .int .i64 ps, .int .i64 rg, .slice p3 n3 k3, .slice p4 n4 k4, .slice p5 n5 k5] _)
  have hW2 := hW1.symm
  generalize strOf nm = sn at *
  generalize hA : Lx.isName nm = A at *
  generalize hB : inB ps 0 8 = B at *
  generalize hC : inB rg 1 100 = C at *
  have HF : Hid (R ≠ true → R = false) := Lib.hid (by cases R <;> simp)
  clear hW1 h1 h2 h3 hs hn3 hn4 hn5 hE hlen0 hR hA hB hC
  cases t with
  | true =>
    simp only [if_true] at HT HB
    cases A with
    | false =>
      have hR : R = false := HF.out (fun k => by have := HB.out k; simp at this)
      subst hR
      have c0_1 : W1.cell? ⟨w.heap.size, 0, none⟩ = some (.string sn) := HX1.out.el.at 0 _ rfl
      go_enter Tryd.func37, Tryd.ntmps37
      go_wp2_with fail
      refine (NM.out _).mono ?_
      rintro e W2 ⟨rfl, hb⟩
      have HX2 := Lib.hid (HX1.out.later hb)
      clear hb
      have c1_2 : W2.cell? ⟨w.heap.size, 1, none⟩ = some (.int .i64 ps) := HX2.out.el.at 1 _ rfl
      have c2_2 : W2.cell? ⟨w.heap.size, 2, none⟩ = some (.int .i64 rg) := HX2.out.el.at 2 _ rfl
      have c3_2 : W2.cell? ⟨w.heap.size, 3, none⟩ = some (.slice p3 n3 k3) := HX2.out.el.at 3 _ rfl
      have c4_2 : W2.cell? ⟨w.heap.size, 4, none⟩ = some (.slice p4 n4 k4) := HX2.out.el.at 4 _ rfl
      have c5_2 : W2.cell? ⟨w.heap.size, 5, none⟩ = some (.slice p5 n5 k5) := HX2.out.el.at 5 _ rfl
      go_wp2
      go_ret
      exact ⟨rfl, HX2.out.below⟩
    | true =>
      have c0_1 : W1.cell? ⟨w.heap.size, 0, none⟩ = some (.string sn) := HX1.out.el.at 0 _ rfl
      by_cases hg0 : (n5 : Int) > 0
      · have hR : R = false := HF.out (fun k => by have := HB.out k; omega)
        subst hR
        go_enter Tryd.func37, Tryd.ntmps37
        go_wp2_with fail
        refine (NM.out _).mono ?_
        rintro e W2 ⟨rfl, hb⟩
        have HX2 := Lib.hid (HX1.out.later hb)
        clear hb
        have c1_2 : W2.cell? ⟨w.heap.size, 1, none⟩ = some (.int .i64 ps) := HX2.out.el.at 1 _ rfl
        have c2_2 : W2.cell? ⟨w.heap.size, 2, none⟩ = some (.int .i64 rg) := HX2.out.el.at 2 _ rfl
        have c3_2 : W2.cell? ⟨w.heap.size, 3, none⟩ = some (.slice p3 n3 k3) := HX2.out.el.at 3 _ rfl
        have c4_2 : W2.cell? ⟨w.heap.size, 4, none⟩ = some (.slice p4 n4 k4) := HX2.out.el.at 4 _ rfl
        have c5_2 : W2.cell? ⟨w.heap.size, 5, none⟩ = some (.slice p5 n5 k5) := HX2.out.el.at 5 _ rfl
        go_wp2
        go_ret
        exact ⟨rfl, HX2.out.below⟩
      obtain rfl : n5 = 0 := by omega
      have HX1 := Lib.hid HX1.out
      cases B with
      | false =>
        have hR : R = false := HF.out (fun k => by have := HB.out k; simp at this)
        subst hR
        go_enter Tryd.func37, Tryd.ntmps37
        go_wp2_with fail
        refine (NM.out _).mono ?_
        rintro e W2 ⟨rfl, hb⟩
        have HX2 := Lib.hid (HX1.out.later hb)
        clear hb
        have c1_2 : W2.cell? ⟨w.heap.size, 1, none⟩ = some (.int .i64 ps) := HX2.out.el.at 1 _ rfl
        have c2_2 : W2.cell? ⟨w.heap.size, 2, none⟩ = some (.int .i64 rg) := HX2.out.el.at 2 _ rfl
        have c3_2 : W2.cell? ⟨w.heap.size, 3, none⟩ = some (.slice p3 n3 k3) := HX2.out.el.at 3 _ rfl
        have c4_2 : W2.cell? ⟨w.heap.size, 4, none⟩ = some (.slice p4 n4 k4) := HX2.out.el.at 4 _ rfl
        have c5_2 : W2.cell? ⟨w.heap.size, 5, none⟩ = some (.slice p5 0 k5) := HX2.out.el.at 5 _ rfl
        go_wp2_with fail
        refine (I1.out _).mono ?_
        rintro e W9 ⟨rfl, rfl⟩
        try clear hg0
        go_wp2
        go_ret
        exact ⟨rfl, HX2.out.below⟩
      | true =>
        cases C with
        | false =>
          have hR : R = false := HF.out (fun k => by have := HB.out k; simp at this)
          subst hR
          go_enter Tryd.func37, Tryd.ntmps37
          go_wp2_with fail
          refine (NM.out _).mono ?_
          rintro e W2 ⟨rfl, hb⟩
          have HX2 := Lib.hid (HX1.out.later hb)
          clear hb
          have c1_2 : W2.cell? ⟨w.heap.size, 1, none⟩ = some (.int .i64 ps) := HX2.out.el.at 1 _ rfl
          have c2_2 : W2.cell? ⟨w.heap.size, 2, none⟩ = some (.int .i64 rg) := HX2.out.el.at 2 _ rfl
          have c3_2 : W2.cell? ⟨w.heap.size, 3, none⟩ = some (.slice p3 n3 k3) := HX2.out.el.at 3 _ rfl
          have c4_2 : W2.cell? ⟨w.heap.size, 4, none⟩ = some (.slice p4 n4 k4) := HX2.out.el.at 4 _ rfl
          have c5_2 : W2.cell? ⟨w.heap.size, 5, none⟩ = some (.slice p5 0 k5) := HX2.out.el.at 5 _ rfl
          go_wp2_with fail
          refine (I1.out _).mono ?_
          rintro e W9 ⟨rfl, rfl⟩
          try clear hg0
          go_wp2_with fail
          refine (I2.out _).mono ?_
          rintro e W9 ⟨rfl, rfl⟩
          go_wp2
          go_ret
          exact ⟨rfl, HX2.out.below⟩
        | true =>
          by_cases hlt0 : rg < ps
          · have hR : R = false := HF.out (fun k => by have := HB.out k; omega)
            subst hR
            go_enter Tryd.func37, Tryd.ntmps37
            go_wp2_with fail
            refine (NM.out _).mono ?_
            rintro e W2 ⟨rfl, hb⟩
            have HX2 := Lib.hid (HX1.out.later hb)
            clear hb
            have c1_2 : W2.cell? ⟨w.heap.size, 1, none⟩ = some (.int .i64 ps) := HX2.out.el.at 1 _ rfl
            have c2_2 : W2.cell? ⟨w.heap.size, 2, none⟩ = some (.int .i64 rg) := HX2.out.el.at 2 _ rfl
            have c3_2 : W2.cell? ⟨w.heap.size, 3, none⟩ = some (.slice p3 n3 k3) := HX2.out.el.at 3 _ rfl
            have c4_2 : W2.cell? ⟨w.heap.size, 4, none⟩ = some (.slice p4 n4 k4) := HX2.out.el.at 4 _ rfl
            have c5_2 : W2.cell? ⟨w.heap.size, 5, none⟩ = some (.slice p5 0 k5) := HX2.out.el.at 5 _ rfl
            go_wp2_with fail
            refine (I1.out _).mono ?_
            rintro e W9 ⟨rfl, rfl⟩
            try clear hg0
            go_wp2_with fail
            refine (I2.out _).mono ?_
            rintro e W9 ⟨rfl, rfl⟩
            go_wp2
            go_ret
            exact ⟨rfl, HX2.out.below⟩
          by_cases hlt1 : (n4 : Int) > 200
          · have hR : R = false := HF.out (fun k => by have := HB.out k; omega)
            subst hR
            go_enter Tryd.func37, Tryd.ntmps37
            go_wp2_with fail
            refine (NM.out _).mono ?_
            rintro e W2 ⟨rfl, hb⟩
            have HX2 := Lib.hid (HX1.out.later hb)
            clear hb
            have c1_2 : W2.cell? ⟨w.heap.size, 1, none⟩ = some (.int .i64 ps) := HX2.out.el.at 1 _ rfl
            have c2_2 : W2.cell? ⟨w.heap.size, 2, none⟩ = some (.int .i64 rg) := HX2.out.el.at 2 _ rfl
            have c3_2 : W2.cell? ⟨w.heap.size, 3, none⟩ = some (.slice p3 n3 k3) := HX2.out.el.at 3 _ rfl
            have c4_2 : W2.cell? ⟨w.heap.size, 4, none⟩ = some (.slice p4 n4 k4) := HX2.out.el.at 4 _ rfl
            have c5_2 : W2.cell? ⟨w.heap.size, 5, none⟩ = some (.slice p5 0 k5) := HX2.out.el.at 5 _ rfl
            go_wp2_with fail
            refine (I1.out _).mono ?_
            rintro e W9 ⟨rfl, rfl⟩
            try clear hg0
            go_wp2_with fail
            refine (I2.out _).mono ?_
            rintro e W9 ⟨rfl, rfl⟩
            go_wp2
            go_ret
            exact ⟨rfl, HX2.out.below⟩
          by_cases hlt2 : (n3 : Int) > 8000
          · have hR : R = false := HF.out (fun k => by have := HB.out k; omega)
            subst hR
            go_enter Tryd.func37, Tryd.ntmps37
            go_wp2_with fail
            refine (NM.out _).mono ?_
            rintro e W2 ⟨rfl, hb⟩
            have HX2 := Lib.hid (HX1.out.later hb)
            clear hb
            have c1_2 : W2.cell? ⟨w.heap.size, 1, none⟩ = some (.int .i64 ps) := HX2.out.el.at 1 _ rfl
            have c2_2 : W2.cell? ⟨w.heap.size, 2, none⟩ = some (.int .i64 rg) := HX2.out.el.at 2 _ rfl
            have c3_2 : W2.cell? ⟨w.heap.size, 3, none⟩ = some (.slice p3 n3 k3) := HX2.out.el.at 3 _ rfl
            have c4_2 : W2.cell? ⟨w.heap.size, 4, none⟩ = some (.slice p4 n4 k4) := HX2.out.el.at 4 _ rfl
            have c5_2 : W2.cell? ⟨w.heap.size, 5, none⟩ = some (.slice p5 0 k5) := HX2.out.el.at 5 _ rfl
            go_wp2_with fail
            refine (I1.out _).mono ?_
            rintro e W9 ⟨rfl, rfl⟩
            try clear hg0
            go_wp2_with fail
            refine (I2.out _).mono ?_
            rintro e W9 ⟨rfl, rfl⟩
            go_wp2
            go_ret
            exact ⟨rfl, HX2.out.below⟩
          have HR0 : Hid ((∀ c ∈ caps, capB c = true) → (∀ v ∈ ks, valB v = true) → (∀ x ∈ code, rightB x = true) → R = true) := Lib.hid (fun a b c => HT.out ⟨⟨rfl, rfl⟩, rfl, rfl, by omega, ⟨by omega, b⟩, ⟨by omega, c⟩⟩)
          have HB3 : Hid (∀ x ∈ code, rightB x = false → R = false) := Lib.hid (fun x hx hq => HF.out (fun k => by have := (HB.out k).2.2.2.2.2.2 x hx; rw [hq] at this; cases this))
          have HB4 : Hid (∀ x ∈ ks, valB x = false → R = false) := Lib.hid (fun x hx hq => HF.out (fun k => by have := (HB.out k).2.2.2.2.1.2 x hx; rw [hq] at this; cases this))
          have HB5 : Hid (∀ x ∈ caps, capB x = false → R = false) := Lib.hid (fun x hx hq => HF.out (fun k => by have h0 := (HB.out k).1.2; have h1 := HN5.out; rw [h0] at h1; rw [List.eq_nil_of_length_eq_zero h1.symm] at hx; cases hx))
          have HLT := Lib.hid hlt0
          clear HT HB HEM
          go_enter Tryd.func37, Tryd.ntmps37
          go_wp2_with fail
          refine (NM.out _).mono ?_
          rintro e W2 ⟨rfl, hb⟩
          have HX2 := Lib.hid (HX1.out.later hb)
          clear hb
          have c1_2 : W2.cell? ⟨w.heap.size, 1, none⟩ = some (.int .i64 ps) := HX2.out.el.at 1 _ rfl
          have c2_2 : W2.cell? ⟨w.heap.size, 2, none⟩ = some (.int .i64 rg) := HX2.out.el.at 2 _ rfl
          have c3_2 : W2.cell? ⟨w.heap.size, 3, none⟩ = some (.slice p3 n3 k3) := HX2.out.el.at 3 _ rfl
          have c4_2 : W2.cell? ⟨w.heap.size, 4, none⟩ = some (.slice p4 n4 k4) := HX2.out.el.at 4 _ rfl
          have c5_2 : W2.cell? ⟨w.heap.size, 5, none⟩ = some (.slice p5 0 k5) := HX2.out.el.at 5 _ rfl
          go_wp2_with fail
          refine (I1.out _).mono ?_
          rintro e W9 ⟨rfl, rfl⟩
          try clear hg0
          go_wp2_with fail
          refine (I2.out _).mono ?_
          rintro e W9 ⟨rfl, rfl⟩
          go_wp2
          clear hlt0 hlt1 hlt2 c1_2 c2_2 c3_2 c4_2 c5_2 c0_1 NM I1 I2
          go_loopw [5] (fun vi wr => vi = .int .i64 0 ∧ Hid (SE w wr w.heap.size [.string sn, .int .i64 ps, .int .i64 rg, .slice p3 n3 k3, .slice p4 n4 k4, .slice p5 0 k5])) (fun _ _ => 0)
          case atStart => exact ⟨rfl, HX2⟩
          case round =>
            obtain ⟨rfl, HX⟩ := hrel
            have ck : wr.cell? ⟨w.heap.size, 5, none⟩ = some (.slice p5 0 k5) := HX.out.el.at 5 _ rfl
            have HX50 := Lib.hid HX.out
            have HA5 : Hid (∀ x ∈ caps, capB x = true) := Lib.hid (fun x hx => by rw [List.eq_nil_of_length_eq_zero HN5.out.symm] at hx; cases hx)
            go_wp2
            go_loopw [6] (fun vi wr => ∃ i : Nat, i ≤ n4 ∧ vi = .int .i64 (i : Int) ∧ Hid (SE w wr w.heap.size [.string sn, .int .i64 ps, .int .i64 rg, .slice p3 n3 k3, .slice p4 n4 k4, .slice p5 0 k5]) ∧ Hid (∀ (j : Nat) x, j < i → ks[j]? = some x → valB x = true)) (fun vi _ => n4 - (intOf vi).toNat)
            case atStart => exact ⟨0, Nat.zero_le _, rfl, HX50, Lib.hid (fun j x hj => absurd hj (Nat.not_lt_zero _))⟩
            case round =>
              obtain ⟨i, hi, rfl, HX, HA⟩ := hrel
              have ck : wr.cell? ⟨w.heap.size, 4, none⟩ = some (.slice p4 n4 k4) := HX.out.el.at 4 _ rfl
              by_cases hlt : i < n4
              · obtain ⟨x, hx⟩ : ∃ x, ks[i]? = some x := ⟨_, List.getElem?_eq_getElem (by rw [← HN4.out]; exact hlt)⟩
                obtain ⟨g, o, hq, hg, hr0⟩ := V4.out i x hx
                subst hq
                have hr := Dk.rangeAt_block hr0 (HX.out.below.block g hg)
                have z0 : (0 : Int) ≤ (i : Int) := by omega
                have z1 : (i : Int) < (n4 : Int) := by omega
                have HXX := Lib.hid hx
                clear hr0
                have HRR := Lib.hid hr
                have HIX := Lib.hid (v_info x)
                have IC := Lib.hid (rconst_any x wr)
                clear hr hx
                cases hq : valB x with
                | false =>
                  have hR := HB4.out x (mem_at HXX.out) hq
                  subst hR
                  rw [hq] at IC
                  clear hq
                  generalize x.cells = pc at HRR HIX IC
                  go_wp2_with (refine wpList_load_mid rfl 45 (.tmp 90) rfl g (o + i * 3) rfl pc _ HRR.out Tryd.underlying45 rfl HIX.out ?_)
                  refine IC.out.mono ?_
                  rintro e W9 ⟨rfl, hb⟩
                  have HX9 := Lib.hid (HX.out.later hb)
                  clear hb IC
                  go_wp2
                  go_ret
                  exact ⟨rfl, HX9.out.below⟩
                | true =>
                  have HA2 : Hid (∀ (j : Nat) y, j < i + 1 → ks[j]? = some y → valB y = true) := Lib.hid (fun j y hj hy => by
                    rcases Nat.lt_succ_iff_lt_or_eq.1 hj with h1 | rfl
                    · exact HA.out j y h1 hy
                    · rw [HXX.out] at hy; cases hy; exact hq)
                  rw [hq] at IC
                  clear hq
                  generalize x.cells = pc at HRR HIX IC
                  go_wp2_with (refine wpList_load_mid rfl 45 (.tmp 90) rfl g (o + i * 3) rfl pc _ HRR.out Tryd.underlying45 rfl HIX.out ?_)
                  refine IC.out.mono ?_
                  rintro e W9 ⟨rfl, hb⟩
                  have HX9 := Lib.hid (HX.out.later hb)
                  clear hb IC
                  go_wp2
                  go_roundw
                  case rel => exact ⟨i + 1, by omega, by go_num, HX9, HA2⟩
                  case measure => simp [intOf]; omega
              · obtain rfl : n4 = i := by omega
                have HA4 : Hid (∀ x ∈ ks, valB x = true) := Lib.hid (fun x hx => by obtain ⟨j, hj, rfl⟩ := List.getElem_of_mem hx; exact HA.out j _ (by rw [HN4.out]; exact hj) (List.getElem?_eq_getElem hj))
                have HX40 := Lib.hid HX.out
                clear HA hi
                go_wp2
                go_loopw [7] (fun vi wr => ∃ i : Nat, i ≤ n3 ∧ vi = .int .i64 (i : Int) ∧ Hid (SE w wr w.heap.size [.string sn, .int .i64 ps, .int .i64 rg, .slice p3 n3 k3, .slice p4 n4 k4, .slice p5 0 k5]) ∧ Hid (∀ (j : Nat) x, j < i → code[j]? = some x → rightB x = true)) (fun vi _ => n3 - (intOf vi).toNat)
                case atStart => exact ⟨0, Nat.zero_le _, rfl, HX40, Lib.hid (fun j x hj => absurd hj (Nat.not_lt_zero _))⟩
                case round =>
                  obtain ⟨i, hi, rfl, HX, HA⟩ := hrel
                  have ck : wr.cell? ⟨w.heap.size, 3, none⟩ = some (.slice p3 n3 k3) := HX.out.el.at 3 _ rfl
                  by_cases hlt : i < n3
                  · obtain ⟨x, hx⟩ : ∃ x, code[i]? = some x := ⟨_, List.getElem?_eq_getElem (by rw [← HN3.out]; exact hlt)⟩
                    obtain ⟨g, o, hq, hg, hr0⟩ := V3.out i x hx
                    subst hq
                    have hr := Dk.rangeAt_block hr0 (HX.out.below.block g hg)
                    have z0 : (0 : Int) ≤ (i : Int) := by omega
                    have z1 : (i : Int) < (n3 : Int) := by omega
                    have HXX := Lib.hid hx
                    clear hr0
                    have HRR := Lib.hid hr
                    have HIX := Lib.hid (i_info x)
                    have IC := Lib.hid (rright_any x wr)
                    clear hr hx
                    cases hq : rightB x with
                    | false =>
                      have hR := HB3.out x (mem_at HXX.out) hq
                      subst hR
                      rw [hq] at IC
                      clear hq
                      generalize x.cells = pc at HRR HIX IC
                      go_wp2_with (refine wpList_load_mid rfl 89 (.tmp 104) rfl g (o + i * 4) rfl pc _ HRR.out Tryd.underlying89 rfl HIX.out ?_)
                      refine IC.out.mono ?_
                      rintro e W9 ⟨rfl, hb⟩
                      have HX9 := Lib.hid (HX.out.later hb)
                      clear hb IC
                      go_wp2
                      go_ret
                      exact ⟨rfl, HX9.out.below⟩
                    | true =>
                      have HA2 : Hid (∀ (j : Nat) y, j < i + 1 → code[j]? = some y → rightB y = true) := Lib.hid (fun j y hj hy => by
                        rcases Nat.lt_succ_iff_lt_or_eq.1 hj with h1 | rfl
                        · exact HA.out j y h1 hy
                        · rw [HXX.out] at hy; cases hy; exact hq)
                      rw [hq] at IC
                      clear hq
                      generalize x.cells = pc at HRR HIX IC
                      go_wp2_with (refine wpList_load_mid rfl 89 (.tmp 104) rfl g (o + i * 4) rfl pc _ HRR.out Tryd.underlying89 rfl HIX.out ?_)
                      refine IC.out.mono ?_
                      rintro e W9 ⟨rfl, hb⟩
                      have HX9 := Lib.hid (HX.out.later hb)
                      clear hb IC
                      go_wp2
                      go_roundw
                      case rel => exact ⟨i + 1, by omega, by go_num, HX9, HA2⟩
                      case measure => simp [intOf]; omega
                  · obtain rfl : n3 = i := by omega
                    have HA3 : Hid (∀ x ∈ code, rightB x = true) := Lib.hid (fun x hx => by obtain ⟨j, hj, rfl⟩ := List.getElem_of_mem hx; exact HA.out j _ (by rw [HN3.out]; exact hj) (List.getElem?_eq_getElem hj))
                    have HX30 := Lib.hid HX.out
                    clear HA hi
                    have hR := HR0.out HA5.out HA4.out HA3.out
                    subst hR
                    go_wp2
                    go_ret
                    exact ⟨rfl, HX30.out.below⟩
  | false =>
    simp only [if_false, Bool.false_eq_true] at HT HB
    have c0_1 : W1.cell? ⟨w.heap.size, 0, none⟩ = some (.string sn) := HX1.out.el.at 0 _ rfl
    have c1_1 : W1.cell? ⟨w.heap.size, 1, none⟩ = some (.int .i64 ps) := HX1.out.el.at 1 _ rfl
    have c2_1 : W1.cell? ⟨w.heap.size, 2, none⟩ = some (.int .i64 rg) := HX1.out.el.at 2 _ rfl
    have c3_1 : W1.cell? ⟨w.heap.size, 3, none⟩ = some (.slice p3 n3 k3) := HX1.out.el.at 3 _ rfl
    have c4_1 : W1.cell? ⟨w.heap.size, 4, none⟩ = some (.slice p4 n4 k4) := HX1.out.el.at 4 _ rfl
    have c5_1 : W1.cell? ⟨w.heap.size, 5, none⟩ = some (.slice p5 n5 k5) := HX1.out.el.at 5 _ rfl
    clear NM
    cases E with
    | false =>
      have hR : R = false := HF.out (fun k => by have := HB.out k; have := HEM.out.2 this.1.1; cases this)
      subst hR
      go_enter Tryd.func37, Tryd.ntmps37
      go_wp2
      go_ret
      exact ⟨rfl, HX1.out.below⟩
    | true =>
      have hnm := HEM.out.1 rfl
      by_cases hg0 : (n5 : Int) > 255
      · have hR : R = false := HF.out (fun k => by have := HB.out k; omega)
        subst hR
        go_enter Tryd.func37, Tryd.ntmps37
        go_wp2
        go_ret
        exact ⟨rfl, HX1.out.below⟩
      cases B with
      | false =>
        have hR : R = false := HF.out (fun k => by have := HB.out k; simp at this)
        subst hR
        go_enter Tryd.func37, Tryd.ntmps37
        go_wp2_with fail
        refine (I1.out _).mono ?_
        rintro e W9 ⟨rfl, rfl⟩
        try clear hg0
        go_wp2
        go_ret
        exact ⟨rfl, HX1.out.below⟩
      | true =>
        cases C with
        | false =>
          have hR : R = false := HF.out (fun k => by have := HB.out k; simp at this)
          subst hR
          go_enter Tryd.func37, Tryd.ntmps37
          go_wp2_with fail
          refine (I1.out _).mono ?_
          rintro e W9 ⟨rfl, rfl⟩
          try clear hg0
          go_wp2_with fail
          refine (I2.out _).mono ?_
          rintro e W9 ⟨rfl, rfl⟩
          go_wp2
          go_ret
          exact ⟨rfl, HX1.out.below⟩
        | true =>
          by_cases hlt0 : rg < ps
          · have hR : R = false := HF.out (fun k => by have := HB.out k; omega)
            subst hR
            go_enter Tryd.func37, Tryd.ntmps37
            go_wp2_with fail
            refine (I1.out _).mono ?_
            rintro e W9 ⟨rfl, rfl⟩
            try clear hg0
            go_wp2_with fail
            refine (I2.out _).mono ?_
            rintro e W9 ⟨rfl, rfl⟩
            go_wp2
            go_ret
            exact ⟨rfl, HX1.out.below⟩
          by_cases hlt1 : (n4 : Int) > 200
          · have hR : R = false := HF.out (fun k => by have := HB.out k; omega)
            subst hR
            go_enter Tryd.func37, Tryd.ntmps37
            go_wp2_with fail
            refine (I1.out _).mono ?_
            rintro e W9 ⟨rfl, rfl⟩
            try clear hg0
            go_wp2_with fail
            refine (I2.out _).mono ?_
            rintro e W9 ⟨rfl, rfl⟩
            go_wp2
            go_ret
            exact ⟨rfl, HX1.out.below⟩
          by_cases hlt2 : (n3 : Int) > 8000
          · have hR : R = false := HF.out (fun k => by have := HB.out k; omega)
            subst hR
            go_enter Tryd.func37, Tryd.ntmps37
            go_wp2_with fail
            refine (I1.out _).mono ?_
            rintro e W9 ⟨rfl, rfl⟩
            try clear hg0
            go_wp2_with fail
            refine (I2.out _).mono ?_
            rintro e W9 ⟨rfl, rfl⟩
            go_wp2
            go_ret
            exact ⟨rfl, HX1.out.below⟩
          have HR0 : Hid ((∀ c ∈ caps, capB c = true) → (∀ v ∈ ks, valB v = true) → (∀ x ∈ code, rightB x = true) → R = true) := Lib.hid (fun a b c => HT.out ⟨⟨hnm, by omega, a⟩, rfl, rfl, by omega, ⟨by omega, b⟩, ⟨by omega, c⟩⟩)
          have HB3 : Hid (∀ x ∈ code, rightB x = false → R = false) := Lib.hid (fun x hx hq => HF.out (fun k => by have := (HB.out k).2.2.2.2.2.2 x hx; rw [hq] at this; cases this))
          have HB4 : Hid (∀ x ∈ ks, valB x = false → R = false) := Lib.hid (fun x hx hq => HF.out (fun k => by have := (HB.out k).2.2.2.2.1.2 x hx; rw [hq] at this; cases this))
          have HB5 : Hid (∀ x ∈ caps, capB x = false → R = false) := Lib.hid (fun x hx hq => HF.out (fun k => by have := (HB.out k).1.2.2 x hx; rw [hq] at this; cases this))
          have HLT := Lib.hid hlt0
          clear HT HB HEM hnm
          go_enter Tryd.func37, Tryd.ntmps37
          go_wp2_with fail
          refine (I1.out _).mono ?_
          rintro e W9 ⟨rfl, rfl⟩
          try clear hg0
          go_wp2_with fail
          refine (I2.out _).mono ?_
          rintro e W9 ⟨rfl, rfl⟩
          go_wp2
          clear hlt0 hlt1 hlt2 c0_1 c1_1 c2_1 c3_1 c4_1 c5_1 I1 I2
          go_loopw [5] (fun vi wr => ∃ i : Nat, i ≤ n5 ∧ vi = .int .i64 (i : Int) ∧ Hid (SE w wr w.heap.size [.string sn, .int .i64 ps, .int .i64 rg, .slice p3 n3 k3, .slice p4 n4 k4, .slice p5 n5 k5]) ∧ Hid (∀ (j : Nat) x, j < i → caps[j]? = some x → capB x = true)) (fun vi _ => n5 - (intOf vi).toNat)
          case atStart => exact ⟨0, Nat.zero_le _, rfl, HX1, Lib.hid (fun j x hj => absurd hj (Nat.not_lt_zero _))⟩
          case round =>
            obtain ⟨i, hi, rfl, HX, HA⟩ := hrel
            have ck : wr.cell? ⟨w.heap.size, 5, none⟩ = some (.slice p5 n5 k5) := HX.out.el.at 5 _ rfl
            by_cases hlt : i < n5
            · obtain ⟨x, hx⟩ : ∃ x, caps[i]? = some x := ⟨_, List.getElem?_eq_getElem (by rw [← HN5.out]; exact hlt)⟩
              obtain ⟨g, o, hq, hg, hr0⟩ := V5.out i x hx
              subst hq
              have hr := Dk.rangeAt_block hr0 (HX.out.below.block g hg)
              have z0 : (0 : Int) ≤ (i : Int) := by omega
              have z1 : (i : Int) < (n5 : Int) := by omega
              have HXX := Lib.hid hx
              clear hr0
              have ci : wr.cell? ⟨g, o + i * 2 + 1, none⟩ = some (.int .i64 x.ix) := hr 1 _ rfl
              have IC := Lib.hid (fun W => in_any x.ix 0 255 W)
              have hce : inB x.ix 0 255 = capB x := rfl
              rw [hce] at IC
              generalize x.ix = ix at *
              clear hr hce hx
              cases hq : capB x with
              | false =>
                have hR := HB5.out x (mem_at HXX.out) hq
                subst hR
                rw [hq] at IC
                clear hq
                go_wp2_with fail
                refine (IC.out _).mono ?_
                rintro e W9 ⟨rfl, rfl⟩
                go_wp2
                go_ret
                exact ⟨rfl, HX.out.below⟩
              | true =>
                have HA2 : Hid (∀ (j : Nat) y, j < i + 1 → caps[j]? = some y → capB y = true) := Lib.hid (fun j y hj hy => by
                  rcases Nat.lt_succ_iff_lt_or_eq.1 hj with h1 | rfl
                  · exact HA.out j y h1 hy
                  · rw [HXX.out] at hy; cases hy; exact hq)
                rw [hq] at IC
                clear hq
                go_wp2_with fail
                refine (IC.out _).mono ?_
                rintro e W9 ⟨rfl, rfl⟩
                go_wp2
                go_roundw
                case rel => exact ⟨i + 1, by omega, by go_num, HX, HA2⟩
                case measure => simp [intOf]; omega
            · obtain rfl : n5 = i := by omega
              have HA5 : Hid (∀ x ∈ caps, capB x = true) := Lib.hid (fun x hx => by obtain ⟨j, hj, rfl⟩ := List.getElem_of_mem hx; exact HA.out j _ (by rw [HN5.out]; exact hj) (List.getElem?_eq_getElem hj))
              have HX50 := Lib.hid HX.out
              clear HA hi
              go_wp2
              go_loopw [6] (fun vi wr => ∃ i : Nat, i ≤ n4 ∧ vi = .int .i64 (i : Int) ∧ Hid (SE w wr w.heap.size [.string sn, .int .i64 ps, .int .i64 rg, .slice p3 n3 k3, .slice p4 n4 k4, .slice p5 n5 k5]) ∧ Hid (∀ (j : Nat) x, j < i → ks[j]? = some x → valB x = true)) (fun vi _ => n4 - (intOf vi).toNat)
              case atStart => exact ⟨0, Nat.zero_le _, rfl, HX50, Lib.hid (fun j x hj => absurd hj (Nat.not_lt_zero _))⟩
              case round =>
                obtain ⟨i, hi, rfl, HX, HA⟩ := hrel
                have ck : wr.cell? ⟨w.heap.size, 4, none⟩ = some (.slice p4 n4 k4) := HX.out.el.at 4 _ rfl
                by_cases hlt : i < n4
                · obtain ⟨x, hx⟩ : ∃ x, ks[i]? = some x := ⟨_, List.getElem?_eq_getElem (by rw [← HN4.out]; exact hlt)⟩
                  obtain ⟨g, o, hq, hg, hr0⟩ := V4.out i x hx
                  subst hq
                  have hr := Dk.rangeAt_block hr0 (HX.out.below.block g hg)
                  have z0 : (0 : Int) ≤ (i : Int) := by omega
                  have z1 : (i : Int) < (n4 : Int) := by omega
                  have HXX := Lib.hid hx
                  clear hr0
                  have HRR := Lib.hid hr
                  have HIX := Lib.hid (v_info x)
                  have IC := Lib.hid (rconst_any x wr)
                  clear hr hx
                  cases hq : valB x with
                  | false =>
                    have hR := HB4.out x (mem_at HXX.out) hq
                    subst hR
                    rw [hq] at IC
                    clear hq
                    generalize x.cells = pc at HRR HIX IC
                    go_wp2_with (refine wpList_load_mid rfl 45 (.tmp 90) rfl g (o + i * 3) rfl pc _ HRR.out Tryd.underlying45 rfl HIX.out ?_)
                    refine IC.out.mono ?_
                    rintro e W9 ⟨rfl, hb⟩
                    have HX9 := Lib.hid (HX.out.later hb)
                    clear hb IC
                    go_wp2
                    go_ret
                    exact ⟨rfl, HX9.out.below⟩
                  | true =>
                    have HA2 : Hid (∀ (j : Nat) y, j < i + 1 → ks[j]? = some y → valB y = true) := Lib.hid (fun j y hj hy => by
                      rcases Nat.lt_succ_iff_lt_or_eq.1 hj with h1 | rfl
                      · exact HA.out j y h1 hy
                      · rw [HXX.out] at hy; cases hy; exact hq)
                    rw [hq] at IC
                    clear hq
                    generalize x.cells = pc at HRR HIX IC
                    go_wp2_with (refine wpList_load_mid rfl 45 (.tmp 90) rfl g (o + i * 3) rfl pc _ HRR.out Tryd.underlying45 rfl HIX.out ?_)
                    refine IC.out.mono ?_
                    rintro e W9 ⟨rfl, hb⟩
                    have HX9 := Lib.hid (HX.out.later hb)
                    clear hb IC
                    go_wp2
                    go_roundw
                    case rel => exact ⟨i + 1, by omega, by go_num, HX9, HA2⟩
                    case measure => simp [intOf]; omega
                · obtain rfl : n4 = i := by omega
                  have HA4 : Hid (∀ x ∈ ks, valB x = true) := Lib.hid (fun x hx => by obtain ⟨j, hj, rfl⟩ := List.getElem_of_mem hx; exact HA.out j _ (by rw [HN4.out]; exact hj) (List.getElem?_eq_getElem hj))
                  have HX40 := Lib.hid HX.out
                  clear HA hi
                  go_wp2
                  go_loopw [7] (fun vi wr => ∃ i : Nat, i ≤ n3 ∧ vi = .int .i64 (i : Int) ∧ Hid (SE w wr w.heap.size [.string sn, .int .i64 ps, .int .i64 rg, .slice p3 n3 k3, .slice p4 n4 k4, .slice p5 n5 k5]) ∧ Hid (∀ (j : Nat) x, j < i → code[j]? = some x → rightB x = true)) (fun vi _ => n3 - (intOf vi).toNat)
                  case atStart => exact ⟨0, Nat.zero_le _, rfl, HX40, Lib.hid (fun j x hj => absurd hj (Nat.not_lt_zero _))⟩
                  case round =>
                    obtain ⟨i, hi, rfl, HX, HA⟩ := hrel
                    have ck : wr.cell? ⟨w.heap.size, 3, none⟩ = some (.slice p3 n3 k3) := HX.out.el.at 3 _ rfl
                    by_cases hlt : i < n3
                    · obtain ⟨x, hx⟩ : ∃ x, code[i]? = some x := ⟨_, List.getElem?_eq_getElem (by rw [← HN3.out]; exact hlt)⟩
                      obtain ⟨g, o, hq, hg, hr0⟩ := V3.out i x hx
                      subst hq
                      have hr := Dk.rangeAt_block hr0 (HX.out.below.block g hg)
                      have z0 : (0 : Int) ≤ (i : Int) := by omega
                      have z1 : (i : Int) < (n3 : Int) := by omega
                      have HXX := Lib.hid hx
                      clear hr0
                      have HRR := Lib.hid hr
                      have HIX := Lib.hid (i_info x)
                      have IC := Lib.hid (rright_any x wr)
                      clear hr hx
                      cases hq : rightB x with
                      | false =>
                        have hR := HB3.out x (mem_at HXX.out) hq
                        subst hR
                        rw [hq] at IC
                        clear hq
                        generalize x.cells = pc at HRR HIX IC
                        go_wp2_with (refine wpList_load_mid rfl 89 (.tmp 104) rfl g (o + i * 4) rfl pc _ HRR.out Tryd.underlying89 rfl HIX.out ?_)
                        refine IC.out.mono ?_
                        rintro e W9 ⟨rfl, hb⟩
                        have HX9 := Lib.hid (HX.out.later hb)
                        clear hb IC
                        go_wp2
                        go_ret
                        exact ⟨rfl, HX9.out.below⟩
                      | true =>
                        have HA2 : Hid (∀ (j : Nat) y, j < i + 1 → code[j]? = some y → rightB y = true) := Lib.hid (fun j y hj hy => by
                          rcases Nat.lt_succ_iff_lt_or_eq.1 hj with h1 | rfl
                          · exact HA.out j y h1 hy
                          · rw [HXX.out] at hy; cases hy; exact hq)
                        rw [hq] at IC
                        clear hq
                        generalize x.cells = pc at HRR HIX IC
                        go_wp2_with (refine wpList_load_mid rfl 89 (.tmp 104) rfl g (o + i * 4) rfl pc _ HRR.out Tryd.underlying89 rfl HIX.out ?_)
                        refine IC.out.mono ?_
                        rintro e W9 ⟨rfl, hb⟩
                        have HX9 := Lib.hid (HX.out.later hb)
                        clear hb IC
                        go_wp2
                        go_roundw
                        case rel => exact ⟨i + 1, by omega, by go_num, HX9, HA2⟩
                        case measure => simp [intOf]; omega
                    · obtain rfl : n3 = i := by omega
                      have HA3 : Hid (∀ x ∈ code, rightB x = true) := Lib.hid (fun x hx => by obtain ⟨j, hj, rfl⟩ := List.getElem_of_mem hx; exact HA.out j _ (by rw [HN3.out]; exact hj) (List.getElem?_eq_getElem hj))
                      have HX30 := Lib.hid HX.out
                      clear HA hi
                      have hR := HR0.out HA5.out HA4.out HA3.out
                      subst hR
                      go_wp2
                      go_ret
                      exact ⟨rfl, HX30.out.below⟩

end Go.Proofs.YtmloljfnnkfkjaaDoor.Im

