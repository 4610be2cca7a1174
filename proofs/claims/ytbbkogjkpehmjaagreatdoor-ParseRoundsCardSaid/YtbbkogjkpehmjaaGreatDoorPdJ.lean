/- The walk of the law ParseMore. No condition but that the library's error lies where its variable is. -/
import Derived.Test.YtbbkogjkpehmjaaGreatDoorMgQ
namespace Go.Proofs.YtbbkogjkpehmjaaGreatDoor.Pa
open Go.RowKit Go.Shelf Dk Lx Tr

theorem append_strOf (a b : List UInt8) : strOf a ++ strOf b = strOf (a ++ b) := by
  apply ByteArray.ext
  simp [strOf]
theorem add_run (a b : List UInt8) (h : a.length + b.length ≤ 2 ^ 60) (W : World) : (Op.stringOp .add (strOf a) (strOf b)).run Tryz.prog W = .ok (.string (strOf (a ++ b))) W := by
  rw [run_string_add_sum (P := Tryz.prog) (w := W) (strOf a) (strOf b) (by rw [strOf_size, strOf_size]; omega), append_strOf]

/-- What Text answers of both texts as one. -/
def ZOk (t1 t2 : List Nd) (W : World) (e : Ending) (w' : World) : Prop := Below W.heap.size W w' ∧ ∃ v k a, e = .returned (.tuple #[v, .int .i64 k, .int .i64 a]) ∧
  ((∀ y ∈ t2, y.kind ≠ 2) → k = 3 ∨ k = 0 ∧ ∃ x x2 ks ks2, t1 = join x ks ∧ t2 = join x2 ks2 ∧ NR W w' v (join x (ks ++ ks2)) ∧ Fit (join x (ks ++ ks2)) ∧ (join x (ks ++ ks2)).length ≤ 2000 ∧ ks.length ≤ 2000 ∧ ks2.length ≤ 2000)
theorem z_any {A B : List UInt8} {L1 L2 : List Tk} {t1 t2 : List Nd} (hA : A.length ≤ 1000) (hB : B.length ≤ 1000) (hX : Goods (hdB ++ A ++ [10]) L1 t1) (hY : Goods (hdB ++ B ++ [10]) L2 t2) (W : World) (HE : HasE W) :
    Calls Tryz.prog 13 #[.string (strOf (hdB ++ A ++ [10] ++ B ++ [10]))] W fun e w' => ZOk t1 t2 W e w' := by
  by_cases hu : ∀ y ∈ t2, y.kind ≠ 2
  · obtain ⟨x, x2, ks, ks2, L3, h1, h2, h3, h4, h5, h6, h7⟩ := more_text hX hY hu
    have hf1 : ks.length ≤ 2000 := by have h := hX.len.2; rw [h1] at h; have : ks.flatten.length + 1 ≤ 2000 := h; omega
    have hf2 : ks2.length ≤ 2000 := by have h := hY.len.2; rw [h2] at h; have : ks2.flatten.length + 1 ≤ 2000 := h; omega
    have hl : (hdB ++ A ++ [10] ++ B ++ [10]).length ≤ 8192 := by simp [hdB]; omega
    by_cases hbig : 2000 < (join x (ks ++ ks2)).length
    · rw [if_pos hbig] at h5
      refine (text_odd hl h3 h4 (by rw [h5]; decide) W HE).mono fun e w' ⟨he, hb⟩ => ⟨hb, _, _, _, he, fun _ => .inl (by rw [h5])⟩
    · rw [if_neg hbig] at h5
      exact (text_good ⟨hl, h3, h4, by rw [h5]⟩ W HE).mono fun e w' ⟨v, he, hr, hf⟩ => ⟨hr.below, v, 0, 0, he, fun _ => .inr ⟨rfl, x, x2, ks, ks2, h1, h2, hr, hf, by omega, hf1, hf2⟩⟩
  · exact (text_some _ W HE).mono fun e w' ⟨⟨v, k, a, he⟩, hb⟩ => ⟨hb, v, k, a, he, fun h => absurd h hu⟩

theorem nr_form {w W : World} {v : Value} {T : List Nd} (h : NR w W v T) (h0 : 0 < T.length) : ∃ g o c, v = .slice (some ⟨g, o, none⟩) T.length c ∧ T.length ≤ c ∧ g < W.heap.size ∧ W.rangeAt g o (ncells T) := by
  rcases h.row.2 with ⟨-, h0'⟩ | ⟨g, cap, cur, hv, hbg, hg, h3, h4, h5, h6⟩
  · omega
  · refine ⟨g, 0, cap, hv, h3, (Array.getElem?_eq_some_iff.1 hg).1, ?_⟩
    have := h.row
    rw [hv] at this
    exact ownsRow_range this

set_option maxHeartbeats 4000000 in
set_option maxRecDepth 100000 in
theorem more_main (A B : List UInt8) (hA : A.length ≤ 1000) (hB : B.length ≤ 1000) (L1 L2 : List Tk) (t1 t2 : List Nd) (hX : Goods (hdB ++ A ++ [10]) L1 t1) (hY : Goods (hdB ++ B ++ [10]) L2 t2) (w : World) (HE : HasE w) :
    Calls Tryz.prog 8 #[.string (strOf A), .string (strOf B)] w fun e w' => e = .returned (.bool true) ∧ Below w.heap.size w w' := by
  have HHE := Lib.hid HE
  have KN := Lib.hid (fun W h => known10 W h)
  have h1 : ¬((strOf A).size : Int) > 1000 := by rw [strOf_size]; omega
  have h2 : ¬((strOf B).size : Int) > 1000 := by rw [strOf_size]; omega
  have S1 := Lib.hid (text_good hX)
  have S2 := Lib.hid (text_good hY)
  have S3 := Lib.hid (z_any hA hB hX hY)
  have p1 : ∀ W : World, (Op.stringOp .add (strOf hdB) (strOf A)).run Tryz.prog W = .ok (.string (strOf (hdB ++ A))) W := fun W => add_run hdB A (by simp [hdB]; omega) W
  have p2 : ∀ W : World, (Op.stringOp .add (strOf (hdB ++ A)) ⟨#[10]⟩).run Tryz.prog W = .ok (.string (strOf (hdB ++ A ++ [10]))) W := fun W => add_run (hdB ++ A) [10] (by simp [hdB]; omega) W
  have p3 : ∀ W : World, (Op.stringOp .add (strOf hdB) (strOf B)).run Tryz.prog W = .ok (.string (strOf (hdB ++ B))) W := fun W => add_run hdB B (by simp [hdB]; omega) W
  have p4 : ∀ W : World, (Op.stringOp .add (strOf (hdB ++ B)) ⟨#[10]⟩).run Tryz.prog W = .ok (.string (strOf (hdB ++ B ++ [10]))) W := fun W => add_run (hdB ++ B) [10] (by simp [hdB]; omega) W
  have p5 : ∀ W : World, (Op.stringOp .add (strOf (hdB ++ A ++ [10])) (strOf B)).run Tryz.prog W = .ok (.string (strOf (hdB ++ A ++ [10] ++ B))) W := fun W => add_run (hdB ++ A ++ [10]) B (by simp [hdB]; omega) W
  have p6 : ∀ W : World, (Op.stringOp .add (strOf (hdB ++ A ++ [10] ++ B)) ⟨#[10]⟩).run Tryz.prog W = .ok (.string (strOf (hdB ++ A ++ [10] ++ B ++ [10]))) W := fun W => add_run (hdB ++ A ++ [10] ++ B) [10] (by simp [hdB]; omega) W
  have HL1 := Lib.hid hX.len
  have HL2 := Lib.hid hY.len
  clear hA hB HE hX hY
  change ∀ W : World, (Op.stringOp .add ⟨#[109, 111, 100, 117, 108, 101, 32, 109, 32, 49, 59, 32]⟩ (strOf A)).run Tryz.prog W = _ at p1
  change ∀ W : World, (Op.stringOp .add ⟨#[109, 111, 100, 117, 108, 101, 32, 109, 32, 49, 59, 32]⟩ (strOf B)).run Tryz.prog W = _ at p3
  generalize strOf (hdB ++ A ++ [10] ++ B ++ [10]) = z6 at *
  generalize strOf (hdB ++ A ++ [10] ++ B) = z5 at *
  generalize strOf (hdB ++ A ++ [10]) = z2 at *
  generalize strOf (hdB ++ B ++ [10]) = z4 at *
  generalize strOf (hdB ++ A) = z1 at *
  generalize strOf (hdB ++ B) = z3 at *
  generalize strOf A = sA at *
  generalize strOf B = sB at *
  go_enter Tryz.func8, Tryz.ntmps8
  go_wp2_with fail
  refine (S1.out w HHE.out).mono ?_
  rintro e w1 ⟨v1, rfl, hr1, hf1⟩
  obtain ⟨g1, o1, c1, hv1, hc1, hg1, hq1⟩ := nr_form hr1 HL1.out.1
  have HB1 := Lib.hid hr1.below
  have HR1 : Hid (Nds w1 v1 t1) := Lib.hid (hr1.nds hf1)
  rw [hv1] at HR1 ⊢
  have HF1 := Lib.hid (show t1.length ≤ c1 ∧ g1 < w1.heap.size ∧ w1.rangeAt g1 o1 (ncells t1) ∧ Fit t1 from ⟨hc1, hg1, hq1, hf1⟩)
  clear hr1 hv1 hc1 hg1 hq1 hf1 S1
  go_wp2_with fail
  refine (S2.out w1 (HHE.out.later HB1.out)).mono ?_
  rintro e w2 ⟨v2, rfl, hr2, hf2⟩
  obtain ⟨g2, o2, c2, hv2, hc2, hg2, hq2⟩ := nr_form hr2 HL2.out.1
  have HB12 := Lib.hid hr2.below
  have HB2 := Lib.hid (chain2 HB1.out hr2.below)
  have HF2 := Lib.hid (show t2.length ≤ c2 ∧ g2 < w2.heap.size ∧ w2.rangeAt g2 o2 (ncells t2) ∧ Fit t2 from ⟨hc2, hg2, hq2, hf2⟩)
  rw [hv2]
  clear hr2 hv2 hc2 hg2 hq2 hf2 S2
  go_wp2_with fail
  refine (S3.out w2 (HHE.out.later HB2.out)).mono ?_
  rintro e w3 ⟨hb3, v3, k3, a3, rfl, hz⟩
  have HB23 := Lib.hid hb3
  have HB3 := Lib.hid (chain2 HB2.out hb3)
  have HB13 := Lib.hid (chain2 HB12.out hb3)
  have HZ := Lib.hid hz
  clear hb3 hz S3 p1 p2 p3 p4 p5 p6
  obtain ⟨n1, hn1⟩ : ∃ n, n = t1.length := ⟨_, rfl⟩
  obtain ⟨n2, hn2⟩ : ∃ n, n = t2.length := ⟨_, rfl⟩
  have HN1 := Lib.hid hn1
  have HN2 := Lib.hid hn2
  have e1 : ((n1 : Int) == 0) = false := by have := HL1.out.1; simp; omega
  have e2 : ((n2 : Int) == 0) = false := by have := HL2.out.1; simp; omega
  have b1 : n1 ≤ 2000 := by have := HL1.out.2; omega
  have b2 : n2 ≤ 2000 := by have := HL2.out.2; omega
  rw [← hn1, ← hn2]
  clear hn1 hn2
  go_wp2
  go_loopw [15] (fun vi wr => ∃ i : Nat, i ≤ n2 ∧ vi = .int .i64 (i : Int) ∧ wr = w3 ∧ Hid (∀ j (hj : j < t2.length), j < i → t2[j].kind ≠ 2)) (fun vi _ => n2 - (intOf vi).toNat)
  case atStart => exact ⟨0, Nat.zero_le _, rfl, rfl, Lib.hid (fun j _ h => by omega)⟩
  case round =>
    obtain ⟨i, hi, rfl, rfl, hG⟩ := hrel
    by_cases hlt : i < n2
    · have hil : i < t2.length := by rw [← HN2.out]; exact hlt
      obtain ⟨q1, q2, q3, q4⟩ := HF2.out
      have hcell : wr.cell? ⟨g2, o2 + i * 5, none⟩ = some (.int .i64 t2[i].kind) := by
        obtain ⟨g', o', hp, -, hc, -⟩ := (Nds.node (W := wr) (p := some ⟨g2, o2, none⟩) (m := t2.length) (c := c2) ⟨_, _, rfl, q1, q4, .inr ⟨g2, o2, rfl, by have := HB23.out.size; omega, rangeAt_block q3 (HB23.out.block g2 q2)⟩⟩ i hil)
        cases hp; exact hc
      have z0 : (0 : Int) ≤ (i : Int) := by omega
      have z1 : (i : Int) < (n2 : Int) := by omega
      have HK : Hid (t2[i].kind ≠ 2 → ∀ j (hj : j < t2.length), j < i + 1 → t2[j].kind ≠ 2) := Lib.hid (fun h j hj hji => by
        by_cases e : j = i
        · subst e; exact h
        · exact hG.out j hj (by omega))
      generalize t2[i].kind = kk at *
      clear q1 q2 q3 q4 hil hG
      by_cases hkk : kk = 2
      · have e3 : (kk == 2) = true := by simpa using hkk
        clear hkk
        go_wp2_with (go_at_call 12; refine (KN.out _ (HHE.out.later HB3.out)).mono ?_; rintro e w6 ⟨rfl, hb6⟩; have HB6 := Lib.hid (chain2 HB3.out hb6); clear hb6)
        go_ret
        exact ⟨rfl, HB6.out⟩
      · have e3 : (kk == 2) = false := by simpa using hkk
        have HK2 := Lib.hid (HK.out hkk)
        clear hkk HK
        go_wp2
        go_roundw
        case rel => exact ⟨i + 1, by omega, by go_num, by trivial, HK2⟩
        case measure => simp [intOf]; omega
    · obtain rfl : n2 = i := by omega
      rcases HZ.out (fun y hy => by
        obtain ⟨j, hj, rfl⟩ := List.getElem_of_mem hy
        exact hG.out j hj (by rw [HN2.out]; exact hj)) with rfl | ⟨rfl, x, x2, ks, ks2, ht1, ht2, hr3, hf3, h2000, hkl1, hkl2⟩
      · clear hG hlt hi
        go_wp2_with (go_at_call 12; refine (KN.out _ (HHE.out.later HB3.out)).mono ?_; rintro e w6 ⟨rfl, hb6⟩; have HB6 := Lib.hid (chain2 HB3.out hb6); clear hb6)
        go_ret
        exact ⟨rfl, HB6.out⟩
      · obtain ⟨g3, o3, c3, hv3, hc3, hg3, hq3⟩ := nr_form hr3 (by show 0 < _ + 1; omega)
        have hl1 : t1.length = ks.flatten.length + 1 := by rw [ht1]; rfl
        have hl2 : t2.length = ks2.flatten.length + 1 := by rw [ht2]; rfl
        have hl3 : (join x (ks ++ ks2)).length = ks.flatten.length + ks2.flatten.length + 1 := by show (ks ++ ks2).flatten.length + 1 = _; simp
        have hk1 : ∀ W, Nds W (.slice (some ⟨g1, o1, none⟩) t1.length c1) t1 → W.cell? ⟨g1, o1 + 1, none⟩ = some (.int .i64 (ks.length : Int)) := by
          intro W h
          obtain ⟨g', o', hp, -, -, hc, -⟩ := h.node 0 (by omega)
          cases hp
          rw [Nat.zero_mul, Nat.add_zero] at hc
          rw [hc]; subst ht1; rfl
        have hk2 : ∀ W, Nds W (.slice (some ⟨g2, o2, none⟩) t2.length c2) t2 → W.cell? ⟨g2, o2 + 1, none⟩ = some (.int .i64 (ks2.length : Int)) := by
          intro W h
          obtain ⟨g', o', hp, -, -, hc, -⟩ := h.node 0 (by omega)
          cases hp
          rw [Nat.zero_mul, Nat.add_zero] at hc
          rw [hc]; subst ht2; rfl
        have hk3 : ∀ W, Nds W (.slice (some ⟨g3, o3, none⟩) (join x (ks ++ ks2)).length c3) (join x (ks ++ ks2)) → W.cell? ⟨g3, o3 + 1, none⟩ = some (.int .i64 ((ks.length : Int) + (ks2.length : Int))) := by
          intro W h
          obtain ⟨g', o', hp, -, -, hc, -⟩ := h.node 0 (by omega)
          cases hp
          rw [Nat.zero_mul, Nat.add_zero] at hc
          rw [hc]
          show some (Value.int .i64 (((ks ++ ks2).length : Nat) : Int)) = _
          rw [List.length_append, Int.natCast_add]
        obtain ⟨q1, q2, q3, q4⟩ := HF1.out
        obtain ⟨u1, u2, u3, u4⟩ := HF2.out
        have r1 : wr.rangeAt g1 o1 (ncells t1) := rangeAt_block q3 (HB13.out.block g1 q2)
        have r2 : wr.rangeAt g2 o2 (ncells t2) := rangeAt_block u3 (HB23.out.block g2 u2)
        have l1 : g1 < wr.heap.size := by have := HB13.out.size; omega
        have l2 : g2 < wr.heap.size := by have := HB23.out.size; omega
        have d1 := hk1 wr ⟨_, _, rfl, q1, q4, .inr ⟨g1, o1, rfl, l1, r1⟩⟩
        have d2 := hk2 wr ⟨_, _, rfl, u1, u4, .inr ⟨g2, o2, rfl, l2, r2⟩⟩
        have d3 := hk3 wr ⟨_, _, rfl, hc3, hf3, .inr ⟨g3, o3, rfl, hg3, hq3⟩⟩
        obtain ⟨qa, sa, na⟩ := nd_mid hg3 hq3 (show 1 ≤ n1 by rw [HN1.out]; omega) (show n1 ≤ _ by rw [HN1.out]; omega) hc3 hf3
        obtain ⟨qb, sb, nb⟩ := nd_from (k := 1) l1 r1 (by omega) q1 q4
        obtain ⟨qc, sc, nc⟩ := nd_from (k := n1) hg3 hq3 (by rw [HN1.out]; omega) hc3 hf3
        obtain ⟨qd, sd, nd⟩ := nd_from (k := 1) l2 r2 (by omega) u1 u4
        have ea : ((join x (ks ++ ks2)).drop 1).take (n1 - 1) = ks.flatten := by
          show ((ks ++ ks2).flatten).take (n1 - 1) = _
          rw [HN1.out, hl1, Nat.add_sub_cancel, List.flatten_append, List.take_left]
        have eb : t1.drop 1 = ks.flatten := by rw [ht1]; rfl
        have ec : (join x (ks ++ ks2)).drop n1 = ks2.flatten := by
          rw [HN1.out, hl1]
          show ((ks ++ ks2).flatten).drop ks.flatten.length = _
          rw [List.flatten_append, List.drop_left]
        have ed : t2.drop 1 = ks2.flatten := by rw [ht2]; rfl
        rw [ea] at na
        rw [eb] at nb
        rw [ec] at nc
        rw [ed] at nd
        rw [← HN1.out] at sb nb
        rw [← HN2.out] at sd nd
        have C1 := Lib.hid (fun W (hb : Below wr.heap.size wr W) => same_nodes ks.flatten _ _ W (na.later hb) (nb.later hb) (by omega))
        have C2 := Lib.hid (fun W (hb : Below wr.heap.size wr W) => same_nodes ks2.flatten _ _ W (nc.later hb) (nd.later hb) (by omega))
        have hn3 : (join x (ks ++ ks2)).length = n1 + n2 - 1 := by rw [HN1.out, HN2.out]; omega
        rw [hv3]
        generalize (join x (ks ++ ks2)).length = n3 at *
        generalize ks.length = m1 at *
        generalize ks2.length = m2 at *
        clear hG hr3 hf3 hv3 hq3 hk1 hk2 hk3 q1 q2 q3 q4 u1 u2 u3 u4 r1 r2 na nb nc nd ea eb ec ed ht1 ht2 hl1 hl2 hl3
        have f1 : IntKind.i64.wrap ((n1 : Int) + (n2 : Int)) = (n1 : Int) + (n2 : Int) := IntWalk.i64_in _ (by omega)
        have f2 : IntKind.i64.wrap ((n1 : Int) + (n2 : Int) - 1) = (n1 : Int) + (n2 : Int) - 1 := IntWalk.i64_in _ (by omega)
        have f3 : ((n3 : Int) == (n1 : Int) + (n2 : Int) - 1) = true := by have := HL1.out.1; have := HN1.out; rw [beq_iff_eq]; omega
        have f4 : IntKind.i64.wrap ((m1 : Int) + (m2 : Int)) = (m1 : Int) + (m2 : Int) := IntWalk.i64_in _ (by omega)
        have f5 : ((m1 : Int) + (m2 : Int) == (m1 : Int) + (m2 : Int)) = true := by simp
        have z0 : (0 : Int) < (n1 : Int) := by have := HL1.out.1; have := HN1.out; omega
        have z1 : (0 : Int) < (n2 : Int) := by have := HL2.out.1; have := HN2.out; omega
        have z2 : (0 : Int) < (n3 : Int) := by omega
        have y0 : 0 < n1 := by omega
        have y1 : 0 < n2 := by omega
        have y2 : 0 < n3 := by omega
        rw [show ((1 : Nat) : Int) = 1 from rfl] at sa sb sd
        clear hn3 HZ hi hlt
        go_wp2_with fail
        have hS0 : wr.cell? ⟨g1, o1 + 1, none⟩ = some (.int .i64 (m1 : Int)) ∧ wr.cell? ⟨g2, o2 + 1, none⟩ = some (.int .i64 (m2 : Int)) ∧ wr.cell? ⟨g3, o3 + 1, none⟩ = some (.int .i64 ((m1 : Int) + (m2 : Int))) ∧ Below wr.heap.size wr wr := ⟨d1, d2, d3, Below.refl _ _⟩
        have HKs : Hid (∀ W1 W2, Below W1.heap.size W1 W2 → (W1.cell? ⟨g1, o1 + 1, none⟩ = some (.int .i64 (m1 : Int)) ∧ W1.cell? ⟨g2, o2 + 1, none⟩ = some (.int .i64 (m2 : Int)) ∧ W1.cell? ⟨g3, o3 + 1, none⟩ = some (.int .i64 ((m1 : Int) + (m2 : Int))) ∧ Below wr.heap.size wr W1) →
            (W2.cell? ⟨g1, o1 + 1, none⟩ = some (.int .i64 (m1 : Int)) ∧ W2.cell? ⟨g2, o2 + 1, none⟩ = some (.int .i64 (m2 : Int)) ∧ W2.cell? ⟨g3, o3 + 1, none⟩ = some (.int .i64 ((m1 : Int) + (m2 : Int))) ∧ Below wr.heap.size wr W2)) := Lib.hid (fun W1 W2 hb ⟨x1, x2, x3, hh⟩ => by
          have y : ∀ {g o : Nat} {v : Value}, g < W1.heap.size → W1.cell? ⟨g, o, none⟩ = some v → W2.cell? ⟨g, o, none⟩ = some v := fun hg h => by rw [hb.cell (p := ⟨_, _, none⟩) hg]; exact h
          have hsz := hh.size
          exact ⟨y (by omega) x1, y (by omega) x2, y (by omega) x3, chain2 hh hb⟩)
        have hB0 : Below wr.heap.size wr wr.drew := (Below.refl _ _).drew
        clear d1 d2 d3 l1 l2 hg3
        go_region_held3 (fun W => W.cell? ⟨g1, o1 + 1, none⟩ = some (.int .i64 (m1 : Int)) ∧ W.cell? ⟨g2, o2 + 1, none⟩ = some (.int .i64 (m2 : Int)) ∧ W.cell? ⟨g3, o3 + 1, none⟩ = some (.int .i64 ((m1 : Int) + (m2 : Int))) ∧ Below wr.heap.size wr W) (first | assumption | exact HKs.out _ _ (by assumption) (by assumption)) (first
          | (go_at_call 15; (with_reducible refine (C1.out _ (‹_ ∧ _ ∧ _ ∧ Below wr.heap.size wr _›).2.2.2).mono ?_); rintro e W4 ⟨rfl, hb⟩)
          | (go_at_call 15; (with_reducible refine (C2.out _ (‹_ ∧ _ ∧ _ ∧ Below wr.heap.size wr _›).2.2.2).mono ?_); rintro e W5 ⟨rfl, hb⟩)
          | (go_at_call 12; refine (KN.out _ (HHE.out.later (chain2 HB3.out (‹_ ∧ _ ∧ _ ∧ Below wr.heap.size wr _›).2.2.2))).mono ?_; rintro e W6 ⟨rfl, hb⟩))
        have hh := ‹_ ∧ _ ∧ _ ∧ Below wr.heap.size wr W6›
        have HB6 := Lib.hid (chain2 HB3.out hh.2.2.2)
        clear hh
        try clear ‹_ ∧ _ ∧ _ ∧ Below wr.heap.size wr W6›
        go_wp2
        go_ret
        exact ⟨rfl, HB6.out⟩

set_option maxHeartbeats 4000000 in
set_option maxRecDepth 100000 in
/-- One of the two is none. -/
theorem more_none (A B : List UInt8) (hA : A.length ≤ 1000) (hB : B.length ≤ 1000) (hN : (¬∃ L t, Goods (hdB ++ A ++ [10]) L t) ∨ ¬∃ L t, Goods (hdB ++ B ++ [10]) L t) (w : World) (HE : HasE w) :
    Calls Tryz.prog 8 #[.string (strOf A), .string (strOf B)] w fun e w' => e = .returned (.bool true) ∧ Below w.heap.size w w' := by
  have HHE := Lib.hid HE
  have KN := Lib.hid (fun W h => known10 W h)
  have h1 : ¬((strOf A).size : Int) > 1000 := by rw [strOf_size]; omega
  have h2 : ¬((strOf B).size : Int) > 1000 := by rw [strOf_size]; omega
  have p1 : ∀ W : World, (Op.stringOp .add (strOf hdB) (strOf A)).run Tryz.prog W = .ok (.string (strOf (hdB ++ A))) W := fun W => add_run hdB A (by simp [hdB]; omega) W
  have p2 : ∀ W : World, (Op.stringOp .add (strOf (hdB ++ A)) ⟨#[10]⟩).run Tryz.prog W = .ok (.string (strOf (hdB ++ A ++ [10]))) W := fun W => add_run (hdB ++ A) [10] (by simp [hdB]; omega) W
  have p3 : ∀ W : World, (Op.stringOp .add (strOf hdB) (strOf B)).run Tryz.prog W = .ok (.string (strOf (hdB ++ B))) W := fun W => add_run hdB B (by simp [hdB]; omega) W
  have p4 : ∀ W : World, (Op.stringOp .add (strOf (hdB ++ B)) ⟨#[10]⟩).run Tryz.prog W = .ok (.string (strOf (hdB ++ B ++ [10]))) W := fun W => add_run (hdB ++ B) [10] (by simp [hdB]; omega) W
  have p5 : ∀ W : World, (Op.stringOp .add (strOf (hdB ++ A ++ [10])) (strOf B)).run Tryz.prog W = .ok (.string (strOf (hdB ++ A ++ [10] ++ B))) W := fun W => add_run (hdB ++ A ++ [10]) B (by simp [hdB]; omega) W
  have p6 : ∀ W : World, (Op.stringOp .add (strOf (hdB ++ A ++ [10] ++ B)) ⟨#[10]⟩).run Tryz.prog W = .ok (.string (strOf (hdB ++ A ++ [10] ++ B ++ [10]))) W := fun W => add_run (hdB ++ A ++ [10] ++ B) [10] (by simp [hdB]; omega) W
  have S1 : Hid (∀ W, HasE W → Calls Tryz.prog 13 #[.string (strOf (hdB ++ A ++ [10]))] W fun e w' => (∃ v k a, e = .returned (.tuple #[v, .int .i64 k, .int .i64 a]) ∧ ((∃ L t, Goods (hdB ++ A ++ [10]) L t) ∨ k ≠ 0)) ∧ Below W.heap.size W w') := Lib.hid (fun W HE => by
    by_cases h : ∃ L t, Goods (hdB ++ A ++ [10]) L t
    · exact (text_some _ W HE).mono fun e w' ⟨⟨v, k, a, he⟩, hb⟩ => ⟨⟨v, k, a, he, .inl h⟩, hb⟩
    · exact (text_none h W HE).mono fun e w' ⟨⟨k, a, he, hk⟩, hb⟩ => ⟨⟨_, k, a, he, .inr hk⟩, hb⟩)
  have S2 : Hid (∀ W, HasE W → Calls Tryz.prog 13 #[.string (strOf (hdB ++ B ++ [10]))] W fun e w' => (∃ v k a, e = .returned (.tuple #[v, .int .i64 k, .int .i64 a]) ∧ ((∃ L t, Goods (hdB ++ B ++ [10]) L t) ∨ k ≠ 0)) ∧ Below W.heap.size W w') := Lib.hid (fun W HE => by
    by_cases h : ∃ L t, Goods (hdB ++ B ++ [10]) L t
    · exact (text_some _ W HE).mono fun e w' ⟨⟨v, k, a, he⟩, hb⟩ => ⟨⟨v, k, a, he, .inl h⟩, hb⟩
    · exact (text_none h W HE).mono fun e w' ⟨⟨k, a, he, hk⟩, hb⟩ => ⟨⟨_, k, a, he, .inr hk⟩, hb⟩)
  have S3 := Lib.hid (text_some (hdB ++ A ++ [10] ++ B ++ [10]))
  have HN := Lib.hid hN
  clear hA hB HE hN
  change ∀ W : World, (Op.stringOp .add ⟨#[109, 111, 100, 117, 108, 101, 32, 109, 32, 49, 59, 32]⟩ (strOf A)).run Tryz.prog W = _ at p1
  change ∀ W : World, (Op.stringOp .add ⟨#[109, 111, 100, 117, 108, 101, 32, 109, 32, 49, 59, 32]⟩ (strOf B)).run Tryz.prog W = _ at p3
  generalize strOf (hdB ++ A ++ [10] ++ B ++ [10]) = z6 at *
  generalize strOf (hdB ++ A ++ [10] ++ B) = z5 at *
  generalize strOf (hdB ++ A ++ [10]) = z2 at *
  generalize strOf (hdB ++ B ++ [10]) = z4 at *
  generalize strOf (hdB ++ A) = z1 at *
  generalize strOf (hdB ++ B) = z3 at *
  generalize strOf A = sA at *
  generalize strOf B = sB at *
  go_enter Tryz.func8, Tryz.ntmps8
  go_wp2_with fail
  refine (S1.out w HHE.out).mono ?_
  rintro e w1 ⟨⟨v1, k1, a1, rfl, hk1⟩, hb1⟩
  have HB1 := Lib.hid hb1
  have HK1 := Lib.hid hk1
  clear hb1 hk1 S1
  go_wp2_with fail
  refine (S2.out w1 (HHE.out.later HB1.out)).mono ?_
  rintro e w2 ⟨⟨v2, k2, a2, rfl, hk2⟩, hb2⟩
  have HB2 := Lib.hid (chain2 HB1.out hb2)
  have HK2 := Lib.hid hk2
  clear hb2 hk2 S2
  go_wp2_with fail
  refine (S3.out w2 (HHE.out.later HB2.out)).mono ?_
  rintro e w3 ⟨⟨v3, k3, a3, rfl⟩, hb3⟩
  have HB3 := Lib.hid (chain2 HB2.out hb3)
  clear hb3 S3 p1 p2 p3 p4 p5 p6
  by_cases hk1 : k1 = 0
  · have hk2 : k2 ≠ 0 := by
      rcases HN.out with h | h
      · rcases HK1.out with h' | h'
        · exact absurd h' h
        · exact absurd hk1 h'
      · rcases HK2.out with h' | h'
        · exact absurd h' h
        · exact h'
    subst hk1
    have e1 : (k2 != 0) = true := by simpa using hk2
    clear hk2 HK1 HK2 HN
    go_wp2_with (go_at_call 12; refine (KN.out _ (HHE.out.later HB3.out)).mono ?_; rintro e w6 ⟨rfl, hb6⟩; have HB6 := Lib.hid (chain2 HB3.out hb6); clear hb6)
    go_ret
    exact ⟨rfl, HB6.out⟩
  · have e1 : (k1 != 0) = true := by simpa using hk1
    clear hk1 HK1 HK2 HN
    go_wp2_with (go_at_call 12; refine (KN.out _ (HHE.out.later HB3.out)).mono ?_; rintro e w6 ⟨rfl, hb6⟩; have HB6 := Lib.hid (chain2 HB3.out hb6); clear hb6)
    go_ret
    exact ⟨rfl, HB6.out⟩

set_option maxHeartbeats 4000000 in
set_option maxRecDepth 100000 in
theorem parseMore_law (a : ByteArray) (_ha : a.size ≤ maxLen) (b : ByteArray) (_hb : b.size ≤ maxLen) (w : World) (HE : HasE w) :
    Calls Tryz.prog 8 #[.string a, .string b] w fun e w' => e = .returned (.bool true) ∧ Below w.heap.size w w' := by
  have KN := Lib.hid (fun W h => known10 W h)
  by_cases hs : a.size ≤ 1000 ∧ b.size ≤ 1000
  case neg =>
    have HHE := Lib.hid HE
    clear HE
    by_cases ha : a.size ≤ 1000
    · have g1 : ¬(a.size : Int) > 1000 := by omega
      have g2 : (b.size : Int) > 1000 := by omega
      clear hs ha
      go_enter Tryz.func8, Tryz.ntmps8
      go_wp2_with (go_at_call 12; refine (KN.out _ HHE.out).mono ?_; rintro e w3 ⟨rfl, hb3⟩; have HB3 := Lib.hid hb3; clear hb3)
      go_ret
      exact ⟨rfl, HB3.out⟩
    · have g1 : (a.size : Int) > 1000 := by omega
      clear hs ha
      go_enter Tryz.func8, Tryz.ntmps8
      go_wp2_with (go_at_call 12; refine (KN.out _ HHE.out).mono ?_; rintro e w3 ⟨rfl, hb3⟩; have HB3 := Lib.hid hb3; clear hb3)
      go_ret
      exact ⟨rfl, HB3.out⟩
  obtain ⟨A, rfl, hA⟩ := toS a
  obtain ⟨B, rfl, hB⟩ := toS b
  rw [strOf_size, strOf_size] at hs
  obtain ⟨hs1, hs2⟩ := hs
  by_cases hX : ∃ L t, Goods (hdB ++ A ++ [10]) L t
  · by_cases hY : ∃ L t, Goods (hdB ++ B ++ [10]) L t
    · obtain ⟨L1, t1, hX⟩ := hX
      obtain ⟨L2, t2, hY⟩ := hY
      exact more_main A B hs1 hs2 L1 L2 t1 t2 hX hY w HE
    · obtain ⟨L1, t1, hX⟩ := hX
      exact more_none A B hs1 hs2 (.inr hY) w HE
  · exact more_none A B hs1 hs2 (.inl hX) w HE

end Go.Proofs.YtbbkogjkpehmjaaGreatDoor.Pa
