/- Parts of a row of protos; the walk of image.Right: its contract. No condition but those that each states. -/
import Derived.Test.YtmloljfnnkfkjaaDoorMgAH
namespace Go.Proofs.YtmloljfnnkfkjaaDoor.Im
open Go.RowKit Dk In
variable {X : Nat → Prop}

theorem pr_size6 (W : World) : (sizeOf (Tryd.prog.elem 23)).run Tryd.prog W = .ok 6 W := by kernel_rfl
theorem slice_to (p : Option Addr) (n c k : Nat) (hk : k ≤ c) (hp : p = none ∨ ∃ g o, p = some ⟨g, o, none⟩) (W : World) :
    (Instr.slice 23 (.slice p n c) none (some (.int .i64 (k : Int))) none).run Tryd.prog W = .ok (.slice p k c) W := by
  rw [run_slice_h W 23 p n c (by kernel_rfl) .i64 (k : Int) (by omega) (by omega), pr_size6]
  show Result.ok (sliced p 0 (k : Int).toNat c 6) W = _
  unfold sliced
  rcases hp with rfl | ⟨g, o, rfl⟩
  · simp
  · simp [Addr.add_mid]
theorem slice_from (p : Option Addr) (n c k : Nat) (hk : k ≤ n) (W : World) :
    (Instr.slice 23 (.slice p n c) (some (.int .i64 (k : Int))) none none).run Tryd.prog W = .ok (.slice (if c = k then p else p.map (·.add (k * 6))) (n - k) (c - k)) W := by
  rw [run_slice_l W 23 p n c (by kernel_rfl) .i64 (k : Int) (by omega) (by omega), pr_size6]
  rfl
theorem Row.parts {W : World} {p : Option Addr} {c : Nat} {css : List (List Value)} (h : Row X W (.slice p css.length c) css) (h6 : ∀ c ∈ css, c.length = 6) (k : Nat) (hk : k ≤ css.length) :
    (∀ W', (Instr.slice 23 (.slice p css.length c) none (some (.int .i64 (k : Int))) none).run Tryd.prog W' = .ok (.slice p k c) W') ∧ Row X W (.slice p k c) (css.take k) ∧
    ∃ q, (∀ W', (Instr.slice 23 (.slice p css.length c) (some (.int .i64 (k : Int))) none none).run Tryd.prog W' = .ok (.slice q (css.length - k) (c - k)) W') ∧ Row X W (.slice q (css.length - k) (c - k)) (css.drop k) := by
  obtain ⟨p', c', e, hc, hp⟩ := h
  cases e
  have hkc : k ≤ c := by omega
  have hl1 : (css.take k).length = k := by rw [List.length_take, Nat.min_eq_left hk]
  have hl2 : (css.drop k).length = css.length - k := List.length_drop
  have hz : css = [] → k = 0 := fun h => by subst h; simpa using hk
  have hsp : css.flatten = (css.take k).flatten ++ (css.drop k).flatten := by rw [← List.flatten_append, List.take_append_drop]
  have hfl : k * 6 = (css.take k).flatten.length := by rw [flat_len (fun c hc => h6 c (List.mem_of_mem_take hc)), hl1]
  refine ⟨?_, ?_, ?_⟩
  · intro W'
    rcases hp with rfl | ⟨g, o, rfl, -, -⟩
    · have := hz rfl
      subst this
      rw [show (([] : List (List Value)).length) = 0 from rfl, run_slice_h W' 23 p 0 c (by kernel_rfl) .i64 ((0 : Nat) : Int) (by omega) (by omega), pr_size6]
      show Result.ok (sliced p 0 0 c 6) W' = _
      unfold sliced
      cases p with
      | none => simp
      | some a => cases a; simp [Addr.add]
    · exact slice_to _ _ _ _ hkc (.inr ⟨g, o, rfl⟩) W'
  · refine ⟨p, c, by rw [hl1], by rw [hl1]; exact hkc, ?_⟩
    rcases hp with rfl | ⟨g, o, rfl, hg, hr⟩
    · exact .inl (by simp)
    · refine .inr ⟨g, o, rfl, hg, ?_⟩
      rw [hsp] at hr
      exact rangeAt_left hr
  · refine ⟨_, fun W' => slice_from p _ c k hk W', _, _, by rw [hl2], by rw [hl2]; omega, ?_⟩
    by_cases hck : c = k
    · exact .inl (List.drop_eq_nil_of_le (by omega))
    · rw [if_neg hck]
      rcases hp with rfl | ⟨g, o, rfl, hg, hr⟩
      · exact .inl (by simp)
      · refine .inr ⟨g, o + k * 6, by simp [Addr.add_mid], hg, ?_⟩
        rw [hsp] at hr
        exact rangeAt_right hr hfl
theorem Each.take {W : World} {css : List (List Value)} {l : List Pr} (h : Each X W css l) (k : Nat) : Each X W (css.take k) (l.take k) := by
  have := h.part 0 k
  rwa [List.drop_zero, List.drop_zero] at this
theorem Each.drop {W : World} {css : List (List Value)} {l : List Pr} (h : Each X W css l) (k : Nat) : Each X W (css.drop k) (l.drop k) := by
  have := h.part k css.length
  rwa [List.take_of_length_le (by rw [List.length_drop]; omega), List.take_of_length_le (by rw [List.length_drop, h.len]; omega)] at this
theorem mem_at {α : Type} {l : List α} {i : Nat} {x : α} (h : l[i]? = some x) : x ∈ l := List.mem_of_getElem? h

set_option maxHeartbeats 2000000 in
set_option maxRecDepth 100000 in
theorem uright_any {cs : List Value} {u : Un} (w : World) (hu : UC X w cs u) (hs : SmU u) (HF : HasF w) : Calls Tryd.prog 12 #[.agg cs.toArray] w fun e w' => e = .returned (.bool (unB u)) ∧ Below w.heap.size w w' := by
  obtain ⟨vu, vp, rfl, h1, css, h2, h3⟩ := hu
  obtain ⟨W1, hW1⟩ : ∃ W1, W1 = w.alloc (.cells #[.string (strOf u.nm), .int .i64 u.ver, vu, .int .i64 u.funs, vp] 25) := ⟨_, rfl⟩
  have HB1 : Hid (Below w.heap.size w W1) := Lib.hid (by rw [hW1]; exact (Below.refl _ _).alloc (Nat.le_refl _) _)
  have HX1 : Hid (El W1 w.heap.size [.string (strOf u.nm), .int .i64 u.ver, vu, .int .i64 u.funs, vp]) := Lib.hid (by rw [hW1]; exact el_new w _ _)
  have hW2 := hW1.symm
  have NM := Lib.hid (fun W => Lx.name_any u.nm W hs.nm)
  have WV := Lib.hid (fun W => within_any u.ver 1 2147483647 W)
  have hlen := h3.len
  obtain ⟨pp, c, rfl⟩ := Row.form h2
  have WF := Lib.hid (fun W => within_any u.funs 0 (min 32 (css.length : Int)) W)
  have AU := Lib.hid (fun (W : World) (hb : Below w.heap.size w W) => row_us (l := u.uses) useB 16 16 rfl enters_rightUse (Row.later h1 hb) (us_three _) (us_ones _) (List.length_map _) hs.uses (fun i cs x e1 e2 W' _ => by rw [map_at e1 e2]; exact rightUse_any x W' (hs.use x (mem_at e2)).1 (hs.use x (mem_at e2)).2))
  have AP := Lib.hid (fun (W : World) (hb : Below w.heap.size w W) => row_pr (l := u.prs) prB 64 64 rfl enters_rightProto (Row.later h2 hb) h3.six h3.ones h3.len hs.prs (fun i cs x e1 e2 W' hb' => rightProto_any W' ((h3.at' i cs x e1 e2).later (chain2 hb hb')) (hs.pr x (mem_at e2)) (HF.later (chain2 hb hb'))))
  have PT : Hid (∀ k : Nat, u.funs = (k : Int) → k ≤ css.length → ∃ q, (∀ W', (Instr.slice 23 (.slice pp css.length c) none (some (.int .i64 (k : Int))) none).run Tryd.prog W' = .ok (.slice pp k c) W') ∧ (∀ W', (Instr.slice 23 (.slice pp css.length c) (some (.int .i64 (k : Int))) none none).run Tryd.prog W' = .ok (.slice q (css.length - k) (c - k)) W') ∧
      (∀ W, Below w.heap.size w W → Calls Tryd.prog 31 #[.slice pp k c, .int .i64 32, .func (.func 33) #[] #[]] W fun e W' => e = .returned (.bool (allB funB 32 (u.prs.take u.funs.toNat))) ∧ Below W.heap.size W W') ∧
      (∀ W, Below w.heap.size w W → Calls Tryd.prog 31 #[.slice q (css.length - k) (c - k), .int .i64 64, .func (.func 34) #[] #[]] W fun e W' => e = .returned (.bool (allB innerB 64 (u.prs.drop u.funs.toNat))) ∧ Below W.heap.size W W')) := Lib.hid (fun k hk hkl => by
    obtain ⟨r1, t1, q, r2, t2⟩ := Row.parts h2 h3.six k hkl
    have e1 := h3.take k
    have e2 := h3.drop k
    rw [hk, Int.toNat_natCast]
    refine ⟨q, r1, r2, fun W hb => ?_, fun W hb => ?_⟩
    · exact row_pr (l := u.prs.take k) funB 32 32 rfl enters_rightFun (Row.later t1 hb) e1.six e1.ones e1.len (by rw [List.length_take]; have := hs.prs; omega) (fun i cs x a1 a2 W' hb' => rightFun_any W' ((e1.at' i cs x a1 a2).later (chain2 hb hb')) (hs.pr x (List.mem_of_mem_take (mem_at a2))))
    · exact row_pr (l := u.prs.drop k) innerB 64 64 rfl enters_rightInner (Row.later t2 hb) e2.six e2.ones e2.len (by rw [List.length_drop]; have := hs.prs; omega) (fun i cs x a1 a2 W' hb' => rightInner_any W' ((e2.at' i cs x a1 a2).later (chain2 hb hb')) (hs.pr x (List.mem_of_mem_drop (mem_at a2)))))
  have HK : Hid (inB u.funs 0 (min 32 (css.length : Int)) = true → ∃ k : Nat, u.funs = (k : Int) ∧ k ≤ css.length) := Lib.hid (fun h => by
    rw [inB_iff] at h
    have := Int.min_le_right 32 (css.length : Int)
    exact ⟨u.funs.toNat, by omega, by omega⟩)
  show Calls _ _ #[.agg #[.string (strOf u.nm), .int .i64 u.ver, vu, .int .i64 u.funs, .slice pp css.length c]] w fun e w' => e = .returned (.bool (Lx.isName u.nm && inB u.ver 1 2147483647 && allB useB 16 u.uses && allB prB 64 u.prs && inB u.funs 0 (min 32 (u.prs.length : Int)) && allB funB 32 (u.prs.take u.funs.toNat) && allB innerB 64 (u.prs.drop u.funs.toNat))) ∧ Below w.heap.size w w'
  rw [← hlen]
  generalize allB funB 32 (u.prs.take u.funs.toNat) = E at *
  generalize allB innerB 64 (u.prs.drop u.funs.toNat) = F at *
  generalize allB prB 64 u.prs = D at *
  generalize allB useB 16 u.uses = C at *
  generalize Lx.isName u.nm = A at *
  generalize inB u.ver 1 2147483647 = B at *
  generalize strOf u.nm = sn at *
  generalize u.ver = ver at *
  generalize u.funs = fu at *
  generalize css.length = n at *
  have c0_1 : W1.cell? ⟨w.heap.size, 0, none⟩ = some (.string sn) := HX1.out.at 0 _ rfl
  have c1_1 : W1.cell? ⟨w.heap.size, 1, none⟩ = some (.int .i64 ver) := HX1.out.at 1 _ rfl
  have c2_1 : W1.cell? ⟨w.heap.size, 2, none⟩ = some (vu) := HX1.out.at 2 _ rfl
  have c3_1 : W1.cell? ⟨w.heap.size, 3, none⟩ = some (.int .i64 fu) := HX1.out.at 3 _ rfl
  have c4_1 : W1.cell? ⟨w.heap.size, 4, none⟩ = some (.slice pp n c) := HX1.out.at 4 _ rfl
  clear hW1 h1 h2 h3 hs HF hlen
  cases A with
  | false =>
    go_enter Tryd.func12, Tryd.ntmps12
    go_wp2_with fail
    refine (NM.out _).mono ?_
    rintro e W2 ⟨rfl, hb⟩
    have HX2 := Lib.hid (HX1.out.later hb)
    have HB2 := Lib.hid (chain2 HB1.out hb)
    have c0_2 : W2.cell? ⟨w.heap.size, 0, none⟩ = some (.string sn) := HX2.out.at 0 _ rfl
    have c1_2 : W2.cell? ⟨w.heap.size, 1, none⟩ = some (.int .i64 ver) := HX2.out.at 1 _ rfl
    have c2_2 : W2.cell? ⟨w.heap.size, 2, none⟩ = some (vu) := HX2.out.at 2 _ rfl
    have c3_2 : W2.cell? ⟨w.heap.size, 3, none⟩ = some (.int .i64 fu) := HX2.out.at 3 _ rfl
    have c4_2 : W2.cell? ⟨w.heap.size, 4, none⟩ = some (.slice pp n c) := HX2.out.at 4 _ rfl
    clear hb
    go_wp2
    go_ret
    exact ⟨rfl, HB2.out⟩
  | true =>
    cases B with
    | false =>
      go_enter Tryd.func12, Tryd.ntmps12
      go_wp2_with fail
      refine (NM.out _).mono ?_
      rintro e W2 ⟨rfl, hb⟩
      have HX2 := Lib.hid (HX1.out.later hb)
      have HB2 := Lib.hid (chain2 HB1.out hb)
      have c0_2 : W2.cell? ⟨w.heap.size, 0, none⟩ = some (.string sn) := HX2.out.at 0 _ rfl
      have c1_2 : W2.cell? ⟨w.heap.size, 1, none⟩ = some (.int .i64 ver) := HX2.out.at 1 _ rfl
      have c2_2 : W2.cell? ⟨w.heap.size, 2, none⟩ = some (vu) := HX2.out.at 2 _ rfl
      have c3_2 : W2.cell? ⟨w.heap.size, 3, none⟩ = some (.int .i64 fu) := HX2.out.at 3 _ rfl
      have c4_2 : W2.cell? ⟨w.heap.size, 4, none⟩ = some (.slice pp n c) := HX2.out.at 4 _ rfl
      clear hb
      go_wp2_with fail
      refine (WV.out _).mono ?_
      rintro e W3 ⟨rfl, rfl⟩
      go_wp2
      go_ret
      exact ⟨rfl, HB2.out⟩
    | true =>
      cases C with
      | false =>
        go_enter Tryd.func12, Tryd.ntmps12
        go_wp2_with fail
        refine (NM.out _).mono ?_
        rintro e W2 ⟨rfl, hb⟩
        have HX2 := Lib.hid (HX1.out.later hb)
        have HB2 := Lib.hid (chain2 HB1.out hb)
        have c0_2 : W2.cell? ⟨w.heap.size, 0, none⟩ = some (.string sn) := HX2.out.at 0 _ rfl
        have c1_2 : W2.cell? ⟨w.heap.size, 1, none⟩ = some (.int .i64 ver) := HX2.out.at 1 _ rfl
        have c2_2 : W2.cell? ⟨w.heap.size, 2, none⟩ = some (vu) := HX2.out.at 2 _ rfl
        have c3_2 : W2.cell? ⟨w.heap.size, 3, none⟩ = some (.int .i64 fu) := HX2.out.at 3 _ rfl
        have c4_2 : W2.cell? ⟨w.heap.size, 4, none⟩ = some (.slice pp n c) := HX2.out.at 4 _ rfl
        clear hb
        go_wp2_with fail
        refine (WV.out _).mono ?_
        rintro e W3 ⟨rfl, rfl⟩
        go_wp2_with fail
        refine (AU.out _ HB2.out).mono ?_
        rintro e W3 ⟨rfl, hb⟩
        have HX3 := Lib.hid (HX2.out.later hb)
        have HB3 := Lib.hid (chain2 HB2.out hb)
        have c0_3 : W3.cell? ⟨w.heap.size, 0, none⟩ = some (.string sn) := HX3.out.at 0 _ rfl
        have c1_3 : W3.cell? ⟨w.heap.size, 1, none⟩ = some (.int .i64 ver) := HX3.out.at 1 _ rfl
        have c2_3 : W3.cell? ⟨w.heap.size, 2, none⟩ = some (vu) := HX3.out.at 2 _ rfl
        have c3_3 : W3.cell? ⟨w.heap.size, 3, none⟩ = some (.int .i64 fu) := HX3.out.at 3 _ rfl
        have c4_3 : W3.cell? ⟨w.heap.size, 4, none⟩ = some (.slice pp n c) := HX3.out.at 4 _ rfl
        clear hb
        go_wp2
        go_ret
        exact ⟨rfl, HB3.out⟩
      | true =>
        cases D with
        | false =>
          go_enter Tryd.func12, Tryd.ntmps12
          go_wp2_with fail
          refine (NM.out _).mono ?_
          rintro e W2 ⟨rfl, hb⟩
          have HX2 := Lib.hid (HX1.out.later hb)
          have HB2 := Lib.hid (chain2 HB1.out hb)
          have c0_2 : W2.cell? ⟨w.heap.size, 0, none⟩ = some (.string sn) := HX2.out.at 0 _ rfl
          have c1_2 : W2.cell? ⟨w.heap.size, 1, none⟩ = some (.int .i64 ver) := HX2.out.at 1 _ rfl
          have c2_2 : W2.cell? ⟨w.heap.size, 2, none⟩ = some (vu) := HX2.out.at 2 _ rfl
          have c3_2 : W2.cell? ⟨w.heap.size, 3, none⟩ = some (.int .i64 fu) := HX2.out.at 3 _ rfl
          have c4_2 : W2.cell? ⟨w.heap.size, 4, none⟩ = some (.slice pp n c) := HX2.out.at 4 _ rfl
          clear hb
          go_wp2_with fail
          refine (WV.out _).mono ?_
          rintro e W3 ⟨rfl, rfl⟩
          go_wp2_with fail
          refine (AU.out _ HB2.out).mono ?_
          rintro e W3 ⟨rfl, hb⟩
          have HX3 := Lib.hid (HX2.out.later hb)
          have HB3 := Lib.hid (chain2 HB2.out hb)
          have c0_3 : W3.cell? ⟨w.heap.size, 0, none⟩ = some (.string sn) := HX3.out.at 0 _ rfl
          have c1_3 : W3.cell? ⟨w.heap.size, 1, none⟩ = some (.int .i64 ver) := HX3.out.at 1 _ rfl
          have c2_3 : W3.cell? ⟨w.heap.size, 2, none⟩ = some (vu) := HX3.out.at 2 _ rfl
          have c3_3 : W3.cell? ⟨w.heap.size, 3, none⟩ = some (.int .i64 fu) := HX3.out.at 3 _ rfl
          have c4_3 : W3.cell? ⟨w.heap.size, 4, none⟩ = some (.slice pp n c) := HX3.out.at 4 _ rfl
          clear hb
          go_wp2_with fail
          refine (AP.out _ HB3.out).mono ?_
          rintro e W4 ⟨rfl, hb⟩
          have HX4 := Lib.hid (HX3.out.later hb)
          have HB4 := Lib.hid (chain2 HB3.out hb)
          have c0_4 : W4.cell? ⟨w.heap.size, 0, none⟩ = some (.string sn) := HX4.out.at 0 _ rfl
          have c1_4 : W4.cell? ⟨w.heap.size, 1, none⟩ = some (.int .i64 ver) := HX4.out.at 1 _ rfl
          have c2_4 : W4.cell? ⟨w.heap.size, 2, none⟩ = some (vu) := HX4.out.at 2 _ rfl
          have c3_4 : W4.cell? ⟨w.heap.size, 3, none⟩ = some (.int .i64 fu) := HX4.out.at 3 _ rfl
          have c4_4 : W4.cell? ⟨w.heap.size, 4, none⟩ = some (.slice pp n c) := HX4.out.at 4 _ rfl
          clear hb
          go_wp2
          go_ret
          exact ⟨rfl, HB4.out⟩
        | true =>
          cases hG : inB fu 0 (min 32 (n : Int)) with
          | false =>
            rw [hG] at WF
            go_enter Tryd.func12, Tryd.ntmps12
            go_wp2_with fail
            refine (NM.out _).mono ?_
            rintro e W2 ⟨rfl, hb⟩
            have HX2 := Lib.hid (HX1.out.later hb)
            have HB2 := Lib.hid (chain2 HB1.out hb)
            have c0_2 : W2.cell? ⟨w.heap.size, 0, none⟩ = some (.string sn) := HX2.out.at 0 _ rfl
            have c1_2 : W2.cell? ⟨w.heap.size, 1, none⟩ = some (.int .i64 ver) := HX2.out.at 1 _ rfl
            have c2_2 : W2.cell? ⟨w.heap.size, 2, none⟩ = some (vu) := HX2.out.at 2 _ rfl
            have c3_2 : W2.cell? ⟨w.heap.size, 3, none⟩ = some (.int .i64 fu) := HX2.out.at 3 _ rfl
            have c4_2 : W2.cell? ⟨w.heap.size, 4, none⟩ = some (.slice pp n c) := HX2.out.at 4 _ rfl
            clear hb
            go_wp2_with fail
            refine (WV.out _).mono ?_
            rintro e W3 ⟨rfl, rfl⟩
            go_wp2_with fail
            refine (AU.out _ HB2.out).mono ?_
            rintro e W3 ⟨rfl, hb⟩
            have HX3 := Lib.hid (HX2.out.later hb)
            have HB3 := Lib.hid (chain2 HB2.out hb)
            have c0_3 : W3.cell? ⟨w.heap.size, 0, none⟩ = some (.string sn) := HX3.out.at 0 _ rfl
            have c1_3 : W3.cell? ⟨w.heap.size, 1, none⟩ = some (.int .i64 ver) := HX3.out.at 1 _ rfl
            have c2_3 : W3.cell? ⟨w.heap.size, 2, none⟩ = some (vu) := HX3.out.at 2 _ rfl
            have c3_3 : W3.cell? ⟨w.heap.size, 3, none⟩ = some (.int .i64 fu) := HX3.out.at 3 _ rfl
            have c4_3 : W3.cell? ⟨w.heap.size, 4, none⟩ = some (.slice pp n c) := HX3.out.at 4 _ rfl
            clear hb
            go_wp2_with fail
            refine (AP.out _ HB3.out).mono ?_
            rintro e W4 ⟨rfl, hb⟩
            have HX4 := Lib.hid (HX3.out.later hb)
            have HB4 := Lib.hid (chain2 HB3.out hb)
            have c0_4 : W4.cell? ⟨w.heap.size, 0, none⟩ = some (.string sn) := HX4.out.at 0 _ rfl
            have c1_4 : W4.cell? ⟨w.heap.size, 1, none⟩ = some (.int .i64 ver) := HX4.out.at 1 _ rfl
            have c2_4 : W4.cell? ⟨w.heap.size, 2, none⟩ = some (vu) := HX4.out.at 2 _ rfl
            have c3_4 : W4.cell? ⟨w.heap.size, 3, none⟩ = some (.int .i64 fu) := HX4.out.at 3 _ rfl
            have c4_4 : W4.cell? ⟨w.heap.size, 4, none⟩ = some (.slice pp n c) := HX4.out.at 4 _ rfl
            clear hb
            go_wp2_with fail
            refine (WF.out _).mono ?_
            rintro e W5 ⟨rfl, rfl⟩
            go_wp2
            go_ret
            exact ⟨rfl, HB4.out⟩
          | true =>
            rw [hG] at WF
            obtain ⟨k, hk, hkn⟩ := HK.out hG
            obtain ⟨q, r1, r2, RE0, RF0⟩ := PT.out k hk hkn
            have RE := Lib.hid RE0
            have RF := Lib.hid RF0
            subst hk
            clear HK PT hG RE0 RF0 hkn
            cases E with
            | false =>
              go_enter Tryd.func12, Tryd.ntmps12
              go_wp2_with fail
              refine (NM.out _).mono ?_
              rintro e W2 ⟨rfl, hb⟩
              have HX2 := Lib.hid (HX1.out.later hb)
              have HB2 := Lib.hid (chain2 HB1.out hb)
              have c0_2 : W2.cell? ⟨w.heap.size, 0, none⟩ = some (.string sn) := HX2.out.at 0 _ rfl
              have c1_2 : W2.cell? ⟨w.heap.size, 1, none⟩ = some (.int .i64 ver) := HX2.out.at 1 _ rfl
              have c2_2 : W2.cell? ⟨w.heap.size, 2, none⟩ = some (vu) := HX2.out.at 2 _ rfl
              have c3_2 : W2.cell? ⟨w.heap.size, 3, none⟩ = some (.int .i64 (k : Int)) := HX2.out.at 3 _ rfl
              have c4_2 : W2.cell? ⟨w.heap.size, 4, none⟩ = some (.slice pp n c) := HX2.out.at 4 _ rfl
              clear hb
              go_wp2_with fail
              refine (WV.out _).mono ?_
              rintro e W3 ⟨rfl, rfl⟩
              go_wp2_with fail
              refine (AU.out _ HB2.out).mono ?_
              rintro e W3 ⟨rfl, hb⟩
              have HX3 := Lib.hid (HX2.out.later hb)
              have HB3 := Lib.hid (chain2 HB2.out hb)
              have c0_3 : W3.cell? ⟨w.heap.size, 0, none⟩ = some (.string sn) := HX3.out.at 0 _ rfl
              have c1_3 : W3.cell? ⟨w.heap.size, 1, none⟩ = some (.int .i64 ver) := HX3.out.at 1 _ rfl
              have c2_3 : W3.cell? ⟨w.heap.size, 2, none⟩ = some (vu) := HX3.out.at 2 _ rfl
              have c3_3 : W3.cell? ⟨w.heap.size, 3, none⟩ = some (.int .i64 (k : Int)) := HX3.out.at 3 _ rfl
              have c4_3 : W3.cell? ⟨w.heap.size, 4, none⟩ = some (.slice pp n c) := HX3.out.at 4 _ rfl
              clear hb
              go_wp2_with fail
              refine (AP.out _ HB3.out).mono ?_
              rintro e W4 ⟨rfl, hb⟩
              have HX4 := Lib.hid (HX3.out.later hb)
              have HB4 := Lib.hid (chain2 HB3.out hb)
              have c0_4 : W4.cell? ⟨w.heap.size, 0, none⟩ = some (.string sn) := HX4.out.at 0 _ rfl
              have c1_4 : W4.cell? ⟨w.heap.size, 1, none⟩ = some (.int .i64 ver) := HX4.out.at 1 _ rfl
              have c2_4 : W4.cell? ⟨w.heap.size, 2, none⟩ = some (vu) := HX4.out.at 2 _ rfl
              have c3_4 : W4.cell? ⟨w.heap.size, 3, none⟩ = some (.int .i64 (k : Int)) := HX4.out.at 3 _ rfl
              have c4_4 : W4.cell? ⟨w.heap.size, 4, none⟩ = some (.slice pp n c) := HX4.out.at 4 _ rfl
              clear hb
              go_wp2_with fail
              refine (WF.out _).mono ?_
              rintro e W5 ⟨rfl, rfl⟩
              go_wp2_with fail
              refine (RE.out _ HB4.out).mono ?_
              rintro e W5 ⟨rfl, hb⟩
              have HX5 := Lib.hid (HX4.out.later hb)
              have HB5 := Lib.hid (chain2 HB4.out hb)
              have c0_5 : W5.cell? ⟨w.heap.size, 0, none⟩ = some (.string sn) := HX5.out.at 0 _ rfl
              have c1_5 : W5.cell? ⟨w.heap.size, 1, none⟩ = some (.int .i64 ver) := HX5.out.at 1 _ rfl
              have c2_5 : W5.cell? ⟨w.heap.size, 2, none⟩ = some (vu) := HX5.out.at 2 _ rfl
              have c3_5 : W5.cell? ⟨w.heap.size, 3, none⟩ = some (.int .i64 (k : Int)) := HX5.out.at 3 _ rfl
              have c4_5 : W5.cell? ⟨w.heap.size, 4, none⟩ = some (.slice pp n c) := HX5.out.at 4 _ rfl
              clear hb
              go_wp2
              go_ret
              exact ⟨rfl, HB5.out⟩
            | true =>
              go_enter Tryd.func12, Tryd.ntmps12
              go_wp2_with fail
              refine (NM.out _).mono ?_
              rintro e W2 ⟨rfl, hb⟩
              have HX2 := Lib.hid (HX1.out.later hb)
              have HB2 := Lib.hid (chain2 HB1.out hb)
              have c0_2 : W2.cell? ⟨w.heap.size, 0, none⟩ = some (.string sn) := HX2.out.at 0 _ rfl
              have c1_2 : W2.cell? ⟨w.heap.size, 1, none⟩ = some (.int .i64 ver) := HX2.out.at 1 _ rfl
              have c2_2 : W2.cell? ⟨w.heap.size, 2, none⟩ = some (vu) := HX2.out.at 2 _ rfl
              have c3_2 : W2.cell? ⟨w.heap.size, 3, none⟩ = some (.int .i64 (k : Int)) := HX2.out.at 3 _ rfl
              have c4_2 : W2.cell? ⟨w.heap.size, 4, none⟩ = some (.slice pp n c) := HX2.out.at 4 _ rfl
              clear hb
              go_wp2_with fail
              refine (WV.out _).mono ?_
              rintro e W3 ⟨rfl, rfl⟩
              go_wp2_with fail
              refine (AU.out _ HB2.out).mono ?_
              rintro e W3 ⟨rfl, hb⟩
              have HX3 := Lib.hid (HX2.out.later hb)
              have HB3 := Lib.hid (chain2 HB2.out hb)
              have c0_3 : W3.cell? ⟨w.heap.size, 0, none⟩ = some (.string sn) := HX3.out.at 0 _ rfl
              have c1_3 : W3.cell? ⟨w.heap.size, 1, none⟩ = some (.int .i64 ver) := HX3.out.at 1 _ rfl
              have c2_3 : W3.cell? ⟨w.heap.size, 2, none⟩ = some (vu) := HX3.out.at 2 _ rfl
              have c3_3 : W3.cell? ⟨w.heap.size, 3, none⟩ = some (.int .i64 (k : Int)) := HX3.out.at 3 _ rfl
              have c4_3 : W3.cell? ⟨w.heap.size, 4, none⟩ = some (.slice pp n c) := HX3.out.at 4 _ rfl
              clear hb
              go_wp2_with fail
              refine (AP.out _ HB3.out).mono ?_
              rintro e W4 ⟨rfl, hb⟩
              have HX4 := Lib.hid (HX3.out.later hb)
              have HB4 := Lib.hid (chain2 HB3.out hb)
              have c0_4 : W4.cell? ⟨w.heap.size, 0, none⟩ = some (.string sn) := HX4.out.at 0 _ rfl
              have c1_4 : W4.cell? ⟨w.heap.size, 1, none⟩ = some (.int .i64 ver) := HX4.out.at 1 _ rfl
              have c2_4 : W4.cell? ⟨w.heap.size, 2, none⟩ = some (vu) := HX4.out.at 2 _ rfl
              have c3_4 : W4.cell? ⟨w.heap.size, 3, none⟩ = some (.int .i64 (k : Int)) := HX4.out.at 3 _ rfl
              have c4_4 : W4.cell? ⟨w.heap.size, 4, none⟩ = some (.slice pp n c) := HX4.out.at 4 _ rfl
              clear hb
              go_wp2_with fail
              refine (WF.out _).mono ?_
              rintro e W5 ⟨rfl, rfl⟩
              go_wp2_with fail
              refine (RE.out _ HB4.out).mono ?_
              rintro e W5 ⟨rfl, hb⟩
              have HX5 := Lib.hid (HX4.out.later hb)
              have HB5 := Lib.hid (chain2 HB4.out hb)
              have c0_5 : W5.cell? ⟨w.heap.size, 0, none⟩ = some (.string sn) := HX5.out.at 0 _ rfl
              have c1_5 : W5.cell? ⟨w.heap.size, 1, none⟩ = some (.int .i64 ver) := HX5.out.at 1 _ rfl
              have c2_5 : W5.cell? ⟨w.heap.size, 2, none⟩ = some (vu) := HX5.out.at 2 _ rfl
              have c3_5 : W5.cell? ⟨w.heap.size, 3, none⟩ = some (.int .i64 (k : Int)) := HX5.out.at 3 _ rfl
              have c4_5 : W5.cell? ⟨w.heap.size, 4, none⟩ = some (.slice pp n c) := HX5.out.at 4 _ rfl
              clear hb
              go_wp2_with fail
              refine (RF.out _ HB5.out).mono ?_
              rintro e W6 ⟨rfl, hb⟩
              have HX6 := Lib.hid (HX5.out.later hb)
              have HB6 := Lib.hid (chain2 HB5.out hb)
              have c0_6 : W6.cell? ⟨w.heap.size, 0, none⟩ = some (.string sn) := HX6.out.at 0 _ rfl
              have c1_6 : W6.cell? ⟨w.heap.size, 1, none⟩ = some (.int .i64 ver) := HX6.out.at 1 _ rfl
              have c2_6 : W6.cell? ⟨w.heap.size, 2, none⟩ = some (vu) := HX6.out.at 2 _ rfl
              have c3_6 : W6.cell? ⟨w.heap.size, 3, none⟩ = some (.int .i64 (k : Int)) := HX6.out.at 3 _ rfl
              have c4_6 : W6.cell? ⟨w.heap.size, 4, none⟩ = some (.slice pp n c) := HX6.out.at 4 _ rfl
              clear hb
              go_wp2
              go_ret
              exact ⟨rfl, HB6.out⟩

end Go.Proofs.YtmloljfnnkfkjaaDoor.Im

