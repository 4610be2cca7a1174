/- The walk of the document's Light: its contract. The walk of the laws' known: its contract. No condition but those that each states. -/
import Derived.Test.YtmloljfnnkfkjaaDoorMgBG
import Derived.Test.YtmloljfnnkfkjaaDoorMgBE
namespace Go.Proofs.YtmloljfnnkfkjaaDoor.Im
open Go.RowKit Dk In
variable {X : Nat → Prop}

/-- What Light answers. -/
def LightAns (u : Un) (w : World) (e : Ending) (w' : World) : Prop := ∃ b : Bool, e = .returned (.bool b) ∧ (b = true → SmU u) ∧ Below w.heap.size w w'
theorem str_sz (l : List UInt8) : ((strOf l).size : Int) = (l.length : Int) := by rw [strOf_size]
set_option maxHeartbeats 8000000 in
set_option maxRecDepth 100000 in
theorem light_un {cs : List Value} {u : Un} (w : World) (hu : UC X w cs u) : Calls Tryd.prog 8 #[.agg cs.toArray] w (LightAns u w) := by
  obtain ⟨vu, vp, hcs, ru, rp⟩ := hu
  obtain ⟨pu, ku, hpu⟩ := Row.form ru
  rw [List.length_map] at hpu
  subst hpu
  obtain ⟨pp, np, kp, hpp⟩ : ∃ a n b, vp = .slice a n b := by
    obtain ⟨css, h3, -⟩ := rp
    obtain ⟨a, b, e⟩ := Row.form h3
    exact ⟨a, _, b, e⟩
  subst hpp
  obtain ⟨hnp, VP0⟩ := PRow.el rp
  subst hnp
  have VP := Lib.hid VP0
  have VU := Lib.hid (Rw.el (Z := 3) ru (fun _ => rfl)).2
  obtain ⟨nm, ver, uses, fu, prs⟩ := u
  simp only at hcs VU VP
  clear ru rp VP0
  obtain ⟨W1, hW1⟩ : ∃ W1, W1 = w.alloc (.cells cs.toArray 25) := ⟨_, rfl⟩
  have HX1 : Hid (SE w W1 w.heap.size [.string (strOf nm), .int .i64 ver, .slice pu uses.length ku, .int .i64 fu, .slice pp prs.length kp]) := Lib.hid (by rw [hW1, ← hcs]; exact se_new w cs _)
  have hX1 : w.alloc (.cells #[.string (strOf nm), .int .i64 ver, .slice pu uses.length ku, .int .i64 fu, .slice pp prs.length kp] 25) = W1 := by rw [hW1, hcs]
  have c0 : W1.cell? ⟨w.heap.size, 0, none⟩ = some (.string (strOf nm)) := HX1.out.el.at 0 _ rfl
  have c2 : W1.cell? ⟨w.heap.size, 2, none⟩ = some (.slice pu uses.length ku) := HX1.out.el.at 2 _ rfl
  have c4 : W1.cell? ⟨w.heap.size, 4, none⟩ = some (.slice pp prs.length kp) := HX1.out.el.at 4 _ rfl
  have hsz := str_sz nm
  subst hcs
  clear hW1
  show Calls _ _ #[.agg #[.string (strOf nm), .int .i64 ver, .slice pu uses.length ku, .int .i64 fu, .slice pp prs.length kp]] w (LightAns _ w)
  by_cases h0 : (uses.length : Int) > 100
  · have t0 : decide ((uses.length : Int) > 100) = true := decide_eq_true h0
    clear hsz
    go_enter Tryd.func8, Tryd.ntmps8
    go_wp2
    go_ret
    exact ⟨false, rfl, fun h => (by cases h), HX1.out.below⟩
  have t0 : decide ((uses.length : Int) > 100) = false := decide_eq_false h0
  have H0 := Lib.hid h0
  by_cases h1 : (prs.length : Int) > 100
  · have t1 : decide ((prs.length : Int) > 100) = true := decide_eq_true h1
    clear hsz
    go_enter Tryd.func8, Tryd.ntmps8
    go_wp2
    go_ret
    exact ⟨false, rfl, fun h => (by cases h), HX1.out.below⟩
  have t1 : decide ((prs.length : Int) > 100) = false := decide_eq_false h1
  have H1 := Lib.hid h1
  by_cases h2 : ((strOf nm).size : Int) > 100
  · have t2 : decide (((strOf nm).size : Int) > 100) = true := decide_eq_true h2
    clear hsz
    go_enter Tryd.func8, Tryd.ntmps8
    go_wp2
    go_ret
    exact ⟨false, rfl, fun h => (by cases h), HX1.out.below⟩
  have t2 : decide (((strOf nm).size : Int) > 100) = false := decide_eq_false h2
  have H2 := Lib.hid h2
  have HSZ := Lib.hid hsz
  clear hsz h0 h1 h2
  go_enter Tryd.func8, Tryd.ntmps8
  go_wp2
  clear c0 c4 t0 t1 t2
  go_loopw [3] (fun vi wr => ∃ i : Nat, i ≤ uses.length ∧ vi = .int .i64 (i : Int) ∧ Hid (SE w wr w.heap.size [.string (strOf nm), .int .i64 ver, .slice pu uses.length ku, .int .i64 fu, .slice pp prs.length kp]) ∧ Hid (∀ (j : Nat) x, j < i → uses[j]? = some x → x.md.length ≤ 100 ∧ x.nm.length ≤ 100)) (fun vi _ => uses.length - (intOf vi).toNat)
  case atStart => exact ⟨0, Nat.zero_le _, rfl, HX1, Lib.hid (fun j x h => by omega)⟩
  case round =>
    clear c2 HX1
    obtain ⟨i, hi, rfl, HX, HU⟩ := hrel
    have c2 : wr.cell? ⟨w.heap.size, 2, none⟩ = some (.slice pu uses.length ku) := HX.out.el.at 2 _ rfl
    by_cases hlt : i < uses.length
    · have z0 : (0 : Int) ≤ (i : Int) := by omega
      have z1 : (i : Int) < (uses.length : Int) := by omega
      have hub : uses.length ≤ 100 := by have := H0.out; omega
      obtain ⟨x, hx⟩ : ∃ z, uses[i]? = some z := ⟨_, List.getElem?_eq_getElem hlt⟩
      obtain ⟨g, o, hq, hg, hr0⟩ := VU.out i x hx
      subst hq
      have hr := rangeAt_block hr0 (HX.out.below.block g hg)
      have d0 : wr.cell? ⟨g, o + i * 3, none⟩ = some (.string (strOf x.md)) := hr 0 _ rfl
      have d1 : wr.cell? ⟨g, o + i * 3 + 1, none⟩ = some (.string (strOf x.nm)) := hr 1 _ rfl
      have s0 := str_sz x.md
      have s1 := str_sz x.nm
      have HUN : Hid (x.md.length ≤ 100 → x.nm.length ≤ 100 → ∀ (j : Nat) y, j < i + 1 → uses[j]? = some y → y.md.length ≤ 100 ∧ y.nm.length ≤ 100) := Lib.hid (fun a b j y hj hy => by
        by_cases e : j = i
        · subst e; rw [hx] at hy; cases hy; exact ⟨a, b⟩
        · exact HU.out j y (by omega) hy)
      clear hr0 hr hx hg
      by_cases h0 : ((strOf x.md).size : Int) > 100
      · have t0 : decide (((strOf x.md).size : Int) > 100) = true := decide_eq_true h0
        clear s0 s1 HU HUN h0
        go_wp2
        go_ret
        exact ⟨false, rfl, fun h => (by cases h), HX.out.below⟩
      have t0 : decide (((strOf x.md).size : Int) > 100) = false := decide_eq_false h0
      by_cases h1 : ((strOf x.nm).size : Int) > 100
      · have t1 : decide (((strOf x.nm).size : Int) > 100) = true := decide_eq_true h1
        clear s0 s1 HU HUN h0 h1
        go_wp2
        go_ret
        exact ⟨false, rfl, fun h => (by cases h), HX.out.below⟩
      have t1 : decide (((strOf x.nm).size : Int) > 100) = false := decide_eq_false h1
      have HU2 := Lib.hid (HUN.out (by omega) (by omega))
      clear s0 s1 h0 h1 HUN HU
      go_wp2
      go_roundw
      case rel => exact ⟨i + 1, by omega, by go_num, HX, HU2⟩
      case measure => simp [intOf]; omega
    · obtain rfl : uses.length = i := by omega
      have HUA := Lib.hid HU.out
      clear HU hi hlt
      go_wp2
      go_loopw [4, 5] (fun vn vi wr => ∃ (i n : Nat), i ≤ prs.length ∧ n ≤ i * 10000 ∧ vi = .int .i64 (i : Int) ∧ vn = .int .i64 (n : Int) ∧ Hid (SE w wr w.heap.size [.string (strOf nm), .int .i64 ver, .slice pu uses.length ku, .int .i64 fu, .slice pp prs.length kp]) ∧ Hid (∀ (j : Nat) x, j < i → prs[j]? = some x → SmP x)) (fun _ vi _ => prs.length - (intOf vi).toNat)
      case atStart => exact ⟨0, 0, Nat.zero_le _, Nat.zero_le _, rfl, rfl, HX, Lib.hid (fun j x h => by omega)⟩
      case round =>
        clear c2 HX
        obtain ⟨i, n, hi, hn, rfl, rfl, HX, HP⟩ := hrel
        have c4 : wr.cell? ⟨w.heap.size, 4, none⟩ = some (.slice pp prs.length kp) := HX.out.el.at 4 _ rfl
        by_cases hlt : i < prs.length
        · have z0 : (0 : Int) ≤ (i : Int) := by omega
          have z1 : (i : Int) < (prs.length : Int) := by omega
          have hin : i ≤ 100 := by have := H1.out; omega
          obtain ⟨x, hx⟩ : ∃ z, prs[i]? = some z := ⟨_, List.getElem?_eq_getElem hlt⟩
          obtain ⟨g, o, qs, hq, hg, hr0, hpc⟩ := VP.out i x hx
          subst hq
          have HRG := Lib.hid (rangeAt_block hr0 (HX.out.below.block g hg))
          obtain ⟨vc, vk, vq, hqs, rc, rk, rq⟩ := hpc
          obtain ⟨a3, k3, e3⟩ := Row.form rc
          obtain ⟨a4, k4, e4⟩ := Row.form rk
          obtain ⟨a5, k5, e5⟩ := Row.form rq
          rw [List.length_map] at e3 e4 e5
          subst e3 e4 e5
          have VK := Lib.hid (Rw.el (Z := 3) rk (fun _ => rfl)).2
          have HPN : Hid (SmP x → ∀ (j : Nat) y, j < i + 1 → prs[j]? = some y → SmP y) := Lib.hid (fun a j y hj hy => by
            by_cases e : j = i
            · subst e; rw [hx] at hy; cases hy; exact a
            · exact HP.out j y (by omega) hy)
          obtain ⟨nm1, ps, rg, code, ks, caps⟩ := x
          simp only at hqs VK
          have HI := Lib.hid (pc_info qs (by rw [hqs]; rfl))
          have HIA : Hid ((Tryd.prog.info? 38).map (·.size) = some qs.toArray.size) := Lib.hid HI.out
          have HON : Hid (qs.toArray.all (·.oneCell') = true) := Lib.hid (by rw [hqs]; simp [Value.oneCell'])
          have P1 := put_new wr #[.string ⟨#[]⟩, .int .i64 0, .int .i64 0, .slice none 0 0, .slice none 0 0, .slice none 0 0] 38 qs (by rw [hqs]; rfl)
          have HT := Lib.hid P1.1
          have HPU := Lib.hid P1.2
          have HQS := Lib.hid hqs
          clear hr0 hx hqs rc rk rq hg P1 HP
          go_upto_region 13 with (first
            | (refine wpList_load_mid rfl 38 (.tmp 59) rfl g (o + i * 6) rfl qs _ HRG.out Tryd.underlying38 rfl HI.out ?_)
            | (refine wpList_store_mid rfl 38 (.tmp 6) (.tmp 60) rfl wr.heap.size 0 qs.toArray rfl rfl HT.out HIA.out HON.out ?_; generalize World.setCells _ _ _ _ = V at HPU ⊢))
          have HXV := Lib.hid (HX.out.later HPU.out.below)
          generalize hpb : wr.heap.size = pb at HPU
          have HPB : Hid (El V pb [.string (strOf nm1), .int .i64 ps, .int .i64 rg, .slice a3 code.length k3, .slice a4 ks.length k4, .slice a5 caps.length k5]) := Lib.hid (show El V pb [.string (strOf nm1), .int .i64 ps, .int .i64 rg, .slice a3 code.length k3, .slice a4 ks.length k4, .slice a5 caps.length k5] from ⟨by have h9 := HPU.out.cells; rw [HQS.out, hpb] at h9; exact h9, by have h9 := HPU.out.lt; rw [hpb] at h9; exact h9⟩)
          clear HT HIA HON HRG HI HPU HX
          have p0 : V.cell? ⟨pb, 0, none⟩ = some (.string (strOf nm1)) := HPB.out.at 0 _ rfl
          have p3 : V.cell? ⟨pb, 3, none⟩ = some (.slice a3 code.length k3) := HPB.out.at 3 _ rfl
          have p4 : V.cell? ⟨pb, 4, none⟩ = some (.slice a4 ks.length k4) := HPB.out.at 4 _ rfl
          have p5 : V.cell? ⟨pb, 5, none⟩ = some (.slice a5 caps.length k5) := HPB.out.at 5 _ rfl
          have s0 := str_sz nm1
          by_cases h0 : ((strOf nm1).size : Int) > 100
          · have t0 : decide (((strOf nm1).size : Int) > 100) = true := decide_eq_true h0
            clear s0 HPN HQS h0
            go_wp2
            go_ret
            exact ⟨false, rfl, fun h => (by cases h), HXV.out.below⟩
          have t0 : decide (((strOf nm1).size : Int) > 100) = false := decide_eq_false h0
          by_cases h1 : (caps.length : Int) > 300
          · have t1 : decide ((caps.length : Int) > 300) = true := decide_eq_true h1
            clear s0 HPN HQS h0 h1
            go_wp2
            go_ret
            exact ⟨false, rfl, fun h => (by cases h), HXV.out.below⟩
          have t1 : decide ((caps.length : Int) > 300) = false := decide_eq_false h1
          by_cases h2 : (ks.length : Int) > 300
          · have t2 : decide ((ks.length : Int) > 300) = true := decide_eq_true h2
            clear s0 HPN HQS h0 h1 h2
            go_wp2
            go_ret
            exact ⟨false, rfl, fun h => (by cases h), HXV.out.below⟩
          have t2 : decide ((ks.length : Int) > 300) = false := decide_eq_false h2
          by_cases h3 : (code.length : Int) > 9000
          · have t3 : decide ((code.length : Int) > 9000) = true := decide_eq_true h3
            clear s0 HPN HQS h0 h1 h2 h3
            go_wp2
            go_ret
            exact ⟨false, rfl, fun h => (by cases h), HXV.out.below⟩
          have t3 : decide ((code.length : Int) > 9000) = false := decide_eq_false h3
          have HPS := Lib.hid (HPN.out ⟨by show nm1.length ≤ _; omega, by show code.length ≤ _; omega, by show ks.length ≤ _; omega, by show caps.length ≤ _; omega⟩)
          have HKL : Hid (ks.length ≤ 300) := Lib.hid (by omega)
          have HCL : Hid (code.length ≤ 9000) := Lib.hid (by omega)
          clear s0 h0 h1 h2 h3 HPN HQS c4
          go_wp2
          obtain ⟨wo, hwo⟩ : ∃ wo : World, wo = wr := ⟨_, rfl⟩
          clear p0 p5 t0 t1 t2 t3
          go_loopw [7] (fun vi wr => ∃ k : Nat, k ≤ ks.length ∧ vi = .int .i64 (k : Int) ∧ wr = V) (fun vi _ => ks.length - (intOf vi).toNat)
          case atStart => exact ⟨0, Nat.zero_le _, rfl, rfl⟩
          case round =>
            obtain ⟨k, hk, rfl, rfl⟩ := hrel
            by_cases hkl : k < ks.length
            · have y0 : (0 : Int) ≤ (k : Int) := by omega
              have y1 : (k : Int) < (ks.length : Int) := by omega
              have hk3 := HKL.out
              obtain ⟨v, hv⟩ : ∃ z, ks[k]? = some z := ⟨_, List.getElem?_eq_getElem hkl⟩
              obtain ⟨g2, o2, hq, hg, hr0⟩ := VK.out k v hv
              subst hq
              have hr := rangeAt_block hr0 (HXV.out.below.block g2 hg)
              have d2 : wr.cell? ⟨g2, o2 + k * 3 + 2, none⟩ = some (.string (strOf v.s)) := hr 2 _ rfl
              clear hr0 hr hv hg
              cases t4 : decide (((strOf v.s).size : Int) > 2000)
              · go_wp2
                go_roundw
                case rel => exact ⟨k + 1, by omega, by go_num, by first | rfl | trivial⟩
                case measure => simp [intOf]; omega
              · go_wp2
                go_ret
                exact ⟨false, rfl, fun h => (by cases h), HXV.out.below⟩
            · obtain rfl : ks.length = k := by omega
              have hk3 := HKL.out
              have hc3 := HCL.out
              clear hk hkl hwo
              have w1 : IntKind.i64.wrap ((n : Int) + (code.length : Int)) = ((n + code.length : Nat) : Int) := by rw [IntWalk.i64_in _ (by omega)]; omega
              have w2 : IntKind.i64.wrap (((n + code.length : Nat) : Int) + (ks.length : Int)) = ((n + code.length + ks.length : Nat) : Int) := by rw [IntWalk.i64_in _ (by omega)]; omega
              go_wp2
              go_roundw
              case rel => exact ⟨i + 1, n + code.length + ks.length, by omega, by omega, by go_num, rfl, HXV, HPS⟩
              case measure => simp [intOf]; omega
        · obtain rfl : prs.length = i := by omega
          have HFIN : Hid (SmU ⟨nm, ver, uses, fu, prs⟩) := Lib.hid (by
            have g0 := H0.out
            have g1 := H1.out
            have g2 := H2.out
            have g3 := HSZ.out
            refine ⟨by show nm.length ≤ _; omega, by show uses.length ≤ _; omega, fun x hx => ?_, by show prs.length ≤ _; omega, fun p hp => ?_⟩
            · obtain ⟨j, hj, rfl⟩ := List.getElem_of_mem (show x ∈ uses from hx)
              have := HUA.out j _ hj (List.getElem?_eq_getElem hj)
              omega
            · obtain ⟨j, hj, rfl⟩ := List.getElem_of_mem (show p ∈ prs from hp)
              exact HP.out j _ hj (List.getElem?_eq_getElem hj))
          clear HP hi hlt
          cases t5 : decide ((n : Int) ≤ 20000)
          · go_wp2
            go_ret
            exact ⟨_, rfl, fun _ => HFIN.out, HX.out.below⟩
          · go_wp2
            go_ret
            exact ⟨_, rfl, fun _ => HFIN.out, HX.out.below⟩

end Go.Proofs.YtmloljfnnkfkjaaDoor.Im

namespace Go.Proofs.YtmloljfnnkfkjaaDoor.Im
open Go.RowKit Dk In

def u0 : Un := ⟨[109], 1, [], 0, []⟩
def u1 : Un := ⟨[109], 0, [], 0, []⟩
def b18 : List UInt8 := [67, 72, 82, 89, 1, 0, 0, 0, 109, 1, 0, 0, 0, 0, 0, 0, 0, 0]
theorem build0 : buildU u0 = (b18, 0) := by decide +kernel
theorem build1 : buildU u1 = ([], 4) := by decide +kernel
theorem right0 : unB u0 = true := by decide +kernel
theorem fits0 : FitsU u0 := fun p h => by cases h
theorem parse0 : parseU fixI b18 = (u0, 0) := by
  have := parse_back (g := fixI) (fun x h => fix_right h) right0 fits0
  have e : encUn u0 = b18 := by decide +kernel
  rwa [e] at this
theorem parse1 : parseU fixI (b18.take 10) = (Un.zero, 2) := by
  have := parse_cut (g := fixI) (fun x h => fix_right h) right0 fits0 (k := 10) (by decide +kernel)
  have e : encUn u0 = b18 := by decide +kernel
  rwa [e] at this
theorem parse2 : parseU fixI (b18 ++ [120]) = (Un.zero, 4) := by
  have := parse_more (g := fixI) (fun x h => fix_right h) right0 fits0 (z := [120]) (by decide)
  have e : encUn u0 = b18 := by decide +kernel
  rwa [e] at this
theorem sm0 : SmU u0 := ⟨by decide, by decide, (fun x h => by cases h), by decide, (fun x h => by cases h)⟩
theorem sm1 : SmU u1 := ⟨by decide, by decide, (fun x h => by cases h), by decide, (fun x h => by cases h)⟩
theorem uc0 (X : Nat → Prop) (W : World) : UC X W [.string ⟨#[109]⟩, .int .i64 1, .slice none 0 0, .int .i64 0, .slice none 0 0] u0 := ⟨_, _, rfl, Rw.nil _ X W, ⟨[], Row.nil X W, Each.nil X W⟩⟩
theorem uc1 (X : Nat → Prop) (W : World) : UC X W [.string ⟨#[109]⟩, .int .i64 0, .slice none 0 0, .int .i64 0, .slice none 0 0] u1 := ⟨_, _, rfl, Rw.nil _ X W, ⟨[], Row.nil X W, Each.nil X W⟩⟩
theorem wpList_load_want {P : Program} {ops : Array Oper} {rest : List Oper} {op : Oper} {a : Act} {w : World} {Q : Exit → Act → World → Prop} (hw : Region.wanted op (yielded ops a.tmps) = true) (ty : TypeId) (x : Operand) (ho : op.op = .load ty x)
    (b o : Nat) (hx : a.eval x = .pointer (some ⟨b, o, none⟩)) (cs : List Value) (d : TypeDesc) (hc : w.rangeAt b o cs)
    (hu : P.underlying ty = some d) (hd : d.isRow = true) (hi : (P.info? ty).map (·.size) = some cs.length)
    (h : wpList P ops Q rest (a.put op.dst (.agg cs.toArray)) w) : wpList P ops Q (op :: rest) a w :=
  BigFrame.wpList_want hw fun _ hK => wp_load_mid ty x ho b o hx cs d hc hu hd hi (hK _ _ h)
theorem slice10 (W : World) : (Instr.slice 9 (.string ⟨#[67, 72, 82, 89, 1, 0, 0, 0, 109, 1, 0, 0, 0, 0, 0, 0, 0, 0]⟩) none (some (.int .i64 10)) none).run Tryd.prog W = .ok (.string ⟨#[67, 72, 82, 89, 1, 0, 0, 0, 109, 1]⟩) W := by kernel_rfl

set_option maxHeartbeats 4000000 in
set_option maxRecDepth 100000 in
theorem conBA (w : World) (HF : HasF w) : Hid (∀ W, Below w.heap.size w W → Calls Tryd.prog 10 #[.agg #[.string ⟨#[109]⟩, .int .i64 1, .slice none 0 0, .int .i64 0, .slice none 0 0]] W (fun e w' => e = .returned (.tuple #[.string ⟨#[67, 72, 82, 89, 1, 0, 0, 0, 109, 1, 0, 0, 0, 0, 0, 0, 0, 0]⟩, .int .i64 0]) ∧ Below W.heap.size W w')) := Lib.hid (fun W hb => by
  have h := ubuild_any W (uc0 (fun _ => True) W) sm0 (HF.later hb)
  rw [build0] at h
  exact h
)
set_option maxHeartbeats 4000000 in
set_option maxRecDepth 100000 in
theorem conBB (w : World) (HF : HasF w) : Hid (∀ W, Below w.heap.size w W → Calls Tryd.prog 10 #[.agg #[.string ⟨#[109]⟩, .int .i64 0, .slice none 0 0, .int .i64 0, .slice none 0 0]] W (fun e w' => e = .returned (.tuple #[.string ⟨#[]⟩, .int .i64 4]) ∧ Below W.heap.size W w')) := Lib.hid (fun W hb => by
  have h := ubuild_any W (uc1 (fun _ => True) W) sm1 (HF.later hb)
  rw [build1] at h
  exact h
)
set_option maxHeartbeats 4000000 in
set_option maxRecDepth 100000 in
theorem conRI (w : World) (HF : HasF w) : Hid (∀ W, Below w.heap.size w W → Calls Tryd.prog 12 #[.agg #[.string ⟨#[109]⟩, .int .i64 1, .slice none 0 0, .int .i64 0, .slice none 0 0]] W (fun e w' => e = .returned (.bool true) ∧ Below W.heap.size W w')) := Lib.hid (fun W hb => by
  have h := uright_any W (uc0 (fun _ => True) W) sm0 (HF.later hb)
  rw [right0] at h
  exact h
)
set_option maxHeartbeats 4000000 in
set_option maxRecDepth 100000 in
theorem conPA (w : World) (HF : HasF w) : Hid (∀ W, Below w.heap.size w W → Calls Tryd.prog 14 #[.string ⟨#[67, 72, 82, 89, 1, 0, 0, 0, 109, 1, 0, 0, 0, 0, 0, 0, 0, 0]⟩] W (ParseAny (u0, 0) W)) := Lib.hid (fun W hb => by
  have h := uparse_any b18 W (by decide) (HF.later hb)
  rw [parse0] at h
  exact h
)
set_option maxHeartbeats 4000000 in
set_option maxRecDepth 100000 in
theorem conPB (w : World) (HF : HasF w) : Hid (∀ W, Below w.heap.size w W → Calls Tryd.prog 14 #[.string ⟨#[67, 72, 82, 89, 1, 0, 0, 0, 109, 1]⟩] W (ParseAny (Un.zero, 2) W)) := Lib.hid (fun W hb => by
  have h := uparse_any (b18.take 10) W (by decide) (HF.later hb)
  rw [parse1] at h
  exact h
)
set_option maxHeartbeats 4000000 in
set_option maxRecDepth 100000 in
theorem conPC (w : World) (HF : HasF w) : Hid (∀ W, Below w.heap.size w W → Calls Tryd.prog 14 #[.string ⟨#[67, 72, 82, 89, 1, 0, 0, 0, 109, 1, 0, 0, 0, 0, 0, 0, 0, 0, 120]⟩] W (ParseAny (Un.zero, 4) W)) := Lib.hid (fun W hb => by
  have h := uparse_any (b18 ++ [120]) W (by decide) (HF.later hb)
  rw [parse2] at h
  exact h
)
set_option maxHeartbeats 4000000 in
set_option maxRecDepth 100000 in
theorem known14 (w : World) (HF : HasF w) : Calls Tryd.prog 9 #[] w fun e w' => e = .returned (.bool true) ∧ Below w.heap.size w w' := by
  have HFW := Lib.hid HF
  have BA := conBA w HF
  have BB := conBB w HF
  have RI := conRI w HF
  have PA := conPA w HF
  have PB := conPB w HF
  have PC := conPC w HF
  have sl := slice10
  have sm : ∀ W : World, (Op.stringOp .add ⟨#[67, 72, 82, 89, 1, 0, 0, 0, 109, 1, 0, 0, 0, 0, 0, 0, 0, 0]⟩ ⟨#[120]⟩).run Tryd.prog W = .ok (.string ⟨#[67, 72, 82, 89, 1, 0, 0, 0, 109, 1, 0, 0, 0, 0, 0, 0, 0, 0, 120]⟩) W := fun W => sum_run b18 [120] (by decide) W
  have HI : Hid ((Tryd.prog.info? 25).map (·.size) = some ([.string ⟨#[109]⟩, .int .i64 1, .slice none 0 0, .int .i64 0, .slice none 0 0] : List Value).length) := Lib.hid (by kernel_rfl)
  clear HF
  go_enter Tryd.func9, Tryd.ntmps9
  go_wp2_with fail
  generalize hW1 : World.alloc _ _ = W1
  have HB1 : Hid (Below w.heap.size w W1) := Lib.hid (by rw [← hW1]; exact (Below.refl _ _).alloc (Nat.le_refl _) _)
  have HX1 : Hid (El W1 w.heap.size [.string ⟨#[109]⟩, .int .i64 1, .slice none 0 0, .int .i64 0, .slice none 0 0]) := Lib.hid (by rw [← hW1]; exact el_new w _ _)
  clear hW1
  refine (BA.out _ HB1.out).mono ?_
  rintro e W2 ⟨rfl, hb⟩
  have HX2 := Lib.hid (HX1.out.later hb)
  have HB2 := Lib.hid (chain2 HB1.out hb)
  clear hb BA HB1 HX1
  go_wp2_with fail
  refine (PA.out _ HB2.out).mono ?_
  rintro e W3 ⟨cs1, rfl, huc, hb⟩
  obtain ⟨hl, hones⟩ := uc_ones huc
  have P1 := put_new W3 #[.string ⟨#[]⟩, .int .i64 0, .slice none 0 0, .int .i64 0, .slice none 0 0] 25 cs1 hl.symm
  have HT := Lib.hid P1.1
  have HP1 := Lib.hid P1.2
  have HIA : Hid ((Tryd.prog.info? 25).map (·.size) = some cs1.toArray.size) := Lib.hid (u_info cs1 hl)
  have HON := Lib.hid (all_oneCell_toArray hones)
  have HB3 := Lib.hid (chain2 HB2.out hb)
  have HX3 := Lib.hid (HX2.out.later hb)
  obtain ⟨vu, vp, hcs, -, -⟩ := huc
  have HCS := Lib.hid hcs
  clear hb hones hl P1 PA hcs
  go_wp2_with (refine wpList_store_mid rfl 25 (.tmp 4) (.tmp 21) rfl W3.heap.size 0 cs1.toArray rfl rfl HT.out HIA.out HON.out ?_; generalize World.setCells _ _ _ _ = W4 at HP1 ⊢; have HB4 := Lib.hid (chain2 HB3.out HP1.out.below); have HX4 := Lib.hid (HX3.out.later HP1.out.below); have HY4 : Hid (El W4 W3.heap.size [.string ⟨#[109]⟩, .int .i64 1, vu, .int .i64 0, vp]) := Lib.hid (show El W4 W3.heap.size [.string ⟨#[109]⟩, .int .i64 1, vu, .int .i64 0, vp] from ⟨by have h9 := HP1.out.cells; rw [HCS.out] at h9; exact h9, HP1.out.lt⟩))
  clear HT HIA HON
  refine (PB.out _ HB4.out).mono ?_
  rintro e W5 ⟨cs2, rfl, huc, hb⟩
  obtain ⟨hl, hones⟩ := uc_ones huc
  have P1 := put_new W5 #[.string ⟨#[]⟩, .int .i64 0, .slice none 0 0, .int .i64 0, .slice none 0 0] 25 cs2 hl.symm
  have HT := Lib.hid P1.1
  have HP2 := Lib.hid P1.2
  have HIA : Hid ((Tryd.prog.info? 25).map (·.size) = some cs2.toArray.size) := Lib.hid (u_info cs2 hl)
  have HON := Lib.hid (all_oneCell_toArray hones)
  have HB5 := Lib.hid (chain2 HB4.out hb)
  have HX5 := Lib.hid (HX4.out.later hb)
  have HY5 := Lib.hid (HY4.out.later hb)
  clear hb hones hl P1 PB huc
  go_wp2_with (refine wpList_store_mid rfl 25 (.tmp 6) (.tmp 30) rfl W5.heap.size 0 cs2.toArray rfl rfl HT.out HIA.out HON.out ?_; generalize World.setCells _ _ _ _ = W6 at HP2 ⊢; have HB6 := Lib.hid (chain2 HB5.out HP2.out.below); have HX6 := Lib.hid (HX5.out.later HP2.out.below); have HY6 := Lib.hid (HY5.out.later HP2.out.below))
  clear HT HIA HON
  refine (PC.out _ HB6.out).mono ?_
  rintro e W7 ⟨cs3, rfl, huc, hb⟩
  obtain ⟨hl, hones⟩ := uc_ones huc
  have P1 := put_new W7 #[.string ⟨#[]⟩, .int .i64 0, .slice none 0 0, .int .i64 0, .slice none 0 0] 25 cs3 hl.symm
  have HT := Lib.hid P1.1
  have HP3 := Lib.hid P1.2
  have HIA : Hid ((Tryd.prog.info? 25).map (·.size) = some cs3.toArray.size) := Lib.hid (u_info cs3 hl)
  have HON := Lib.hid (all_oneCell_toArray hones)
  have HB7 := Lib.hid (chain2 HB6.out hb)
  have HX7 := Lib.hid (HX6.out.later hb)
  have HY7 := Lib.hid (HY6.out.later hb)
  clear hb hones hl P1 PC huc
  go_wp2_with (refine wpList_store_mid rfl 25 (.tmp 8) (.tmp 36) rfl W7.heap.size 0 cs3.toArray rfl rfl HT.out HIA.out HON.out ?_; generalize World.setCells _ _ _ _ = W8 at HP3 ⊢; have HB8 := Lib.hid (chain2 HB7.out HP3.out.below); have HX8 := Lib.hid (HX7.out.later HP3.out.below); have HY8 := Lib.hid (HY7.out.later HP3.out.below))
  clear HT HIA HON
  refine (BB.out _ HB8.out).mono ?_
  rintro e W9 ⟨rfl, hb⟩
  have HB9 := Lib.hid (chain2 HB8.out hb)
  have HX9 := Lib.hid (HX8.out.later hb)
  have HY9 := Lib.hid (HY8.out.later hb)
  clear hb BB
  have y0 : W9.cell? ⟨W3.heap.size, 0, none⟩ = some (.string ⟨#[109]⟩) := HY9.out.at 0 _ rfl
  have y1 : W9.cell? ⟨W3.heap.size, 1, none⟩ = some (.int .i64 1) := HY9.out.at 1 _ rfl
  go_wp2_with (refine wpList_load_want (by rfl) 25 (.tmp 1) rfl w.heap.size 0 rfl [.string ⟨#[109]⟩, .int .i64 1, .slice none 0 0, .int .i64 0, .slice none 0 0] _ HX9.out.cells Tryd.underlying25 rfl HI.out ?_)
  refine (RI.out _ HB9.out).mono ?_
  rintro e W10 ⟨rfl, hb⟩
  have HB10 := Lib.hid (chain2 HB9.out hb)
  clear hb RI
  go_wp2
  go_ret
  exact ⟨rfl, HB10.out⟩

end Go.Proofs.YtmloljfnnkfkjaaDoor.Im

