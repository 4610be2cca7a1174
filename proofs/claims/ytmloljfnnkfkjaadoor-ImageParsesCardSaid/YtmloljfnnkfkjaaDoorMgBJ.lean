/- The walks of the document's protos and Same: their contracts. No condition but those that each states. -/
import Derived.Test.YtmloljfnnkfkjaaDoorMgBI
import Derived.Test.YtmloljfnnkfkjaaDoorMgBE
namespace Go.Proofs.YtmloljfnnkfkjaaDoor.Im
open Go.RowKit Dk In
variable {X Y : Nat → Prop}
theorem neq_int (a b : Int) (h : a ≠ b) : (a == b) = false ∧ (a != b) = true := by simp [h]
theorem eq_int (a b : Int) (h : a = b) : (a == b) = true ∧ (a != b) = false := by simp [h]
theorem neq_str (a b : List UInt8) (h : a ≠ b) : ((strOf a).toList == (strOf b).toList) = false ∧ ((strOf a).toList != (strOf b).toList) = true := by simp [bne, Lx.str_beq, h]
theorem eq_str (a b : List UInt8) (h : a = b) : ((strOf a).toList == (strOf b).toList) = true ∧ ((strOf a).toList != (strOf b).toList) = false := by simp [bne, h]

set_option maxHeartbeats 8000000 in
set_option maxRecDepth 100000 in
theorem protos_any {ca cb : List Value} {p q : Pr} (w : World) (hp : PC X w ca p) (hq : PC Y w cb q) (sp : SmP p) (sq : SmP q) :
    Calls Tryd.prog 43 #[.agg ca.toArray, .agg cb.toArray] w fun e w' => e = .returned (.bool (decide (p = q))) ∧ Below w.heap.size w w' := by
  have l1 := sp.caps
  have l2 := sp.ks
  have l3 := sp.code
  have l4 := sq.caps
  have l5 := sq.ks
  have l6 := sq.code
  obtain ⟨vc, vk, vp, hca, rc, rk, rp⟩ := hp
  obtain ⟨uc, uk, up, hcb, tc, tk, tp⟩ := hq
  obtain ⟨a3, ka3, ha3⟩ := Row.form rc
  rw [List.length_map] at ha3
  subst ha3
  obtain ⟨a4, ka4, ha4⟩ := Row.form rk
  rw [List.length_map] at ha4
  subst ha4
  obtain ⟨a5, ka5, ha5⟩ := Row.form rp
  rw [List.length_map] at ha5
  subst ha5
  obtain ⟨b3, kb3, hb3⟩ := Row.form tc
  rw [List.length_map] at hb3
  subst hb3
  obtain ⟨b4, kb4, hb4⟩ := Row.form tk
  rw [List.length_map] at hb4
  subst hb4
  obtain ⟨b5, kb5, hb5⟩ := Row.form tp
  rw [List.length_map] at hb5
  subst hb5
  have Va3 := Lib.hid (Rw.el (Z := 4) rc (fun _ => rfl)).2
  have Va4 := Lib.hid (Rw.el (Z := 3) rk (fun _ => rfl)).2
  have Va5 := Lib.hid (Rw.el (Z := 2) rp (fun _ => rfl)).2
  have Vb3 := Lib.hid (Rw.el (Z := 4) tc (fun _ => rfl)).2
  have Vb4 := Lib.hid (Rw.el (Z := 3) tk (fun _ => rfl)).2
  have Vb5 := Lib.hid (Rw.el (Z := 2) tp (fun _ => rfl)).2
  obtain ⟨nm, ps, rg, code, ks, caps⟩ := p
  obtain ⟨nm2, ps2, rg2, code2, ks2, caps2⟩ := q
  simp only at hca hcb l1 l2 l3 l4 l5 l6 Va3 Va4 Va5 Vb3 Vb4 Vb5
  clear rc rk rp tc tk tp sp sq
  obtain ⟨W1, hW1⟩ : ∃ W1, W1 = w.alloc (.cells ca.toArray 38) := ⟨_, rfl⟩
  obtain ⟨W2, hW2⟩ : ∃ W2, W2 = W1.alloc (.cells cb.toArray 38) := ⟨_, rfl⟩
  have HB1 : Below w.heap.size w W1 := by rw [hW1]; exact (Below.refl _ _).alloc (Nat.le_refl _) _
  have HB1b : Below W1.heap.size W1 W2 := by rw [hW2]; exact (Below.refl _ _).alloc (Nat.le_refl _) _
  have HL : Hid (El W2 w.heap.size [.string (strOf nm), .int .i64 ps, .int .i64 rg, .slice a3 code.length ka3, .slice a4 ks.length ka4, .slice a5 caps.length ka5] ∧ El W2 W1.heap.size [.string (strOf nm2), .int .i64 ps2, .int .i64 rg2, .slice b3 code2.length kb3, .slice b4 ks2.length kb4, .slice b5 caps2.length kb5] ∧ Below w.heap.size w W2) := Lib.hid ⟨by rw [← hca]; exact El.later (by rw [hW1]; exact el_new w ca _) HB1b, by rw [← hcb, hW2]; exact el_new W1 cb _, chain2 HB1 HB1b⟩
  have ca0 : W2.cell? ⟨w.heap.size, 0, none⟩ = some (.string (strOf nm)) := HL.out.1.at 0 _ rfl
  have cb0 : W2.cell? ⟨W1.heap.size, 0, none⟩ = some (.string (strOf nm2)) := HL.out.2.1.at 0 _ rfl
  have ca1 : W2.cell? ⟨w.heap.size, 1, none⟩ = some (.int .i64 ps) := HL.out.1.at 1 _ rfl
  have cb1 : W2.cell? ⟨W1.heap.size, 1, none⟩ = some (.int .i64 ps2) := HL.out.2.1.at 1 _ rfl
  have ca2 : W2.cell? ⟨w.heap.size, 2, none⟩ = some (.int .i64 rg) := HL.out.1.at 2 _ rfl
  have cb2 : W2.cell? ⟨W1.heap.size, 2, none⟩ = some (.int .i64 rg2) := HL.out.2.1.at 2 _ rfl
  have ca3 : W2.cell? ⟨w.heap.size, 3, none⟩ = some (.slice a3 code.length ka3) := HL.out.1.at 3 _ rfl
  have cb3 : W2.cell? ⟨W1.heap.size, 3, none⟩ = some (.slice b3 code2.length kb3) := HL.out.2.1.at 3 _ rfl
  have ca4 : W2.cell? ⟨w.heap.size, 4, none⟩ = some (.slice a4 ks.length ka4) := HL.out.1.at 4 _ rfl
  have cb4 : W2.cell? ⟨W1.heap.size, 4, none⟩ = some (.slice b4 ks2.length kb4) := HL.out.2.1.at 4 _ rfl
  have ca5 : W2.cell? ⟨w.heap.size, 5, none⟩ = some (.slice a5 caps.length ka5) := HL.out.1.at 5 _ rfl
  have cb5 : W2.cell? ⟨W1.heap.size, 5, none⟩ = some (.slice b5 caps2.length kb5) := HL.out.2.1.at 5 _ rfl
  have hX1 : w.alloc (.cells #[.string (strOf nm), .int .i64 ps, .int .i64 rg, .slice a3 code.length ka3, .slice a4 ks.length ka4, .slice a5 caps.length ka5] 38) = W1 := by rw [hW1, hca]
  have hX2 : W1.alloc (.cells #[.string (strOf nm2), .int .i64 ps2, .int .i64 rg2, .slice b3 code2.length kb3, .slice b4 ks2.length kb4, .slice b5 caps2.length kb5] 38) = W2 := by rw [hW2, hcb]
  subst hca hcb
  clear hW1 hW2 HB1 HB1b
  show Calls _ _ #[.agg #[.string (strOf nm), .int .i64 ps, .int .i64 rg, .slice a3 code.length ka3, .slice a4 ks.length ka4, .slice a5 caps.length ka5], .agg #[.string (strOf nm2), .int .i64 ps2, .int .i64 rg2, .slice b3 code2.length kb3, .slice b4 ks2.length kb4, .slice b5 caps2.length kb5]] w _
  have HNE : Hid (∀ b : Bool, decide ((⟨nm, ps, rg, code, ks, caps⟩ : Pr) = ⟨nm2, ps2, rg2, code2, ks2, caps2⟩) = b → (b = decide ((⟨nm, ps, rg, code, ks, caps⟩ : Pr) = ⟨nm2, ps2, rg2, code2, ks2, caps2⟩))) := Lib.hid (fun b h => h.symm)
  by_cases h0 : nm = nm2
  rotate_left
  · have HF : Hid (decide ((⟨nm, ps, rg, code, ks, caps⟩ : Pr) = ⟨nm2, ps2, rg2, code2, ks2, caps2⟩) = false) := Lib.hid (decide_eq_false (fun e => h0 (by cases e; rfl)))
    obtain ⟨tq0, uq0⟩ := neq_str _ _ h0
    clear HNE h0
    go_enter Tryd.func43, Tryd.ntmps43
    go_wp2
    go_ret
    exact ⟨by rw [HF.out]; rfl, HL.out.2.2⟩
  obtain ⟨tq0, uq0⟩ := eq_str _ _ h0
  have H0 := Lib.hid h0
  clear h0
  by_cases h1 : ps = ps2
  rotate_left
  · have HF : Hid (decide ((⟨nm, ps, rg, code, ks, caps⟩ : Pr) = ⟨nm2, ps2, rg2, code2, ks2, caps2⟩) = false) := Lib.hid (decide_eq_false (fun e => h1 (by cases e; rfl)))
    obtain ⟨tq1, uq1⟩ := neq_int _ _ h1
    clear HNE h1
    go_enter Tryd.func43, Tryd.ntmps43
    go_wp2
    go_ret
    exact ⟨by rw [HF.out]; rfl, HL.out.2.2⟩
  obtain ⟨tq1, uq1⟩ := eq_int _ _ h1
  have H1 := Lib.hid h1
  clear h1
  by_cases h2 : rg = rg2
  rotate_left
  · have HF : Hid (decide ((⟨nm, ps, rg, code, ks, caps⟩ : Pr) = ⟨nm2, ps2, rg2, code2, ks2, caps2⟩) = false) := Lib.hid (decide_eq_false (fun e => h2 (by cases e; rfl)))
    obtain ⟨tq2, uq2⟩ := neq_int _ _ h2
    clear HNE h2
    go_enter Tryd.func43, Tryd.ntmps43
    go_wp2
    go_ret
    exact ⟨by rw [HF.out]; rfl, HL.out.2.2⟩
  obtain ⟨tq2, uq2⟩ := eq_int _ _ h2
  have H2 := Lib.hid h2
  clear h2
  by_cases h3 : caps.length = caps2.length
  rotate_left
  · have HF : Hid (decide ((⟨nm, ps, rg, code, ks, caps⟩ : Pr) = ⟨nm2, ps2, rg2, code2, ks2, caps2⟩) = false) := Lib.hid (decide_eq_false (fun e => h3 (by cases e; rfl)))
    obtain ⟨tq3, uq3⟩ := neq_int (caps.length : Int) (caps2.length : Int) (by omega)
    clear HNE h3
    go_enter Tryd.func43, Tryd.ntmps43
    go_wp2
    go_ret
    exact ⟨by rw [HF.out]; rfl, HL.out.2.2⟩
  obtain ⟨tq3, uq3⟩ := eq_int (caps.length : Int) (caps2.length : Int) (by omega)
  have H3 := Lib.hid h3
  clear h3
  by_cases h4 : ks.length = ks2.length
  rotate_left
  · have HF : Hid (decide ((⟨nm, ps, rg, code, ks, caps⟩ : Pr) = ⟨nm2, ps2, rg2, code2, ks2, caps2⟩) = false) := Lib.hid (decide_eq_false (fun e => h4 (by cases e; rfl)))
    obtain ⟨tq4, uq4⟩ := neq_int (ks.length : Int) (ks2.length : Int) (by omega)
    clear HNE h4
    go_enter Tryd.func43, Tryd.ntmps43
    go_wp2
    go_ret
    exact ⟨by rw [HF.out]; rfl, HL.out.2.2⟩
  obtain ⟨tq4, uq4⟩ := eq_int (ks.length : Int) (ks2.length : Int) (by omega)
  have H4 := Lib.hid h4
  clear h4
  by_cases h5 : code.length = code2.length
  rotate_left
  · have HF : Hid (decide ((⟨nm, ps, rg, code, ks, caps⟩ : Pr) = ⟨nm2, ps2, rg2, code2, ks2, caps2⟩) = false) := Lib.hid (decide_eq_false (fun e => h5 (by cases e; rfl)))
    obtain ⟨tq5, uq5⟩ := neq_int (code.length : Int) (code2.length : Int) (by omega)
    clear HNE h5
    go_enter Tryd.func43, Tryd.ntmps43
    go_wp2
    go_ret
    exact ⟨by rw [HF.out]; rfl, HL.out.2.2⟩
  obtain ⟨tq5, uq5⟩ := eq_int (code.length : Int) (code2.length : Int) (by omega)
  have H5 := Lib.hid h5
  clear h5
  obtain ⟨ncaps, hncaps⟩ : ∃ n, n = caps.length := ⟨_, rfl⟩
  obtain ⟨mcaps, hmcaps⟩ : ∃ n, n = caps2.length := ⟨_, rfl⟩
  obtain ⟨nks, hnks⟩ : ∃ n, n = ks.length := ⟨_, rfl⟩
  obtain ⟨mks, hmks⟩ : ∃ n, n = ks2.length := ⟨_, rfl⟩
  obtain ⟨ncode, hncode⟩ : ∃ n, n = code.length := ⟨_, rfl⟩
  obtain ⟨mcode, hmcode⟩ : ∃ n, n = code2.length := ⟨_, rfl⟩
  clear HNE
  skip
  go_enter Tryd.func43, Tryd.ntmps43
  go_wp2
  clear ca0 cb0 ca1 cb1 ca2 cb2 ca3 cb3 ca4 cb4 cb5 tq0 uq0 tq1 uq1 tq2 uq2 tq3 uq3 tq4 uq4 tq5 uq5 ca5
  go_loopw [5] (fun vi wr => ∃ i : Nat, i ≤ caps.length ∧ vi = .int .i64 (i : Int) ∧ Hid (El wr w.heap.size [.string (strOf nm), .int .i64 ps, .int .i64 rg, .slice a3 code.length ka3, .slice a4 ks.length ka4, .slice a5 caps.length ka5] ∧ El wr W1.heap.size [.string (strOf nm2), .int .i64 ps2, .int .i64 rg2, .slice b3 code2.length kb3, .slice b4 ks2.length kb4, .slice b5 caps2.length kb5] ∧ Below w.heap.size w wr) ∧ Hid (caps.take i = caps2.take i)) (fun vi _ => caps.length - (intOf vi).toNat)
  case atStart => exact ⟨0, Nat.zero_le _, rfl, HL, Lib.hid rfl⟩
  case round =>
    clear HL
    obtain ⟨i, hi, rfl, HX, HT⟩ := hrel
    have cA : wr.cell? ⟨w.heap.size, 5, none⟩ = some (.slice a5 caps.length ka5) := HX.out.1.at 5 _ rfl
    by_cases hlt : i < caps.length
    · have z0 : (0 : Int) ≤ (i : Int) := by omega
      have z1 : (i : Int) < (caps.length : Int) := by omega
      have z2 : (i : Int) < (caps2.length : Int) := by have := H3.out; omega
      obtain ⟨xa, hxa⟩ : ∃ z, caps[i]? = some z := ⟨_, List.getElem?_eq_getElem hlt⟩
      obtain ⟨xb, hxb⟩ : ∃ z, caps2[i]? = some z := ⟨_, List.getElem?_eq_getElem (by have := H3.out; omega)⟩
      obtain ⟨ga, oa, ea, hga, hra⟩ := Va5.out i xa hxa
      subst ea
      obtain ⟨gb, ob, eb, hgb, hrb⟩ := Vb5.out i xb hxb
      subst eb
      have HTK := Lib.hid (take_moreG hxa hxb HT.out)
      have HNF : Hid (xa ≠ xb → decide ((⟨nm, ps, rg, code, ks, caps⟩ : Pr) = ⟨nm2, ps2, rg2, code2, ks2, caps2⟩) = false) := Lib.hid (fun h => decide_eq_false (fun e => h (by cases e; rw [hxa] at hxb; cases hxb; rfl)))
      obtain ⟨V, hV⟩ : ∃ V, wr.drew = V := ⟨_, rfl⟩
      have HV := Lib.hid hV
      have HX2 : Hid (El V w.heap.size [.string (strOf nm), .int .i64 ps, .int .i64 rg, .slice a3 code.length ka3, .slice a4 ks.length ka4, .slice (some ⟨ga, oa, none⟩) caps.length ka5] ∧ El V W1.heap.size [.string (strOf nm2), .int .i64 ps2, .int .i64 rg2, .slice b3 code2.length kb3, .slice b4 ks2.length kb4, .slice (some ⟨gb, ob, none⟩) caps2.length kb5] ∧ Below w.heap.size w V) := Lib.hid (by
          have hb : Below wr.heap.size wr V := by rw [← hV]; exact ⟨rfl, rfl, rfl, Nat.le_refl _, fun _ _ => rfl⟩
          exact ⟨HX.out.1.later hb, HX.out.2.1.later hb, chain2 HX.out.2.2 hb⟩)
      have dA : V.cell? ⟨w.heap.size, 5, none⟩ = some (.slice (some ⟨ga, oa, none⟩) caps.length ka5) := HX2.out.1.at 5 _ rfl
      have dB : V.cell? ⟨W1.heap.size, 5, none⟩ = some (.slice (some ⟨gb, ob, none⟩) caps2.length kb5) := HX2.out.2.1.at 5 _ rfl
      have QA : Hid (V.rangeAt ga (oa + i * 2) (Cp.cells xa)) := Lib.hid (rangeAt_block hra (HX2.out.2.2.block ga hga))
      have QB : Hid (V.rangeAt gb (ob + i * 2) (Cp.cells xb)) := Lib.hid (rangeAt_block hrb (HX2.out.2.2.block gb hgb))
      clear HX HT hra hrb hga hgb hV hxa hxb
      go_wp2_with fail
      refine region_still (by kernel_rfl) (by kernel_rfl) V HV.out ?_
      iterate 4 still_step
      refine still_runG (by rfl) (exec_load_mid 83 (.tmp 64) rfl ga (oa + i * 2) rfl (Cp.cells xa) _ QA.out Tryd.underlying83 rfl (cp_infoF xa)) ?_
      iterate 4 still_step
      refine still_runG (by rfl) (exec_load_mid 83 (.tmp 69) rfl gb (ob + i * 2) rfl (Cp.cells xb) _ QB.out Tryd.underlying83 rfl (cp_infoF xb)) ?_
      obtain ⟨dd, hd⟩ : ∃ dd, (!decide (xa = xb)) = dd := ⟨_, rfl⟩
      refine still_runG (v := .bool dd) (by rfl) (by rw [← hd]; exact exec_neqG cp_eq (by kernel_rfl) rfl rfl rfl) ?_
      refine wpStill_nil ?_
      simp only [Act.put, List.setIfInBounds_toArray, List.set_cons_zero, List.set_cons_succ]
      clear QA QB HV dA dB cA
      cases dd with
      | true =>
        have HF := Lib.hid (HNF.out (by simpa using hd))
        clear hd
        go_wp2
        go_ret
        exact ⟨by rw [HF.out]; rfl, HX2.out.2.2⟩
      | false =>
        have HT2 := Lib.hid (HTK.out (by simpa using hd))
        clear hd
        go_wp2
        go_roundw
        case rel => exact ⟨i + 1, by omega, by go_num, HX2, HT2⟩
        case measure => simp [intOf]; omega
    · obtain rfl : caps.length = i := by omega
      have HEQ0 : Hid (caps = caps2) := Lib.hid (by have := HT.out; rwa [List.take_of_length_le (Nat.le_refl _), List.take_of_length_le (by have := H3.out; omega)] at this)
      clear HT hi hlt
      have HLX1 := Lib.hid HX.out
      clear HX
      go_wp2
      go_loopw [6] (fun vi wr => ∃ i : Nat, i ≤ ks.length ∧ vi = .int .i64 (i : Int) ∧ Hid (El wr w.heap.size [.string (strOf nm), .int .i64 ps, .int .i64 rg, .slice a3 code.length ka3, .slice a4 ks.length ka4, .slice a5 caps.length ka5] ∧ El wr W1.heap.size [.string (strOf nm2), .int .i64 ps2, .int .i64 rg2, .slice b3 code2.length kb3, .slice b4 ks2.length kb4, .slice b5 caps2.length kb5] ∧ Below w.heap.size w wr) ∧ Hid (ks.take i = ks2.take i)) (fun vi _ => ks.length - (intOf vi).toNat)
      case atStart => exact ⟨0, Nat.zero_le _, rfl, HLX1, Lib.hid rfl⟩
      case round =>
        clear HLX1
        obtain ⟨i, hi, rfl, HX, HT⟩ := hrel
        have cA : wr.cell? ⟨w.heap.size, 4, none⟩ = some (.slice a4 ks.length ka4) := HX.out.1.at 4 _ rfl
        by_cases hlt : i < ks.length
        · have z0 : (0 : Int) ≤ (i : Int) := by omega
          have z1 : (i : Int) < (ks.length : Int) := by omega
          have z2 : (i : Int) < (ks2.length : Int) := by have := H4.out; omega
          obtain ⟨xa, hxa⟩ : ∃ z, ks[i]? = some z := ⟨_, List.getElem?_eq_getElem hlt⟩
          obtain ⟨xb, hxb⟩ : ∃ z, ks2[i]? = some z := ⟨_, List.getElem?_eq_getElem (by have := H4.out; omega)⟩
          obtain ⟨ga, oa, ea, hga, hra⟩ := Va4.out i xa hxa
          subst ea
          obtain ⟨gb, ob, eb, hgb, hrb⟩ := Vb4.out i xb hxb
          subst eb
          have HTK := Lib.hid (take_moreG hxa hxb HT.out)
          have HNF : Hid (xa ≠ xb → decide ((⟨nm, ps, rg, code, ks, caps⟩ : Pr) = ⟨nm2, ps2, rg2, code2, ks2, caps2⟩) = false) := Lib.hid (fun h => decide_eq_false (fun e => h (by cases e; rw [hxa] at hxb; cases hxb; rfl)))
          obtain ⟨V, hV⟩ : ∃ V, wr.drew = V := ⟨_, rfl⟩
          have HV := Lib.hid hV
          have HX2 : Hid (El V w.heap.size [.string (strOf nm), .int .i64 ps, .int .i64 rg, .slice a3 code.length ka3, .slice (some ⟨ga, oa, none⟩) ks.length ka4, .slice a5 caps.length ka5] ∧ El V W1.heap.size [.string (strOf nm2), .int .i64 ps2, .int .i64 rg2, .slice b3 code2.length kb3, .slice (some ⟨gb, ob, none⟩) ks2.length kb4, .slice b5 caps2.length kb5] ∧ Below w.heap.size w V) := Lib.hid (by
              have hb : Below wr.heap.size wr V := by rw [← hV]; exact ⟨rfl, rfl, rfl, Nat.le_refl _, fun _ _ => rfl⟩
              exact ⟨HX.out.1.later hb, HX.out.2.1.later hb, chain2 HX.out.2.2 hb⟩)
          have dA : V.cell? ⟨w.heap.size, 4, none⟩ = some (.slice (some ⟨ga, oa, none⟩) ks.length ka4) := HX2.out.1.at 4 _ rfl
          have dB : V.cell? ⟨W1.heap.size, 4, none⟩ = some (.slice (some ⟨gb, ob, none⟩) ks2.length kb4) := HX2.out.2.1.at 4 _ rfl
          have QA : Hid (V.rangeAt ga (oa + i * 3) (Vl.cells xa)) := Lib.hid (rangeAt_block hra (HX2.out.2.2.block ga hga))
          have QB : Hid (V.rangeAt gb (ob + i * 3) (Vl.cells xb)) := Lib.hid (rangeAt_block hrb (HX2.out.2.2.block gb hgb))
          clear HX HT hra hrb hga hgb hV hxa hxb
          go_wp2_with fail
          refine region_still (by kernel_rfl) (by kernel_rfl) V HV.out ?_
          iterate 4 still_step
          refine still_runG (by rfl) (exec_load_mid 45 (.tmp 82) rfl ga (oa + i * 3) rfl (Vl.cells xa) _ QA.out Tryd.underlying45 rfl (v_info xa)) ?_
          iterate 4 still_step
          refine still_runG (by rfl) (exec_load_mid 45 (.tmp 87) rfl gb (ob + i * 3) rfl (Vl.cells xb) _ QB.out Tryd.underlying45 rfl (v_info xb)) ?_
          obtain ⟨dd, hd⟩ : ∃ dd, (!decide (xa = xb)) = dd := ⟨_, rfl⟩
          refine still_runG (v := .bool dd) (by rfl) (by rw [← hd]; exact exec_neqG vl_eq (by kernel_rfl) rfl rfl rfl) ?_
          refine wpStill_nil ?_
          simp only [Act.put, List.setIfInBounds_toArray, List.set_cons_zero, List.set_cons_succ]
          clear QA QB HV dA dB cA
          cases dd with
          | true =>
            have HF := Lib.hid (HNF.out (by simpa using hd))
            clear hd
            go_wp2
            go_ret
            exact ⟨by rw [HF.out]; rfl, HX2.out.2.2⟩
          | false =>
            have HT2 := Lib.hid (HTK.out (by simpa using hd))
            clear hd
            go_wp2
            go_roundw
            case rel => exact ⟨i + 1, by omega, by go_num, HX2, HT2⟩
            case measure => simp [intOf]; omega
        · obtain rfl : ks.length = i := by omega
          have HEQ1 : Hid (ks = ks2) := Lib.hid (by have := HT.out; rwa [List.take_of_length_le (Nat.le_refl _), List.take_of_length_le (by have := H4.out; omega)] at this)
          clear HT hi hlt
          have HLX2 := Lib.hid HX.out
          clear HX
          go_wp2
          go_loopw [7] (fun vi wr => ∃ i : Nat, i ≤ code.length ∧ vi = .int .i64 (i : Int) ∧ Hid (El wr w.heap.size [.string (strOf nm), .int .i64 ps, .int .i64 rg, .slice a3 code.length ka3, .slice a4 ks.length ka4, .slice a5 caps.length ka5] ∧ El wr W1.heap.size [.string (strOf nm2), .int .i64 ps2, .int .i64 rg2, .slice b3 code2.length kb3, .slice b4 ks2.length kb4, .slice b5 caps2.length kb5] ∧ Below w.heap.size w wr) ∧ Hid (code.take i = code2.take i)) (fun vi _ => code.length - (intOf vi).toNat)
          case atStart => exact ⟨0, Nat.zero_le _, rfl, HLX2, Lib.hid rfl⟩
          case round =>
            clear HLX2
            obtain ⟨i, hi, rfl, HX, HT⟩ := hrel
            have cA : wr.cell? ⟨w.heap.size, 3, none⟩ = some (.slice a3 code.length ka3) := HX.out.1.at 3 _ rfl
            by_cases hlt : i < code.length
            · have z0 : (0 : Int) ≤ (i : Int) := by omega
              have z1 : (i : Int) < (code.length : Int) := by omega
              have z2 : (i : Int) < (code2.length : Int) := by have := H5.out; omega
              obtain ⟨xa, hxa⟩ : ∃ z, code[i]? = some z := ⟨_, List.getElem?_eq_getElem hlt⟩
              obtain ⟨xb, hxb⟩ : ∃ z, code2[i]? = some z := ⟨_, List.getElem?_eq_getElem (by have := H5.out; omega)⟩
              obtain ⟨ga, oa, ea, hga, hra⟩ := Va3.out i xa hxa
              subst ea
              obtain ⟨gb, ob, eb, hgb, hrb⟩ := Vb3.out i xb hxb
              subst eb
              have HTK := Lib.hid (take_moreG hxa hxb HT.out)
              have HNF : Hid (xa ≠ xb → decide ((⟨nm, ps, rg, code, ks, caps⟩ : Pr) = ⟨nm2, ps2, rg2, code2, ks2, caps2⟩) = false) := Lib.hid (fun h => decide_eq_false (fun e => h (by cases e; rw [hxa] at hxb; cases hxb; rfl)))
              obtain ⟨V, hV⟩ : ∃ V, wr.drew = V := ⟨_, rfl⟩
              have HV := Lib.hid hV
              have HX2 : Hid (El V w.heap.size [.string (strOf nm), .int .i64 ps, .int .i64 rg, .slice (some ⟨ga, oa, none⟩) code.length ka3, .slice a4 ks.length ka4, .slice a5 caps.length ka5] ∧ El V W1.heap.size [.string (strOf nm2), .int .i64 ps2, .int .i64 rg2, .slice (some ⟨gb, ob, none⟩) code2.length kb3, .slice b4 ks2.length kb4, .slice b5 caps2.length kb5] ∧ Below w.heap.size w V) := Lib.hid (by
                  have hb : Below wr.heap.size wr V := by rw [← hV]; exact ⟨rfl, rfl, rfl, Nat.le_refl _, fun _ _ => rfl⟩
                  exact ⟨HX.out.1.later hb, HX.out.2.1.later hb, chain2 HX.out.2.2 hb⟩)
              have dA : V.cell? ⟨w.heap.size, 3, none⟩ = some (.slice (some ⟨ga, oa, none⟩) code.length ka3) := HX2.out.1.at 3 _ rfl
              have dB : V.cell? ⟨W1.heap.size, 3, none⟩ = some (.slice (some ⟨gb, ob, none⟩) code2.length kb3) := HX2.out.2.1.at 3 _ rfl
              have QA : Hid (V.rangeAt ga (oa + i * 4) (Ix.cells xa)) := Lib.hid (rangeAt_block hra (HX2.out.2.2.block ga hga))
              have QB : Hid (V.rangeAt gb (ob + i * 4) (Ix.cells xb)) := Lib.hid (rangeAt_block hrb (HX2.out.2.2.block gb hgb))
              clear HX HT hra hrb hga hgb hV hxa hxb
              go_wp2_with fail
              refine region_still (by kernel_rfl) (by kernel_rfl) V HV.out ?_
              iterate 4 still_step
              refine still_runG (by rfl) (exec_load_mid 89 (.tmp 100) rfl ga (oa + i * 4) rfl (Ix.cells xa) _ QA.out Tryd.underlying89 rfl (i_info xa)) ?_
              iterate 4 still_step
              refine still_runG (by rfl) (exec_load_mid 89 (.tmp 105) rfl gb (ob + i * 4) rfl (Ix.cells xb) _ QB.out Tryd.underlying89 rfl (i_info xb)) ?_
              obtain ⟨dd, hd⟩ : ∃ dd, (!decide (xa = xb)) = dd := ⟨_, rfl⟩
              refine still_runG (v := .bool dd) (by rfl) (by rw [← hd]; exact exec_neqG ix_eq (by kernel_rfl) rfl rfl rfl) ?_
              refine wpStill_nil ?_
              simp only [Act.put, List.setIfInBounds_toArray, List.set_cons_zero, List.set_cons_succ]
              clear QA QB HV dA dB cA
              cases dd with
              | true =>
                have HF := Lib.hid (HNF.out (by simpa using hd))
                clear hd
                go_wp2
                go_ret
                exact ⟨by rw [HF.out]; rfl, HX2.out.2.2⟩
              | false =>
                have HT2 := Lib.hid (HTK.out (by simpa using hd))
                clear hd
                go_wp2
                go_roundw
                case rel => exact ⟨i + 1, by omega, by go_num, HX2, HT2⟩
                case measure => simp [intOf]; omega
            · obtain rfl : code.length = i := by omega
              have HEQ2 : Hid (code = code2) := Lib.hid (by have := HT.out; rwa [List.take_of_length_le (Nat.le_refl _), List.take_of_length_le (by have := H5.out; omega)] at this)
              clear HT hi hlt
              have HLX3 := Lib.hid HX.out
              clear HX
              go_wp2
              go_ret
              exact ⟨by rw [decide_eq_true (show (⟨nm, ps, rg, code, ks, caps⟩ : Pr) = ⟨nm2, ps2, rg2, code2, ks2, caps2⟩ by rw [H0.out, H1.out, H2.out, HEQ0.out, HEQ1.out, HEQ2.out])]; rfl, HLX3.out.2.2⟩

set_option maxHeartbeats 8000000 in
set_option maxRecDepth 100000 in
theorem same_any {ca cb : List Value} {p q : Un} (w : World) (hp : UC X w ca p) (hq : UC Y w cb q) (sp : SmU p) (sq : SmU q) :
    Calls Tryd.prog 16 #[.agg ca.toArray, .agg cb.toArray] w fun e w' => e = .returned (.bool (decide (p = q))) ∧ Below w.heap.size w w' := by
  have l1 := sp.uses
  have l2 := sp.prs
  have l3 := sq.uses
  have l4 := sq.prs
  have HSP := Lib.hid sp.pr
  have HSQ := Lib.hid sq.pr
  obtain ⟨vu, vp, hca, ru, rp⟩ := hp
  obtain ⟨uu, up, hcb, tu, tp⟩ := hq
  obtain ⟨a2, ka2, ha2⟩ := Row.form ru
  rw [List.length_map] at ha2
  subst ha2
  obtain ⟨b2, kb2, hb2⟩ := Row.form tu
  rw [List.length_map] at hb2
  subst hb2
  obtain ⟨a4, na4, ka4, ha4⟩ : ∃ a n b, vp = .slice a n b := by
    obtain ⟨css, h3, -⟩ := rp
    obtain ⟨a, b, e⟩ := Row.form h3
    exact ⟨a, _, b, e⟩
  subst ha4
  obtain ⟨ha4, Va40⟩ := PRow.el rp
  subst ha4
  have Va4 := Lib.hid Va40
  clear Va40
  obtain ⟨b4, nb4, kb4, hb4⟩ : ∃ a n b, up = .slice a n b := by
    obtain ⟨css, h3, -⟩ := tp
    obtain ⟨a, b, e⟩ := Row.form h3
    exact ⟨a, _, b, e⟩
  subst hb4
  obtain ⟨hb4, Vb40⟩ := PRow.el tp
  subst hb4
  have Vb4 := Lib.hid Vb40
  clear Vb40
  have Va2 := Lib.hid (Rw.el (Z := 3) ru (fun _ => rfl)).2
  have Vb2 := Lib.hid (Rw.el (Z := 3) tu (fun _ => rfl)).2
  obtain ⟨nm, ver, uses, funs, prs⟩ := p
  obtain ⟨nm2, ver2, uses2, funs2, prs2⟩ := q
  simp only at hca hcb l1 l2 l3 l4 Va2 Va4 Vb2 Vb4 HSP HSQ
  clear ru rp tu tp sp sq
  obtain ⟨W1, hW1⟩ : ∃ W1, W1 = w.alloc (.cells ca.toArray 25) := ⟨_, rfl⟩
  obtain ⟨W2, hW2⟩ : ∃ W2, W2 = W1.alloc (.cells cb.toArray 25) := ⟨_, rfl⟩
  have HB1 : Below w.heap.size w W1 := by rw [hW1]; exact (Below.refl _ _).alloc (Nat.le_refl _) _
  have HB1b : Below W1.heap.size W1 W2 := by rw [hW2]; exact (Below.refl _ _).alloc (Nat.le_refl _) _
  have HL : Hid (El W2 w.heap.size [.string (strOf nm), .int .i64 ver, .slice a2 uses.length ka2, .int .i64 funs, .slice a4 prs.length ka4] ∧ El W2 W1.heap.size [.string (strOf nm2), .int .i64 ver2, .slice b2 uses2.length kb2, .int .i64 funs2, .slice b4 prs2.length kb4] ∧ Below w.heap.size w W2) := Lib.hid ⟨by rw [← hca]; exact El.later (by rw [hW1]; exact el_new w ca _) HB1b, by rw [← hcb, hW2]; exact el_new W1 cb _, chain2 HB1 HB1b⟩
  have ca0 : W2.cell? ⟨w.heap.size, 0, none⟩ = some (.string (strOf nm)) := HL.out.1.at 0 _ rfl
  have cb0 : W2.cell? ⟨W1.heap.size, 0, none⟩ = some (.string (strOf nm2)) := HL.out.2.1.at 0 _ rfl
  have ca1 : W2.cell? ⟨w.heap.size, 1, none⟩ = some (.int .i64 ver) := HL.out.1.at 1 _ rfl
  have cb1 : W2.cell? ⟨W1.heap.size, 1, none⟩ = some (.int .i64 ver2) := HL.out.2.1.at 1 _ rfl
  have ca2 : W2.cell? ⟨w.heap.size, 2, none⟩ = some (.slice a2 uses.length ka2) := HL.out.1.at 2 _ rfl
  have cb2 : W2.cell? ⟨W1.heap.size, 2, none⟩ = some (.slice b2 uses2.length kb2) := HL.out.2.1.at 2 _ rfl
  have ca3 : W2.cell? ⟨w.heap.size, 3, none⟩ = some (.int .i64 funs) := HL.out.1.at 3 _ rfl
  have cb3 : W2.cell? ⟨W1.heap.size, 3, none⟩ = some (.int .i64 funs2) := HL.out.2.1.at 3 _ rfl
  have ca4 : W2.cell? ⟨w.heap.size, 4, none⟩ = some (.slice a4 prs.length ka4) := HL.out.1.at 4 _ rfl
  have cb4 : W2.cell? ⟨W1.heap.size, 4, none⟩ = some (.slice b4 prs2.length kb4) := HL.out.2.1.at 4 _ rfl
  have hX1 : w.alloc (.cells #[.string (strOf nm), .int .i64 ver, .slice a2 uses.length ka2, .int .i64 funs, .slice a4 prs.length ka4] 25) = W1 := by rw [hW1, hca]
  have hX2 : W1.alloc (.cells #[.string (strOf nm2), .int .i64 ver2, .slice b2 uses2.length kb2, .int .i64 funs2, .slice b4 prs2.length kb4] 25) = W2 := by rw [hW2, hcb]
  subst hca hcb
  clear hW1 hW2 HB1 HB1b
  show Calls _ _ #[.agg #[.string (strOf nm), .int .i64 ver, .slice a2 uses.length ka2, .int .i64 funs, .slice a4 prs.length ka4], .agg #[.string (strOf nm2), .int .i64 ver2, .slice b2 uses2.length kb2, .int .i64 funs2, .slice b4 prs2.length kb4]] w _
  have HNE : Hid (∀ b : Bool, decide ((⟨nm, ver, uses, funs, prs⟩ : Un) = ⟨nm2, ver2, uses2, funs2, prs2⟩) = b → (b = decide ((⟨nm, ver, uses, funs, prs⟩ : Un) = ⟨nm2, ver2, uses2, funs2, prs2⟩))) := Lib.hid (fun b h => h.symm)
  by_cases h0 : nm = nm2
  rotate_left
  · have HF : Hid (decide ((⟨nm, ver, uses, funs, prs⟩ : Un) = ⟨nm2, ver2, uses2, funs2, prs2⟩) = false) := Lib.hid (decide_eq_false (fun e => h0 (by cases e; rfl)))
    obtain ⟨tq0, uq0⟩ := neq_str _ _ h0
    clear HNE h0
    go_enter Tryd.func16, Tryd.ntmps16
    go_wp2
    go_ret
    exact ⟨by rw [HF.out]; rfl, HL.out.2.2⟩
  obtain ⟨tq0, uq0⟩ := eq_str _ _ h0
  have H0 := Lib.hid h0
  clear h0
  by_cases h1 : ver = ver2
  rotate_left
  · have HF : Hid (decide ((⟨nm, ver, uses, funs, prs⟩ : Un) = ⟨nm2, ver2, uses2, funs2, prs2⟩) = false) := Lib.hid (decide_eq_false (fun e => h1 (by cases e; rfl)))
    obtain ⟨tq1, uq1⟩ := neq_int _ _ h1
    clear HNE h1
    go_enter Tryd.func16, Tryd.ntmps16
    go_wp2
    go_ret
    exact ⟨by rw [HF.out]; rfl, HL.out.2.2⟩
  obtain ⟨tq1, uq1⟩ := eq_int _ _ h1
  have H1 := Lib.hid h1
  clear h1
  by_cases h2 : funs = funs2
  rotate_left
  · have HF : Hid (decide ((⟨nm, ver, uses, funs, prs⟩ : Un) = ⟨nm2, ver2, uses2, funs2, prs2⟩) = false) := Lib.hid (decide_eq_false (fun e => h2 (by cases e; rfl)))
    obtain ⟨tq2, uq2⟩ := neq_int _ _ h2
    clear HNE h2
    go_enter Tryd.func16, Tryd.ntmps16
    go_wp2
    go_ret
    exact ⟨by rw [HF.out]; rfl, HL.out.2.2⟩
  obtain ⟨tq2, uq2⟩ := eq_int _ _ h2
  have H2 := Lib.hid h2
  clear h2
  by_cases h3 : uses.length = uses2.length
  rotate_left
  · have HF : Hid (decide ((⟨nm, ver, uses, funs, prs⟩ : Un) = ⟨nm2, ver2, uses2, funs2, prs2⟩) = false) := Lib.hid (decide_eq_false (fun e => h3 (by cases e; rfl)))
    obtain ⟨tq3, uq3⟩ := neq_int (uses.length : Int) (uses2.length : Int) (by omega)
    clear HNE h3
    go_enter Tryd.func16, Tryd.ntmps16
    go_wp2
    go_ret
    exact ⟨by rw [HF.out]; rfl, HL.out.2.2⟩
  obtain ⟨tq3, uq3⟩ := eq_int (uses.length : Int) (uses2.length : Int) (by omega)
  have H3 := Lib.hid h3
  clear h3
  by_cases h4 : prs.length = prs2.length
  rotate_left
  · have HF : Hid (decide ((⟨nm, ver, uses, funs, prs⟩ : Un) = ⟨nm2, ver2, uses2, funs2, prs2⟩) = false) := Lib.hid (decide_eq_false (fun e => h4 (by cases e; rfl)))
    obtain ⟨tq4, uq4⟩ := neq_int (prs.length : Int) (prs2.length : Int) (by omega)
    clear HNE h4
    go_enter Tryd.func16, Tryd.ntmps16
    go_wp2
    go_ret
    exact ⟨by rw [HF.out]; rfl, HL.out.2.2⟩
  obtain ⟨tq4, uq4⟩ := eq_int (prs.length : Int) (prs2.length : Int) (by omega)
  have H4 := Lib.hid h4
  clear h4
  obtain ⟨nuses, hnuses⟩ : ∃ n, n = uses.length := ⟨_, rfl⟩
  obtain ⟨muses, hmuses⟩ : ∃ n, n = uses2.length := ⟨_, rfl⟩
  obtain ⟨nprs, hnprs⟩ : ∃ n, n = prs.length := ⟨_, rfl⟩
  obtain ⟨mprs, hmprs⟩ : ∃ n, n = prs2.length := ⟨_, rfl⟩
  clear HNE
  skip
  go_enter Tryd.func16, Tryd.ntmps16
  go_wp2
  clear ca0 cb0 ca1 cb1 ca3 cb3 ca4 cb4 cb2 tq0 uq0 tq1 uq1 tq2 uq2 tq3 uq3 tq4 uq4 ca2
  go_loopw [5] (fun vi wr => ∃ i : Nat, i ≤ uses.length ∧ vi = .int .i64 (i : Int) ∧ Hid (El wr w.heap.size [.string (strOf nm), .int .i64 ver, .slice a2 uses.length ka2, .int .i64 funs, .slice a4 prs.length ka4] ∧ El wr W1.heap.size [.string (strOf nm2), .int .i64 ver2, .slice b2 uses2.length kb2, .int .i64 funs2, .slice b4 prs2.length kb4] ∧ Below w.heap.size w wr) ∧ Hid (uses.take i = uses2.take i)) (fun vi _ => uses.length - (intOf vi).toNat)
  case atStart => exact ⟨0, Nat.zero_le _, rfl, HL, Lib.hid rfl⟩
  case round =>
    clear HL
    obtain ⟨i, hi, rfl, HX, HT⟩ := hrel
    have cA : wr.cell? ⟨w.heap.size, 2, none⟩ = some (.slice a2 uses.length ka2) := HX.out.1.at 2 _ rfl
    by_cases hlt : i < uses.length
    · have z0 : (0 : Int) ≤ (i : Int) := by omega
      have z1 : (i : Int) < (uses.length : Int) := by omega
      have z2 : (i : Int) < (uses2.length : Int) := by have := H3.out; omega
      obtain ⟨xa, hxa⟩ : ∃ z, uses[i]? = some z := ⟨_, List.getElem?_eq_getElem hlt⟩
      obtain ⟨xb, hxb⟩ : ∃ z, uses2[i]? = some z := ⟨_, List.getElem?_eq_getElem (by have := H3.out; omega)⟩
      obtain ⟨ga, oa, ea, hga, hra⟩ := Va2.out i xa hxa
      subst ea
      obtain ⟨gb, ob, eb, hgb, hrb⟩ := Vb2.out i xb hxb
      subst eb
      have HTK := Lib.hid (take_moreG hxa hxb HT.out)
      have HNF : Hid (xa ≠ xb → decide ((⟨nm, ver, uses, funs, prs⟩ : Un) = ⟨nm2, ver2, uses2, funs2, prs2⟩) = false) := Lib.hid (fun h => decide_eq_false (fun e => h (by cases e; rw [hxa] at hxb; cases hxb; rfl)))
      obtain ⟨V, hV⟩ : ∃ V, wr.drew = V := ⟨_, rfl⟩
      have HV := Lib.hid hV
      have HX2 : Hid (El V w.heap.size [.string (strOf nm), .int .i64 ver, .slice (some ⟨ga, oa, none⟩) uses.length ka2, .int .i64 funs, .slice a4 prs.length ka4] ∧ El V W1.heap.size [.string (strOf nm2), .int .i64 ver2, .slice (some ⟨gb, ob, none⟩) uses2.length kb2, .int .i64 funs2, .slice b4 prs2.length kb4] ∧ Below w.heap.size w V) := Lib.hid (by
          have hb : Below wr.heap.size wr V := by rw [← hV]; exact ⟨rfl, rfl, rfl, Nat.le_refl _, fun _ _ => rfl⟩
          exact ⟨HX.out.1.later hb, HX.out.2.1.later hb, chain2 HX.out.2.2 hb⟩)
      have dA : V.cell? ⟨w.heap.size, 2, none⟩ = some (.slice (some ⟨ga, oa, none⟩) uses.length ka2) := HX2.out.1.at 2 _ rfl
      have dB : V.cell? ⟨W1.heap.size, 2, none⟩ = some (.slice (some ⟨gb, ob, none⟩) uses2.length kb2) := HX2.out.2.1.at 2 _ rfl
      have QA : Hid (V.rangeAt ga (oa + i * 3) (Us.cells xa)) := Lib.hid (rangeAt_block hra (HX2.out.2.2.block ga hga))
      have QB : Hid (V.rangeAt gb (ob + i * 3) (Us.cells xb)) := Lib.hid (rangeAt_block hrb (HX2.out.2.2.block gb hgb))
      clear HX HT hra hrb hga hgb hV hxa hxb
      go_wp2_with fail
      refine region_still (by kernel_rfl) (by kernel_rfl) V HV.out ?_
      iterate 4 still_step
      refine still_runG (by rfl) (exec_load_mid 43 (.tmp 54) rfl ga (oa + i * 3) rfl (Us.cells xa) _ QA.out Tryd.underlying43 rfl (us_info xa)) ?_
      iterate 4 still_step
      refine still_runG (by rfl) (exec_load_mid 43 (.tmp 59) rfl gb (ob + i * 3) rfl (Us.cells xb) _ QB.out Tryd.underlying43 rfl (us_info xb)) ?_
      obtain ⟨dd, hd⟩ : ∃ dd, (!decide (xa = xb)) = dd := ⟨_, rfl⟩
      refine still_runG (v := .bool dd) (by rfl) (by rw [← hd]; exact exec_neqG us_eq (by kernel_rfl) rfl rfl rfl) ?_
      refine wpStill_nil ?_
      simp only [Act.put, List.setIfInBounds_toArray, List.set_cons_zero, List.set_cons_succ]
      clear QA QB HV dA dB cA
      cases dd with
      | true =>
        have HF := Lib.hid (HNF.out (by simpa using hd))
        clear hd
        go_wp2
        go_ret
        exact ⟨by rw [HF.out]; rfl, HX2.out.2.2⟩
      | false =>
        have HT2 := Lib.hid (HTK.out (by simpa using hd))
        clear hd
        go_wp2
        go_roundw
        case rel => exact ⟨i + 1, by omega, by go_num, HX2, HT2⟩
        case measure => simp [intOf]; omega
    · obtain rfl : uses.length = i := by omega
      have HEQ0 : Hid (uses = uses2) := Lib.hid (by have := HT.out; rwa [List.take_of_length_le (Nat.le_refl _), List.take_of_length_le (by have := H3.out; omega)] at this)
      clear HT hi hlt
      have HLX1 := Lib.hid HX.out
      clear HX
      go_wp2
      go_loopw [6] (fun vi wr => ∃ i : Nat, i ≤ prs.length ∧ vi = .int .i64 (i : Int) ∧ Hid (El wr w.heap.size [.string (strOf nm), .int .i64 ver, .slice a2 uses.length ka2, .int .i64 funs, .slice a4 prs.length ka4] ∧ El wr W1.heap.size [.string (strOf nm2), .int .i64 ver2, .slice b2 uses2.length kb2, .int .i64 funs2, .slice b4 prs2.length kb4] ∧ Below w.heap.size w wr) ∧ Hid (prs.take i = prs2.take i)) (fun vi _ => prs.length - (intOf vi).toNat)
      case atStart => exact ⟨0, Nat.zero_le _, rfl, HLX1, Lib.hid rfl⟩
      case round =>
        clear HLX1
        obtain ⟨i, hi, rfl, HX, HT⟩ := hrel
        have cA : wr.cell? ⟨w.heap.size, 4, none⟩ = some (.slice a4 prs.length ka4) := HX.out.1.at 4 _ rfl
        by_cases hlt : i < prs.length
        · have z0 : (0 : Int) ≤ (i : Int) := by omega
          have z1 : (i : Int) < (prs.length : Int) := by omega
          have z2 : (i : Int) < (prs2.length : Int) := by have := H4.out; omega
          obtain ⟨xa, hxa⟩ : ∃ z, prs[i]? = some z := ⟨_, List.getElem?_eq_getElem hlt⟩
          obtain ⟨xb, hxb⟩ : ∃ z, prs2[i]? = some z := ⟨_, List.getElem?_eq_getElem (by have := H4.out; omega)⟩
          obtain ⟨ga, oa, qa, ea, hga, hra, hpca⟩ := Va4.out i xa hxa
          subst ea
          obtain ⟨gb, ob, qb, eb, hgb, hrb, hpcb⟩ := Vb4.out i xb hxb
          subst eb
          have HTK := Lib.hid (take_moreG hxa hxb HT.out)
          have HNF : Hid (xa ≠ xb → decide ((⟨nm, ver, uses, funs, prs⟩ : Un) = ⟨nm2, ver2, uses2, funs2, prs2⟩) = false) := Lib.hid (fun h => decide_eq_false (fun e => h (by cases e; rw [hxa] at hxb; cases hxb; rfl)))
          obtain ⟨V, hV⟩ : ∃ V, wr.drew = V := ⟨_, rfl⟩
          have HV := Lib.hid hV
          have HX2 : Hid (El V w.heap.size [.string (strOf nm), .int .i64 ver, .slice a2 uses.length ka2, .int .i64 funs, .slice (some ⟨ga, oa, none⟩) prs.length ka4] ∧ El V W1.heap.size [.string (strOf nm2), .int .i64 ver2, .slice b2 uses2.length kb2, .int .i64 funs2, .slice (some ⟨gb, ob, none⟩) prs2.length kb4] ∧ Below w.heap.size w V) := Lib.hid (by
              have hb : Below wr.heap.size wr V := by rw [← hV]; exact ⟨rfl, rfl, rfl, Nat.le_refl _, fun _ _ => rfl⟩
              exact ⟨HX.out.1.later hb, HX.out.2.1.later hb, chain2 HX.out.2.2 hb⟩)
          have dA : V.cell? ⟨w.heap.size, 4, none⟩ = some (.slice (some ⟨ga, oa, none⟩) prs.length ka4) := HX2.out.1.at 4 _ rfl
          have dB : V.cell? ⟨W1.heap.size, 4, none⟩ = some (.slice (some ⟨gb, ob, none⟩) prs2.length kb4) := HX2.out.2.1.at 4 _ rfl
          have QA : Hid (V.rangeAt ga (oa + i * 6) qa) := Lib.hid (rangeAt_block hra (HX2.out.2.2.block ga hga))
          have QB : Hid (V.rangeAt gb (ob + i * 6) qb) := Lib.hid (rangeAt_block hrb (HX2.out.2.2.block gb hgb))
          have CP := Lib.hid (protos_any V (hpca.later HX2.out.2.2) (hpcb.later HX2.out.2.2) (HSP.out xa (mem_at hxa)) (HSQ.out xb (mem_at hxb)))
          have HIA := Lib.hid (pc_info qa hpca.len)
          have HIB := Lib.hid (pc_info qb hpcb.len)
          clear hpca hpcb
          clear HX HT hra hrb hga hgb hV hxa hxb
          go_wp2_with fail
          refine region_still_tail 10 (by kernel_rfl) (by kernel_rfl) V HV.out ?_
          simp only [List.take_succ_cons, List.take_zero, List.drop_succ_cons, List.drop_zero]
          iterate 4 still_step
          refine still_load (by kernel_rfl) 38 (.tmp 72) rfl ga (oa + i * 6) rfl qa _ QA.out Tryd.underlying38 rfl HIA.out ?_
          iterate 4 still_step
          refine still_load (by kernel_rfl) 38 (.tmp 77) rfl gb (ob + i * 6) rfl qb _ QB.out Tryd.underlying38 rfl HIB.out ?_
          refine wpStill_nil ?_
          clear QA QB HV dA dB cA
          go_wp2_with fail
          refine CP.out.mono ?_
          rintro e V2 ⟨rfl, hb⟩
          have HX3 : Hid (El V2 w.heap.size [.string (strOf nm), .int .i64 ver, .slice a2 uses.length ka2, .int .i64 funs, .slice (some ⟨ga, oa, none⟩) prs.length ka4] ∧ El V2 W1.heap.size [.string (strOf nm2), .int .i64 ver2, .slice b2 uses2.length kb2, .int .i64 funs2, .slice (some ⟨gb, ob, none⟩) prs2.length kb4] ∧ Below w.heap.size w V2) := Lib.hid ⟨HX2.out.1.later hb, HX2.out.2.1.later hb, chain2 HX2.out.2.2 hb⟩
          clear hb CP HX2
          obtain ⟨dd, hd⟩ : ∃ dd, (!decide (xa = xb)) = dd := ⟨_, rfl⟩
          have hd2 : decide (xa = xb) = !dd := by rw [← hd, Bool.not_not]
          rw [hd2]
          clear hd2
          cases dd with
          | true =>
            have HF := Lib.hid (HNF.out (by simpa using hd))
            clear hd
            go_wp2
            go_ret
            exact ⟨by rw [HF.out]; rfl, HX3.out.2.2⟩
          | false =>
            have HT2 := Lib.hid (HTK.out (by simpa using hd))
            clear hd
            go_wp2
            go_roundw
            case rel => exact ⟨i + 1, by omega, by go_num, HX3, HT2⟩
            case measure => simp [intOf]; omega
        · obtain rfl : prs.length = i := by omega
          have HEQ1 : Hid (prs = prs2) := Lib.hid (by have := HT.out; rwa [List.take_of_length_le (Nat.le_refl _), List.take_of_length_le (by have := H4.out; omega)] at this)
          clear HT hi hlt
          have HLX2 := Lib.hid HX.out
          clear HX
          go_wp2
          go_ret
          exact ⟨by rw [decide_eq_true (show (⟨nm, ver, uses, funs, prs⟩ : Un) = ⟨nm2, ver2, uses2, funs2, prs2⟩ by rw [H0.out, H1.out, H2.out, HEQ0.out, HEQ1.out])]; rfl, HLX2.out.2.2⟩

end Go.Proofs.YtmloljfnnkfkjaaDoor.Im

