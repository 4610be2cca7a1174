/- The walk of ImageBack. No condition but that the table of formats lies where its variable is. -/
import Derived.Test.YtmloljfnnkfkjaaDoorMgBJ
namespace Go.Proofs.YtmloljfnnkfkjaaDoor.Im
open Go.RowKit Dk In
open Go.ChangeShapes Go.WideShapes

set_option maxHeartbeats 4000000 in
set_option maxRecDepth 100000 in
theorem imageBack_raw {H : Type} {enc : TypeId × Value → H} {b0 : Nat} {v : Value} {d : DataW H} {p : List MemPlace} {w : World} (hv : Value.okWide Tryd.prog w .any b0 25 v) (h : DataW.Trod enc Tryd.prog w 0 (fun _ => true) true 25 v d p) (c : Int) (hc : (Lit.int .i64 c).wf = true) (m : ByteArray) (hm : m.size ≤ maxLen) (HF : HasF w) :
    Calls Tryd.prog 5 #[v, .int .i64 c, .string m] w fun e w' => e = .returned (.bool true) ∧ Below w.heap.size w w' := by
  obtain ⟨cs, u, rfl, huc, hfit⟩ := open_un hv h
  clear hv h
  obtain ⟨l, rfl⟩ : ∃ l, m = Dk.strOf l := ⟨m.data.toList, (strOf_self' m).symm⟩
  rw [strOf_size] at hm
  have hsz := strOf_size l
  obtain ⟨W1, hW1⟩ : ∃ W1, W1 = w.alloc (.cells cs.toArray 25) := ⟨_, rfl⟩
  have HX1 : Hid (El W1 w.heap.size cs) := Lib.hid (by rw [hW1]; exact el_new w cs _)
  have HB1 : Hid (Below w.heap.size w W1) := Lib.hid (by rw [hW1]; exact (Below.refl _ _).alloc (Nat.le_refl _) _)
  have hW2 := hW1.symm
  have HI := Lib.hid (u_info cs (uc_len huc))
  clear hW1
  have K := conK w HF
  have LI := conL w huc
  have HFW := Lib.hid HF
  have HUC := Lib.hid huc
  have HFI := Lib.hid hfit
  have HCW := Lib.hid hc
  clear hc HF huc hfit hm
  have HLM : Hid (((Dk.strOf l).size : Int) > 100 ∨ l.length ≤ 100) := Lib.hid (by omega)
  obtain ⟨sm, hsm0⟩ : ∃ sm, sm = Dk.strOf l := ⟨_, rfl⟩
  rw [← hsm0] at HLM ⊢
  have HSM0 := Lib.hid hsm0
  clear hsm0 hsz
  go_enter Tryd.func5, Tryd.ntmps5
  go_wp2_with (first | (refine wpList_load_mid rfl 25 (.tmp 3) rfl w.heap.size 0 rfl cs _ HX1.out.cells Tryd.underlying25 rfl HI.out ?_) | (refine wpList_load_want (by rfl) 25 (.tmp 3) rfl w.heap.size 0 rfl cs _ HX1.out.cells Tryd.underlying25 rfl HI.out ?_))
  refine (LI.out _ HB1.out).mono ?_
  rintro e W2 ⟨bl, rfl, hsm, hb⟩
  have HX2 := Lib.hid (HX1.out.later hb)
  have HB2 := Lib.hid (chain2 HB1.out hb)
  clear hb LI
  cases bl with
  | false =>
    clear hsm HLM
    go_wp2_with (first | (refine wpList_load_mid rfl 25 (.tmp 3) rfl w.heap.size 0 rfl cs _ HX2.out.cells Tryd.underlying25 rfl HI.out ?_) | (refine wpList_load_want (by rfl) 25 (.tmp 3) rfl w.heap.size 0 rfl cs _ HX2.out.cells Tryd.underlying25 rfl HI.out ?_))
    refine (K.out _ HB2.out).mono ?_
    rintro e W3 ⟨rfl, hb⟩
    have HX3 := Lib.hid (HX2.out.later hb)
    have HB3 := Lib.hid (chain2 HB2.out hb)
    clear hb
    go_wp2
    go_ret
    exact ⟨by first | rfl | trivial, HB3.out⟩
  | true =>
    have HSU := Lib.hid (hsm rfl)
    clear hsm
    by_cases hbig : (sm.size : Int) > 100
    · clear HLM
      go_wp2_with (first | (refine wpList_load_mid rfl 25 (.tmp 3) rfl w.heap.size 0 rfl cs _ HX2.out.cells Tryd.underlying25 rfl HI.out ?_) | (refine wpList_load_want (by rfl) 25 (.tmp 3) rfl w.heap.size 0 rfl cs _ HX2.out.cells Tryd.underlying25 rfl HI.out ?_))
      refine (K.out _ HB2.out).mono ?_
      rintro e W3 ⟨rfl, hb⟩
      have HX3 := Lib.hid (HX2.out.later hb)
      have HB3 := Lib.hid (chain2 HB2.out hb)
      clear hb
      go_wp2
      go_ret
      exact ⟨by first | rfl | trivial, HB3.out⟩
    have HL1 : Hid (l.length ≤ 100) := Lib.hid (HLM.out.resolve_left hbig)
    clear HLM
    have RI := conR w HUC.out HSU.out HFW.out
    cases hu : unB u with
    | false =>
      have BU := conB w HUC.out HSU.out HFW.out (build_no hu)
      rw [hu] at RI
      have hst : Dk.strOf [] = ⟨#[]⟩ := rfl
      rw [hst] at BU
      clear hst hu
      go_wp2_with (first | (refine wpList_load_mid rfl 25 (.tmp 3) rfl w.heap.size 0 rfl cs _ HX2.out.cells Tryd.underlying25 rfl HI.out ?_) | (refine wpList_load_want (by rfl) 25 (.tmp 3) rfl w.heap.size 0 rfl cs _ HX2.out.cells Tryd.underlying25 rfl HI.out ?_))
      refine (BU.out _ HB2.out).mono ?_
      rintro e W3 ⟨rfl, hb⟩
      have HX3 := Lib.hid (HX2.out.later hb)
      have HB3 := Lib.hid (chain2 HB2.out hb)
      clear hb
      go_wp2_with (first | (refine wpList_load_mid rfl 25 (.tmp 3) rfl w.heap.size 0 rfl cs _ HX3.out.cells Tryd.underlying25 rfl HI.out ?_) | (refine wpList_load_want (by rfl) 25 (.tmp 3) rfl w.heap.size 0 rfl cs _ HX3.out.cells Tryd.underlying25 rfl HI.out ?_))
      refine (RI.out _ HB3.out).mono ?_
      rintro e W4 ⟨rfl, hb⟩
      have HX4 := Lib.hid (HX3.out.later hb)
      have HB4 := Lib.hid (chain2 HB3.out hb)
      clear hb
      go_wp2_with (first | (refine wpList_load_mid rfl 25 (.tmp 3) rfl w.heap.size 0 rfl cs _ HX4.out.cells Tryd.underlying25 rfl HI.out ?_) | (refine wpList_load_want (by rfl) 25 (.tmp 3) rfl w.heap.size 0 rfl cs _ HX4.out.cells Tryd.underlying25 rfl HI.out ?_))
      refine (K.out _ HB4.out).mono ?_
      rintro e W5 ⟨rfl, hb⟩
      have HX5 := Lib.hid (HX4.out.later hb)
      have HB5 := Lib.hid (chain2 HB4.out hb)
      clear hb
      go_wp2
      go_ret
      exact ⟨by first | rfl | trivial, HB5.out⟩
    | true =>
      have BU := conB w HUC.out HSU.out HFW.out (build_yes hu)
      clear RI
      have hen := encUn_len2 hu
      have hpos := enc_pos u
      have P1 := conP (encUn u) w (by omega) HFW.out (parse_back (g := fixI) (fun x h => fix_right h) hu HFI.out)
      obtain ⟨k, hck, hkl⟩ := cntI_nat c (encUn u).length hpos
      have CN := cntI_any c (encUn u).length
      have P2 := conP ((encUn u).take k) w (by rw [List.length_take]; omega) HFW.out (parse_cut (g := fixI) (fun x h => fix_right h) hu HFI.out hkl)
      have CNH : Hid (∀ W, Calls Tryd.prog 17 #[.int .i64 c, .int .i64 ((encUn u).length : Int)] W fun e w' => e = .returned (.int .i64 (k : Int)) ∧ W = w') := Lib.hid (fun W => by have := CN W HCW.out hpos (by omega); rw [hck] at this; exact this)
      have sl := slice_pre (encUn u) k (by omega) (by omega)
      have sm2 : ∀ W : World, (Op.stringOp .add (Dk.strOf (encUn u)) sm).run Tryd.prog W = .ok (.string (Dk.strOf (encUn u ++ l))) W := by rw [HSM0.out]; exact add_up _ _ (by have := hen; omega) (by have := HL1.out; omega)
      have hes := strOf_size (encUn u)
      have v3 : (((Dk.strOf (encUn u)).size : Int) == 0) = false := by rw [hes]; exact beq_eq_false_iff_ne.2 (by omega)
      have P3 : ∃ (q : Un) (j : Int), Hid (∀ W, Below w.heap.size w W → Calls Tryd.prog 14 #[.string (Dk.strOf (encUn u ++ l))] W (ParseAny (q, j) W)) ∧ ((j == 4) = true ∨ ((j == 4) = false ∧ (sm.toList == []) = true)) := by
        by_cases hl0 : l = []
        · refine ⟨u, 0, ?_, .inr ⟨rfl, by rw [HSM0.out, hl0, strOf_tl]; rfl⟩⟩
          rw [hl0, List.append_nil]
          exact P1
        · exact ⟨Un.zero, 4, conP _ w (by rw [List.length_append]; have := HL1.out; omega) HFW.out (parse_more (g := fixI) (fun x h => fix_right h) hu HFI.out hl0), .inl rfl⟩
      obtain ⟨q3, j3, P3, hj3⟩ := P3
      have HCL : Hid ((Dk.strOf (encUn u)).size = (encUn u).length) := Lib.hid hes
      rw [← HCL.out] at CNH
      generalize Dk.strOf (encUn u ++ l) = s3 at *
      generalize Dk.strOf ((encUn u).take k) = s2 at *
      generalize Dk.strOf (encUn u) = s1 at *
      have HU := Lib.hid hu
      clear hen hpos hck hkl CN hu hes
      go_wp2_with (first | (refine wpList_load_mid rfl 25 (.tmp 3) rfl w.heap.size 0 rfl cs _ HX2.out.cells Tryd.underlying25 rfl HI.out ?_) | (refine wpList_load_want (by rfl) 25 (.tmp 3) rfl w.heap.size 0 rfl cs _ HX2.out.cells Tryd.underlying25 rfl HI.out ?_))
      refine (BU.out _ HB2.out).mono ?_
      rintro e W3 ⟨rfl, hb⟩
      have HX3 := Lib.hid (HX2.out.later hb)
      have HB3 := Lib.hid (chain2 HB2.out hb)
      clear hb
      go_wp2_with (first | (refine wpList_load_mid rfl 25 (.tmp 3) rfl w.heap.size 0 rfl cs _ HX3.out.cells Tryd.underlying25 rfl HI.out ?_) | (refine wpList_load_want (by rfl) 25 (.tmp 3) rfl w.heap.size 0 rfl cs _ HX3.out.cells Tryd.underlying25 rfl HI.out ?_))
      refine (P1.out _ HB3.out).mono ?_
      rintro e W4 ⟨ca, rfl, huc, hb⟩
      have HA4 := Lib.hid huc
      have HX4 := Lib.hid (HX3.out.later hb)
      have HB4 := Lib.hid (chain2 HB3.out hb)
      clear hb huc P1
      have P1 := put_new W4 #[.string ⟨#[]⟩, .int .i64 0, .slice none 0 0, .int .i64 0, .slice none 0 0] 25 ca (uc_len HA4.out).symm
      have HT := Lib.hid P1.1
      have HP := Lib.hid P1.2
      have HIA : Hid ((Tryd.prog.info? 25).map (·.size) = some ca.toArray.size) := Lib.hid (u_info ca (uc_len HA4.out))
      have HON := Lib.hid (all_oneCell_toArray (uc_ones HA4.out).2)
      clear P1
      go_upto_region 7 with (first | (refine wpList_store_mid rfl 25 (.tmp 9) (.tmp 44) rfl W4.heap.size 0 ca.toArray rfl rfl HT.out HIA.out HON.out ?_; generalize World.setCells _ _ _ _ = V4 at HP ⊢))
      have HPB := Lib.hid HP.out.below
      have HX5 := Lib.hid (HX4.out.later HPB.out)
      have HA5 := Lib.hid (HA4.out.later HPB.out)
      have HB5 := Lib.hid (chain2 HB4.out HPB.out)
      have HY5 : Hid (El V4 W4.heap.size ca) := Lib.hid ⟨HP.out.cells, HP.out.lt⟩
      clear HT HP HIA HON HPB
      have HJ := Lib.hid (u_info ca (uc_len HA5.out))
      have SA : Hid (Calls Tryd.prog 16 #[.agg ca.toArray, .agg cs.toArray] V4 fun e w' => e = .returned (.bool true) ∧ Below V4.heap.size V4 w') := Lib.hid (by
          have := same_any V4 HA5.out (HUC.out.later HB5.out) HSU.out HSU.out
          rw [decide_eq_true rfl] at this
          exact this)
      go_wp2_with (first | (refine wpList_load_mid rfl 25 (.tmp 3) rfl w.heap.size 0 rfl cs _ HX5.out.cells Tryd.underlying25 rfl HI.out ?_) | (refine wpList_load_want (by rfl) 25 (.tmp 3) rfl w.heap.size 0 rfl cs _ HX5.out.cells Tryd.underlying25 rfl HI.out ?_) | (refine wpList_load_mid rfl 25 (.tmp 9) rfl W4.heap.size 0 rfl ca _ HY5.out.cells Tryd.underlying25 rfl HJ.out ?_) | (refine wpList_load_want (by rfl) 25 (.tmp 9) rfl W4.heap.size 0 rfl ca _ HY5.out.cells Tryd.underlying25 rfl HJ.out ?_))
      refine SA.out.mono ?_
      rintro e W6 ⟨rfl, hb⟩
      have HX6 := Lib.hid (HX5.out.later hb)
      have HY6 := Lib.hid (HY5.out.later hb)
      have HA6 := Lib.hid (HA5.out.later hb)
      have HB6 := Lib.hid (chain2 HB5.out hb)
      clear hb SA
      go_wp2_with fail
      refine (CNH.out _).mono ?_
      rintro e W56 ⟨rfl, rfl⟩
      go_wp2_with fail
      refine (P2.out _ HB6.out).mono ?_
      rintro e W7 ⟨cb, rfl, huc, hb⟩
      have HC7 := Lib.hid huc
      have HB7 := Lib.hid (chain2 HB6.out hb)
      clear hb huc P2 CNH sl
      have P1 := put_new W7 #[.string ⟨#[]⟩, .int .i64 0, .slice none 0 0, .int .i64 0, .slice none 0 0] 25 cb (uc_len HC7.out).symm
      have HT := Lib.hid P1.1
      have HP := Lib.hid P1.2
      have HIA : Hid ((Tryd.prog.info? 25).map (·.size) = some cb.toArray.size) := Lib.hid (u_info cb (uc_len HC7.out))
      have HON := Lib.hid (all_oneCell_toArray (uc_ones HC7.out).2)
      clear P1
      go_upto_region 10 with (first | (refine wpList_store_mid rfl 25 (.tmp 11) (.tmp 67) rfl W7.heap.size 0 cb.toArray rfl rfl HT.out HIA.out HON.out ?_; generalize World.setCells _ _ _ _ = V7 at HP ⊢))
      have HPB := Lib.hid HP.out.below
      have HB8 := Lib.hid (chain2 HB7.out HPB.out)
      clear HT HP HIA HON HPB
      go_wp2_with fail
      refine (P3.out _ HB8.out).mono ?_
      rintro e W9 ⟨cc, rfl, huc, hb⟩
      have HD9 := Lib.hid huc
      have HB9 := Lib.hid (chain2 HB8.out hb)
      clear hb huc P3 sm2
      have P1 := put_new W9 #[.string ⟨#[]⟩, .int .i64 0, .slice none 0 0, .int .i64 0, .slice none 0 0] 25 cc (uc_len HD9.out).symm
      have HT := Lib.hid P1.1
      have HP := Lib.hid P1.2
      have HIA : Hid ((Tryd.prog.info? 25).map (·.size) = some cc.toArray.size) := Lib.hid (u_info cc (uc_len HD9.out))
      have HON := Lib.hid (all_oneCell_toArray (uc_ones HD9.out).2)
      clear P1
      go_upto_region 11 with (first | (refine wpList_store_mid rfl 25 (.tmp 13) (.tmp 74) rfl W9.heap.size 0 cc.toArray rfl rfl HT.out HIA.out HON.out ?_; generalize World.setCells _ _ _ _ = V9 at HP ⊢))
      have HPB := Lib.hid HP.out.below
      have HB10 := Lib.hid (chain2 HB9.out HPB.out)
      clear HT HP HIA HON HPB
      rcases hj3 with hj | ⟨hj, hm⟩
      · skip
        go_wp2_with fail
        refine (K.out _ HB10.out).mono ?_
        rintro e W11 ⟨rfl, hb⟩
        have HB11 := Lib.hid (chain2 HB10.out hb)
        clear hb
        go_wp2
        go_ret
        exact ⟨by first | rfl | trivial, HB11.out⟩
      · skip
        go_wp2_with fail
        refine (K.out _ HB10.out).mono ?_
        rintro e W11 ⟨rfl, hb⟩
        have HB11 := Lib.hid (chain2 HB10.out hb)
        clear hb
        go_wp2
        go_ret
        exact ⟨by first | rfl | trivial, HB11.out⟩
end Go.Proofs.YtmloljfnnkfkjaaDoor.Im

