/- The walk of ImageOne. More that the laws ask: a text cut, a text put together, how long a unit is in bytes. The walk of ImageOnly. No condition but those that each states. -/
import Derived.Test.YtmloljfnnkfkjaaDoorMgBI
namespace Go.Proofs.YtmloljfnnkfkjaaDoor.Im
open Go.RowKit Dk In
open Go.ChangeShapes Go.WideShapes

set_option maxHeartbeats 4000000 in
set_option maxRecDepth 100000 in
theorem imageOne_raw {H : Type} {enc : TypeId × Value → H} {b0 b1 : Nat} {v v' : Value} {d d' : DataW H} {p p' : List MemPlace} {w : World} (hv : Value.okWide Tryd.prog w .any b0 25 v) (h : DataW.Trod enc Tryd.prog w 0 (fun _ => true) true 25 v d p) (hv' : Value.okWide Tryd.prog w .any b1 25 v') (h' : DataW.Trod enc Tryd.prog w 0 (fun _ => true) true 25 v' d' p') (HF : HasF w) :
    Calls Tryd.prog 7 #[v, v'] w fun e w' => e = .returned (.bool true) ∧ Below w.heap.size w w' := by
  obtain ⟨cs, u, rfl, huc, hfit⟩ := open_un hv h
  obtain ⟨ct, q, rfl, hqc, hfiq⟩ := open_un hv' h'
  clear hv h hv' h'
  obtain ⟨W0, hW0⟩ : ∃ W0, W0 = w.alloc (.cells cs.toArray 25) := ⟨_, rfl⟩
  obtain ⟨W1, hW1⟩ : ∃ W1, W1 = W0.alloc (.cells ct.toArray 25) := ⟨_, rfl⟩
  have hb0 : Below w.heap.size w W0 := by rw [hW0]; exact (Below.refl _ _).alloc (Nat.le_refl _) _
  have hb1 : Below W0.heap.size W0 W1 := by rw [hW1]; exact (Below.refl _ _).alloc (Nat.le_refl _) _
  have HX1 : Hid (El W1 w.heap.size cs) := Lib.hid (El.later (by rw [hW0]; exact el_new w cs _) hb1)
  have HY1 : Hid (El W1 W0.heap.size ct) := Lib.hid (by rw [hW1]; exact el_new W0 ct _)
  have HB1 : Hid (Below w.heap.size w W1) := Lib.hid (chain2 hb0 hb1)
  have hX0 := hW0.symm
  have hX1 := hW1.symm
  have HI := Lib.hid (u_info cs (uc_len huc))
  have HJ := Lib.hid (u_info ct (uc_len hqc))
  clear hW0 hW1 hb0 hb1
  have K := conK w HF
  have LA := conL w huc
  have LB := conL w hqc
  obtain ⟨bs, be, hbu⟩ : ∃ a b, buildU u = (a, b) := ⟨_, _, rfl⟩
  obtain ⟨bt, bf, hbq⟩ : ∃ a b, buildU q = (a, b) := ⟨_, _, rfl⟩
  have BU := fun hs => conB w huc hs HF hbu
  have BQ := fun hs => conB w hqc hs HF hbq
  have SA : SmU u → SmU q → Hid (∀ W, Below w.heap.size w W → Calls Tryd.prog 16 #[.agg cs.toArray, .agg ct.toArray] W fun e w' => e = .returned (.bool (decide (u = q))) ∧ Below W.heap.size W w') := fun h1 h2 => Lib.hid (fun W hw => same_any W (huc.later hw) (hqc.later hw) h1 h2)
  have HBU := Lib.hid hbu
  have HBQ := Lib.hid hbq
  have HFI := Lib.hid (And.intro hfit hfiq)
  clear hbu hbq HF huc hqc hfit hfiq
  go_enter Tryd.func7, Tryd.ntmps7
  go_wp2_with (first | (refine wpList_load_mid rfl 25 (.tmp 2) rfl w.heap.size 0 rfl cs _ HX1.out.cells Tryd.underlying25 rfl HI.out ?_) | (refine wpList_load_want (by rfl) 25 (.tmp 2) rfl w.heap.size 0 rfl cs _ HX1.out.cells Tryd.underlying25 rfl HI.out ?_) | (refine wpList_load_mid rfl 25 (.tmp 3) rfl W0.heap.size 0 rfl ct _ HY1.out.cells Tryd.underlying25 rfl HJ.out ?_) | (refine wpList_load_want (by rfl) 25 (.tmp 3) rfl W0.heap.size 0 rfl ct _ HY1.out.cells Tryd.underlying25 rfl HJ.out ?_))
  refine (LA.out _ HB1.out).mono ?_
  rintro e W2 ⟨bl, rfl, hsm, hb⟩
  have HX2 := Lib.hid (HX1.out.later hb)
  have HY2 := Lib.hid (HY1.out.later hb)
  have HB2 := Lib.hid (chain2 HB1.out hb)
  clear hb LA
  cases bl with
  | false =>
    clear BU BQ SA LB hsm
    go_wp2_with (first | (refine wpList_load_mid rfl 25 (.tmp 2) rfl w.heap.size 0 rfl cs _ HX2.out.cells Tryd.underlying25 rfl HI.out ?_) | (refine wpList_load_want (by rfl) 25 (.tmp 2) rfl w.heap.size 0 rfl cs _ HX2.out.cells Tryd.underlying25 rfl HI.out ?_) | (refine wpList_load_mid rfl 25 (.tmp 3) rfl W0.heap.size 0 rfl ct _ HY2.out.cells Tryd.underlying25 rfl HJ.out ?_) | (refine wpList_load_want (by rfl) 25 (.tmp 3) rfl W0.heap.size 0 rfl ct _ HY2.out.cells Tryd.underlying25 rfl HJ.out ?_))
    refine (K.out _ HB2.out).mono ?_
    rintro e W3 ⟨rfl, hb⟩
    have HX3 := Lib.hid (HX2.out.later hb)
    have HY3 := Lib.hid (HY2.out.later hb)
    have HB3 := Lib.hid (chain2 HB2.out hb)
    clear hb
    go_wp2
    go_ret
    exact ⟨by first | rfl | trivial, HB3.out⟩
  | true =>
    have HSU := Lib.hid (hsm rfl)
    clear hsm
    go_wp2_with (first | (refine wpList_load_mid rfl 25 (.tmp 2) rfl w.heap.size 0 rfl cs _ HX2.out.cells Tryd.underlying25 rfl HI.out ?_) | (refine wpList_load_want (by rfl) 25 (.tmp 2) rfl w.heap.size 0 rfl cs _ HX2.out.cells Tryd.underlying25 rfl HI.out ?_) | (refine wpList_load_mid rfl 25 (.tmp 3) rfl W0.heap.size 0 rfl ct _ HY2.out.cells Tryd.underlying25 rfl HJ.out ?_) | (refine wpList_load_want (by rfl) 25 (.tmp 3) rfl W0.heap.size 0 rfl ct _ HY2.out.cells Tryd.underlying25 rfl HJ.out ?_))
    refine (LB.out _ HB2.out).mono ?_
    rintro e W3 ⟨bl, rfl, hsm, hb⟩
    have HX3 := Lib.hid (HX2.out.later hb)
    have HY3 := Lib.hid (HY2.out.later hb)
    have HB3 := Lib.hid (chain2 HB2.out hb)
    clear hb LB
    cases bl with
    | false =>
      clear BU BQ SA hsm
      go_wp2_with (first | (refine wpList_load_mid rfl 25 (.tmp 2) rfl w.heap.size 0 rfl cs _ HX3.out.cells Tryd.underlying25 rfl HI.out ?_) | (refine wpList_load_want (by rfl) 25 (.tmp 2) rfl w.heap.size 0 rfl cs _ HX3.out.cells Tryd.underlying25 rfl HI.out ?_) | (refine wpList_load_mid rfl 25 (.tmp 3) rfl W0.heap.size 0 rfl ct _ HY3.out.cells Tryd.underlying25 rfl HJ.out ?_) | (refine wpList_load_want (by rfl) 25 (.tmp 3) rfl W0.heap.size 0 rfl ct _ HY3.out.cells Tryd.underlying25 rfl HJ.out ?_))
      refine (K.out _ HB3.out).mono ?_
      rintro e W4 ⟨rfl, hb⟩
      have HX4 := Lib.hid (HX3.out.later hb)
      have HY4 := Lib.hid (HY3.out.later hb)
      have HB4 := Lib.hid (chain2 HB3.out hb)
      clear hb
      go_wp2
      go_ret
      exact ⟨by first | rfl | trivial, HB4.out⟩
    | true =>
      have HSQ := Lib.hid (hsm rfl)
      replace BU := BU HSU.out
      replace BQ := BQ HSQ.out
      replace SA := SA HSU.out HSQ.out
      clear hsm
      go_wp2_with (first | (refine wpList_load_mid rfl 25 (.tmp 2) rfl w.heap.size 0 rfl cs _ HX3.out.cells Tryd.underlying25 rfl HI.out ?_) | (refine wpList_load_want (by rfl) 25 (.tmp 2) rfl w.heap.size 0 rfl cs _ HX3.out.cells Tryd.underlying25 rfl HI.out ?_) | (refine wpList_load_mid rfl 25 (.tmp 3) rfl W0.heap.size 0 rfl ct _ HY3.out.cells Tryd.underlying25 rfl HJ.out ?_) | (refine wpList_load_want (by rfl) 25 (.tmp 3) rfl W0.heap.size 0 rfl ct _ HY3.out.cells Tryd.underlying25 rfl HJ.out ?_))
      refine (BU.out _ HB3.out).mono ?_
      rintro e W4 ⟨rfl, hb⟩
      have HX4 := Lib.hid (HX3.out.later hb)
      have HY4 := Lib.hid (HY3.out.later hb)
      have HB4 := Lib.hid (chain2 HB3.out hb)
      clear hb
      go_wp2_with (first | (refine wpList_load_mid rfl 25 (.tmp 2) rfl w.heap.size 0 rfl cs _ HX4.out.cells Tryd.underlying25 rfl HI.out ?_) | (refine wpList_load_want (by rfl) 25 (.tmp 2) rfl w.heap.size 0 rfl cs _ HX4.out.cells Tryd.underlying25 rfl HI.out ?_) | (refine wpList_load_mid rfl 25 (.tmp 3) rfl W0.heap.size 0 rfl ct _ HY4.out.cells Tryd.underlying25 rfl HJ.out ?_) | (refine wpList_load_want (by rfl) 25 (.tmp 3) rfl W0.heap.size 0 rfl ct _ HY4.out.cells Tryd.underlying25 rfl HJ.out ?_))
      refine (BQ.out _ HB4.out).mono ?_
      rintro e W5 ⟨rfl, hb⟩
      have HX5 := Lib.hid (HX4.out.later hb)
      have HY5 := Lib.hid (HY4.out.later hb)
      have HB5 := Lib.hid (chain2 HB4.out hb)
      clear hb
      by_cases h1 : be = 0
      · by_cases h2 : bf = 0
        · have hu : unB u = true := by
            cases hc : unB u with
            | true => rfl
            | false => have := HBU.out; rw [build_no hc] at this; have := congrArg Prod.snd this; simp only at this; omega
          have hq : unB q = true := by
            cases hc : unB q with
            | true => rfl
            | false => have := HBQ.out; rw [build_no hc] at this; have := congrArg Prod.snd this; simp only at this; omega
          have es : encUn u = bs := by have := HBU.out; rw [build_yes hu] at this; exact congrArg Prod.fst this
          have et : encUn q = bt := by have := HBQ.out; rw [build_yes hq] at this; exact congrArg Prod.fst this
          have e0 : ((Dk.strOf bs).toList == (Dk.strOf bt).toList) = decide (u = q) := by
            rw [Lx.str_beq, ← es, ← et]
            by_cases h : u = q
            · rw [decide_eq_true h, h]; simp
            · rw [decide_eq_false h]; exact decide_eq_false (fun x => h (enc_inj hu hq HFI.out.1 HFI.out.2 x))
          have e2 : ((decide (u = q) == decide (u = q)) : Bool) = true := by simp
          have v1 : ((be != 0) : Bool) = false := by simp [h1]
          have v2 : ((bf != 0) : Bool) = false := by simp [h2]
          have w1 : ((be == 0) : Bool) = true := by simp [h1]
          have w2 : ((bf == 0) : Bool) = true := by simp [h2]
          generalize decide (u = q) = dd at *
          generalize Dk.strOf bs = ss at *
          generalize Dk.strOf bt = st at *
          clear es et hu hq h1 h2
          go_wp2_with (first | (refine wpList_load_mid rfl 25 (.tmp 2) rfl w.heap.size 0 rfl cs _ HX5.out.cells Tryd.underlying25 rfl HI.out ?_) | (refine wpList_load_want (by rfl) 25 (.tmp 2) rfl w.heap.size 0 rfl cs _ HX5.out.cells Tryd.underlying25 rfl HI.out ?_) | (refine wpList_load_mid rfl 25 (.tmp 3) rfl W0.heap.size 0 rfl ct _ HY5.out.cells Tryd.underlying25 rfl HJ.out ?_) | (refine wpList_load_want (by rfl) 25 (.tmp 3) rfl W0.heap.size 0 rfl ct _ HY5.out.cells Tryd.underlying25 rfl HJ.out ?_))
          refine (SA.out _ HB5.out).mono ?_
          rintro e W6 ⟨rfl, hb⟩
          have HX6 := Lib.hid (HX5.out.later hb)
          have HY6 := Lib.hid (HY5.out.later hb)
          have HB6 := Lib.hid (chain2 HB5.out hb)
          clear hb
          go_wp2_with (first | (refine wpList_load_mid rfl 25 (.tmp 2) rfl w.heap.size 0 rfl cs _ HX6.out.cells Tryd.underlying25 rfl HI.out ?_) | (refine wpList_load_want (by rfl) 25 (.tmp 2) rfl w.heap.size 0 rfl cs _ HX6.out.cells Tryd.underlying25 rfl HI.out ?_) | (refine wpList_load_mid rfl 25 (.tmp 3) rfl W0.heap.size 0 rfl ct _ HY6.out.cells Tryd.underlying25 rfl HJ.out ?_) | (refine wpList_load_want (by rfl) 25 (.tmp 3) rfl W0.heap.size 0 rfl ct _ HY6.out.cells Tryd.underlying25 rfl HJ.out ?_))
          refine (K.out _ HB6.out).mono ?_
          rintro e W7 ⟨rfl, hb⟩
          have HX7 := Lib.hid (HX6.out.later hb)
          have HY7 := Lib.hid (HY6.out.later hb)
          have HB7 := Lib.hid (chain2 HB6.out hb)
          clear hb
          go_wp2
          go_ret
          exact ⟨by first | rfl | trivial, HB7.out⟩
        · have v1 : ((be != 0) : Bool) = false := by simp [h1]
          have v2 : ((bf != 0) : Bool) = true := by simp [h2]
          have w1 : ((be == 0) : Bool) = true := by simp [h1]
          have w2 : ((bf == 0) : Bool) = false := by simp [h2]
          clear h1 h2
          go_wp2_with (first | (refine wpList_load_mid rfl 25 (.tmp 2) rfl w.heap.size 0 rfl cs _ HX5.out.cells Tryd.underlying25 rfl HI.out ?_) | (refine wpList_load_want (by rfl) 25 (.tmp 2) rfl w.heap.size 0 rfl cs _ HX5.out.cells Tryd.underlying25 rfl HI.out ?_) | (refine wpList_load_mid rfl 25 (.tmp 3) rfl W0.heap.size 0 rfl ct _ HY5.out.cells Tryd.underlying25 rfl HJ.out ?_) | (refine wpList_load_want (by rfl) 25 (.tmp 3) rfl W0.heap.size 0 rfl ct _ HY5.out.cells Tryd.underlying25 rfl HJ.out ?_))
          refine (K.out _ HB5.out).mono ?_
          rintro e W6 ⟨rfl, hb⟩
          have HX6 := Lib.hid (HX5.out.later hb)
          have HY6 := Lib.hid (HY5.out.later hb)
          have HB6 := Lib.hid (chain2 HB5.out hb)
          clear hb
          go_wp2
          go_ret
          exact ⟨by first | rfl | trivial, HB6.out⟩
      · have v1 : ((be != 0) : Bool) = true := by simp [h1]
        have w1 : ((be == 0) : Bool) = false := by simp [h1]
        clear h1
        go_wp2_with (first | (refine wpList_load_mid rfl 25 (.tmp 2) rfl w.heap.size 0 rfl cs _ HX5.out.cells Tryd.underlying25 rfl HI.out ?_) | (refine wpList_load_want (by rfl) 25 (.tmp 2) rfl w.heap.size 0 rfl cs _ HX5.out.cells Tryd.underlying25 rfl HI.out ?_) | (refine wpList_load_mid rfl 25 (.tmp 3) rfl W0.heap.size 0 rfl ct _ HY5.out.cells Tryd.underlying25 rfl HJ.out ?_) | (refine wpList_load_want (by rfl) 25 (.tmp 3) rfl W0.heap.size 0 rfl ct _ HY5.out.cells Tryd.underlying25 rfl HJ.out ?_))
        refine (K.out _ HB5.out).mono ?_
        rintro e W6 ⟨rfl, hb⟩
        have HX6 := Lib.hid (HX5.out.later hb)
        have HY6 := Lib.hid (HY5.out.later hb)
        have HB6 := Lib.hid (chain2 HB5.out hb)
        clear hb
        go_wp2
        go_ret
        exact ⟨by first | rfl | trivial, HB6.out⟩
end Go.Proofs.YtmloljfnnkfkjaaDoor.Im

namespace Go.Proofs.YtmloljfnnkfkjaaDoor.Im
open Go.RowKit Dk In
open Go.ChangeShapes Go.WideShapes


theorem slice_pre (l : List UInt8) (k : Nat) (h : k ≤ l.length) (_hl : l.length ≤ 1099511627776) (W : World) : (Instr.slice 9 (.string (Dk.strOf l)) none (some (.int .i64 (k : Int))) none).run Tryd.prog W = .ok (.string (Dk.strOf (l.take k))) W := by
  have hs := strOf_size l
  have e : (Dk.strOf l).extract 0 k = Dk.strOf (l.take k) := by
    apply ByteArray.ext
    simp [Dk.strOf, ByteArray.data_extract, List.extract_eq_take_drop]
  rw [← e]
  clear e
  have hk' : (k : Int) ≤ ((Dk.strOf l).size : Int) := by omega
  have hk2 : k ≤ (Dk.strOf l).size := by omega
  have hk3 : (0 : Int) ≤ (k : Int) := by omega
  clear hs h
  generalize Dk.strOf l = S at *
  go_simp
theorem encUn_len2 {u : Un} (h : unB u = true) : (encUn u).length ≤ 20000000 := by
  obtain ⟨k1, k2, k3, k4, k5⟩ := un_parts h
  have l1 := name_len k1
  have hok := un_ok h
  have a1 := flatMap_len (f := encUse) (l := u.uses) (K := 41) (fun x hx => encUse_len (k3.2 x hx))
  have a2 := flatMap_len (f := encPr) (l := u.prs) (K := 238338) (fun x hx => encPr_len (hok x hx))
  have lm : magic.length = 4 := rfl
  unfold encUn encL
  simp only [List.length_append, txt_len, le_length, lm]
  have b1 : u.uses.length * 41 ≤ 16 * 41 := Nat.mul_le_mul_right _ k3.1
  have b2 : u.prs.length * 238338 ≤ 64 * 238338 := Nat.mul_le_mul_right _ k4.1
  omega

end Go.Proofs.YtmloljfnnkfkjaaDoor.Im

namespace Go.Proofs.YtmloljfnnkfkjaaDoor.Im
open Go.RowKit Dk In
open Go.ChangeShapes Go.WideShapes

set_option maxHeartbeats 4000000 in
set_option maxRecDepth 100000 in
theorem imageOnly_law (s : ByteArray) (_hs : s.size ≤ maxLen) (w : World) (HF : HasF w) : Calls Tryd.prog 6 #[.string s] w fun e w' => e = .returned (.bool true) ∧ Below w.heap.size w w' := by
  obtain ⟨l, rfl⟩ : ∃ l, s = Dk.strOf l := ⟨s.data.toList, (strOf_self' s).symm⟩
  rw [strOf_size] at _hs
  have hsz := strOf_size l
  have K := conK w HF
  have HB1 : Hid (Below w.heap.size w w) := Lib.hid (Below.refl _ _)
  by_cases hl : l.length > 20000
  · have v0 : ((Dk.strOf l).size : Int) > 20000 := by omega
    generalize Dk.strOf l = ss at *
    clear hl hsz _hs HF
    go_enter Tryd.func6, Tryd.ntmps6
    go_wp2_with fail
    refine (K.out _ HB1.out).mono ?_
    rintro e W2 ⟨rfl, hb⟩
    have HB2 := Lib.hid (chain2 HB1.out hb)
    clear hb
    go_wp2
    go_ret
    exact ⟨by first | rfl | trivial, HB2.out⟩
  have v0 : ¬((Dk.strOf l).size : Int) > 20000 := by omega
  have HFW := Lib.hid HF
  rcases parse_cases fixI l with ⟨u, t, hr, hu, he, hp⟩ | ⟨k, hk, hp⟩
  · have P := conP l w (by omega) HF hp
    have HSM := Lib.hid (all_smU fixI l u t hr)
    have hb : buildU u = (l, 0) := by rw [build_yes hu, he]
    have HBU := Lib.hid hb
    have HRU := Lib.hid hu
    have e0 : ((Dk.strOf l).toList == (Dk.strOf l).toList) = true := by simp
    generalize hss : Dk.strOf l = ss at *
    have HSS := Lib.hid hss
    clear hl hsz _hs HF hr hu he hp hb hss
    go_enter Tryd.func6, Tryd.ntmps6
    go_wp2_with fail
    refine (P.out _ HB1.out).mono ?_
    rintro e W2 ⟨cs, rfl, huc, hb⟩
    have HU2 := Lib.hid huc
    have HB2 := Lib.hid (chain2 HB1.out hb)
    clear hb huc P
    have P1 := put_new W2 #[.string ⟨#[]⟩, .int .i64 0, .slice none 0 0, .int .i64 0, .slice none 0 0] 25 cs (uc_len HU2.out).symm
    have HT := Lib.hid P1.1
    have HP := Lib.hid P1.2
    have HIA : Hid ((Tryd.prog.info? 25).map (·.size) = some cs.toArray.size) := Lib.hid (u_info cs (uc_len HU2.out))
    have HON := Lib.hid (all_oneCell_toArray (uc_ones HU2.out).2)
    clear P1
    go_upto_region 4 with (first | (refine wpList_store_mid rfl 25 (.tmp 3) (.tmp 14) rfl W2.heap.size 0 cs.toArray rfl rfl HT.out HIA.out HON.out ?_; generalize World.setCells _ _ _ _ = V2 at HP ⊢))
    have HPB := Lib.hid HP.out.below
    have HU3 := Lib.hid (HU2.out.later HPB.out)
    have HB3 := Lib.hid (chain2 HB2.out HPB.out)
    have HX3 : Hid (El V2 W2.heap.size cs) := Lib.hid ⟨HP.out.cells, HP.out.lt⟩
    clear HT HP HIA HON HPB
    have HI := Lib.hid (u_info cs (uc_len HU3.out))
    have BU : Hid (∀ W, Below V2.heap.size V2 W → _) := conB V2 HU3.out HSM.out (HFW.out.later HB3.out) HBU.out
    have RI : Hid (∀ W, Below V2.heap.size V2 W → _) := conR V2 HU3.out HSM.out (HFW.out.later HB3.out)
    rw [HRU.out] at RI
    rw [HSS.out] at BU
    have HV3 : Hid (Below V2.heap.size V2 V2) := Lib.hid (Below.refl _ _)
    go_wp2_with (first | (refine wpList_load_mid rfl 25 (.tmp 3) rfl W2.heap.size 0 rfl cs _ HX3.out.cells Tryd.underlying25 rfl HI.out ?_) | (refine wpList_load_want (by rfl) 25 (.tmp 3) rfl W2.heap.size 0 rfl cs _ HX3.out.cells Tryd.underlying25 rfl HI.out ?_))
    refine (BU.out _ HV3.out).mono ?_
    rintro e W4 ⟨rfl, hb⟩
    have HV4 := Lib.hid (chain2 HV3.out hb)
    have HX4 := Lib.hid (HX3.out.later hb)
    have HU4 := Lib.hid (HU3.out.later hb)
    have HB4 := Lib.hid (chain2 HB3.out hb)
    clear hb
    go_wp2_with (first | (refine wpList_load_mid rfl 25 (.tmp 3) rfl W2.heap.size 0 rfl cs _ HX4.out.cells Tryd.underlying25 rfl HI.out ?_) | (refine wpList_load_want (by rfl) 25 (.tmp 3) rfl W2.heap.size 0 rfl cs _ HX4.out.cells Tryd.underlying25 rfl HI.out ?_))
    refine (RI.out _ HV4.out).mono ?_
    rintro e W5 ⟨rfl, hb⟩
    have HV5 := Lib.hid (chain2 HV4.out hb)
    have HX5 := Lib.hid (HX4.out.later hb)
    have HU5 := Lib.hid (HU4.out.later hb)
    have HB5 := Lib.hid (chain2 HB4.out hb)
    clear hb
    go_wp2_with (first | (refine wpList_load_mid rfl 25 (.tmp 3) rfl W2.heap.size 0 rfl cs _ HX5.out.cells Tryd.underlying25 rfl HI.out ?_) | (refine wpList_load_want (by rfl) 25 (.tmp 3) rfl W2.heap.size 0 rfl cs _ HX5.out.cells Tryd.underlying25 rfl HI.out ?_))
    refine (K.out _ HB5.out).mono ?_
    rintro e W6 ⟨rfl, hb⟩
    have HX6 := Lib.hid (HX5.out.later hb)
    have HU6 := Lib.hid (HU5.out.later hb)
    have HB6 := Lib.hid (chain2 HB5.out hb)
    clear hb
    go_wp2
    go_ret
    exact ⟨by first | rfl | trivial, HB6.out⟩
  · have P := conP l w (by omega) HF hp
    have hk1 : ((k == 0) : Bool) = false := by rcases hk with rfl | rfl <;> rfl
    have hk2 : ((k != 0) : Bool) = true := by rcases hk with rfl | rfl <;> rfl
    generalize Dk.strOf l = ss at *
    clear hl hsz _hs HF hk hp
    go_enter Tryd.func6, Tryd.ntmps6
    go_wp2_with fail
    refine (P.out _ HB1.out).mono ?_
    rintro e W2 ⟨cs, rfl, huc, hb⟩
    have HU2 := Lib.hid huc
    have HB2 := Lib.hid (chain2 HB1.out hb)
    clear hb huc P
    have P1 := put_new W2 #[.string ⟨#[]⟩, .int .i64 0, .slice none 0 0, .int .i64 0, .slice none 0 0] 25 cs (uc_len HU2.out).symm
    have HT := Lib.hid P1.1
    have HP := Lib.hid P1.2
    have HIA : Hid ((Tryd.prog.info? 25).map (·.size) = some cs.toArray.size) := Lib.hid (u_info cs (uc_len HU2.out))
    have HON := Lib.hid (all_oneCell_toArray (uc_ones HU2.out).2)
    clear P1
    go_upto_region 4 with (first | (refine wpList_store_mid rfl 25 (.tmp 3) (.tmp 14) rfl W2.heap.size 0 cs.toArray rfl rfl HT.out HIA.out HON.out ?_; generalize World.setCells _ _ _ _ = V2 at HP ⊢))
    have HPB := Lib.hid HP.out.below
    have HU3 := Lib.hid (HU2.out.later HPB.out)
    have HB3 := Lib.hid (chain2 HB2.out HPB.out)
    have HX3 : Hid (El V2 W2.heap.size cs) := Lib.hid ⟨HP.out.cells, HP.out.lt⟩
    clear HT HP HIA HON HPB
    have HI := Lib.hid (u_info cs (uc_len HU3.out))
    have SA : Hid (Calls Tryd.prog 16 #[.agg cs.toArray, .agg #[.string ⟨#[]⟩, .int .i64 0, .slice none 0 0, .int .i64 0, .slice none 0 0]] V2 fun e w' => e = .returned (.bool true) ∧ Below V2.heap.size V2 w') := Lib.hid (by
        have := same_any V2 HU3.out (uc_zero (fun _ => True) V2) smU_zero smU_zero
        rw [decide_eq_true rfl] at this
        exact this)
    go_wp2_with (first | (refine wpList_load_mid rfl 25 (.tmp 3) rfl W2.heap.size 0 rfl cs _ HX3.out.cells Tryd.underlying25 rfl HI.out ?_) | (refine wpList_load_want (by rfl) 25 (.tmp 3) rfl W2.heap.size 0 rfl cs _ HX3.out.cells Tryd.underlying25 rfl HI.out ?_))
    refine SA.out.mono ?_
    rintro e W4 ⟨rfl, hb⟩
    have HX4 := Lib.hid (HX3.out.later hb)
    have HU4 := Lib.hid (HU3.out.later hb)
    have HB4 := Lib.hid (chain2 HB3.out hb)
    clear hb
    go_wp2_with (first | (refine wpList_load_mid rfl 25 (.tmp 3) rfl W2.heap.size 0 rfl cs _ HX4.out.cells Tryd.underlying25 rfl HI.out ?_) | (refine wpList_load_want (by rfl) 25 (.tmp 3) rfl W2.heap.size 0 rfl cs _ HX4.out.cells Tryd.underlying25 rfl HI.out ?_))
    refine (K.out _ HB4.out).mono ?_
    rintro e W5 ⟨rfl, hb⟩
    have HX5 := Lib.hid (HX4.out.later hb)
    have HU5 := Lib.hid (HU4.out.later hb)
    have HB5 := Lib.hid (chain2 HB4.out hb)
    clear hb
    go_wp2
    go_ret
    exact ⟨by first | rfl | trivial, HB5.out⟩
end Go.Proofs.YtmloljfnnkfkjaaDoor.Im

