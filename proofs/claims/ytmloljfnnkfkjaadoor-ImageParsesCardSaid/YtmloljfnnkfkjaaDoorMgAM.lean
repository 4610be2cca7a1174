/- The walks of image.number and of list (five kinds of elements): their contracts. No condition but those that each states. -/
import Derived.Test.YtmloljfnnkfkjaaDoorMgAH
import Derived.Test.YtmloljfnnkfkjaaDoorMgAI
import Derived.Test.YtmloljfnnkfkjaaDoorMgAL
namespace Go.Proofs.YtmloljfnnkfkjaaDoor.Im
open Go.RowKit Dk In
variable {X : Nat → Prop}

theorem number_any (n k : Int) (w : World) (hk : wideB k = true) (hf : fitsB n k = true) : Calls Tryd.prog 19 #[.int .i64 n, .int .i64 k] w fun e w' => e = .returned (.string (strOf (le k.toNat n))) ∧ Below w.heap.size w w' := by
  have PT : Hid (Calls Tryd.prog 45 #[.int .i64 n, .int .i64 k] w fun e w' => e = .returned (.tuple #[.string (strOf (le k.toNat n)), .int .i64 0]) ∧ Below w.heap.size w w') := Lib.hid (put_ok n k w hk hf)
  generalize strOf (le k.toNat n) = s at *
  clear hk hf
  go_enter Tryd.func19, Tryd.ntmps19
  go_wp2_with fail
  refine PT.out.mono ?_
  rintro e W2 ⟨rfl, hb⟩
  have HB := Lib.hid hb
  clear hb PT
  go_wp2
  go_ret
  exact ⟨rfl, HB.out⟩
theorem fits_small {n : Int} {k : Nat} (hk : k = 1 ∨ k = 2 ∨ k = 4) (h0 : 0 ≤ n) (h1 : n < 256 ^ k) : fitsB n (k : Int) = true := by
  unfold fitsB
  rcases hk with rfl | rfl | rfl <;> simp at h1 ⊢ <;> omega
theorem fits_eight (n : Int) : fitsB n 8 = true := rfl
theorem text_row (l : List UInt8) (w : World) (h : l.length ≤ 1099511627776) : Calls Tryd.prog 18 #[.string (strOf l)] w fun e w' => e = .returned (.string (strOf (txt l))) ∧ Below w.heap.size w w' := by
  have := text_any (strOf l) w (by rw [strOf_size]; omega)
  rw [strOf_size] at this
  have e : (⟨(Lib.leBytes 4 l.length).toArray⟩ : ByteArray) ++ strOf l = strOf (txt l) := strOf_append (Lib.leBytes 4 l.length) l
  rwa [e] at this
theorem isB_keep {B b : Nat} {l : List UInt8} {w w' : World} (h : Sl.IsB B b l w) (k : Below w.heap.size w w') : Sl.IsB B b l w' := h.elim (fun h => .inl (Sl.bat_later h k)) (fun h => .inr (Sl.bat_later h k))

theorem enc_range {α : Type} (f : α → List UInt8) (l : List α) : encL f l = le 2 (l.length : Int) ++ (List.range l.length).flatMap fun i => ((l[i]?).map f).getD [] := by
  unfold encL
  congr 1
  have key : ∀ n, n ≤ l.length → (l.take n).flatMap f = (List.range n).flatMap fun i => ((l[i]?).map f).getD [] := by
    intro n
    induction n with
    | zero => intro _; simp
    | succ n ih =>
      intro hn
      rw [List.range_succ, List.flatMap_append, ← ih (by omega), List.take_succ_eq_append_getElem (by omega), List.flatMap_append]
      simp [List.getElem?_eq_getElem (show n < l.length by omega)]
  have := key l.length (Nat.le_refl _)
  rwa [List.take_length] at this

set_option maxHeartbeats 2000000 in
set_option maxRecDepth 100000 in
theorem list_us {n : Nat} (ps : Nat → List Value) (es : Nat → List UInt8) (R : List UInt8) (pp : Option Addr) (cap : Nat) (F : FuncId) (hF : Enters F) (W : World) (hv : ∀ i, i < n → ∃ g o, pp = some ⟨g, o, none⟩ ∧ g < W.heap.size ∧ W.rangeAt g (o + i * 3) (ps i)) (hz : ∀ i, i < n → (ps i).length = 3)
    (h1 : ∀ i, i < n → ∀ u ∈ ps i, u.oneCell' = true) (hcl : ∀ i, i < n → ∀ W', Below W.heap.size W W' → Calls Tryd.prog F #[.agg (ps i).toArray] W' fun e W2 => e = .returned (.string (strOf (es i))) ∧ Below W'.heap.size W' W2) (hl : n ≤ 65535) (hR : R = le 2 (n : Int) ++ (List.range n).flatMap es) (hlen : R.length ≤ 1099511627776) :
    Calls Tryd.prog 20 #[.slice pp n cap, .func (.func F) #[] #[]] W fun e W' => e = .returned (.string (strOf R)) ∧ Below W.heap.size W W' := by
  have hcall := hF
  unfold Enters at hcall
  have HV := Lib.hid hv
  have HZ := Lib.hid hz
  have H1 := Lib.hid h1
  have HCL := Lib.hid hcl
  have HSZ : Hid (∀ i, i ≤ n → (le 2 (n : Int) ++ (List.range i).flatMap es).length ≤ 1099511627776) := Lib.hid (fun i hi => by
    have e : (List.range n).flatMap es = (List.range i).flatMap es ++ ((List.range (n - i)).map (i + ·)).flatMap es := by
      rw [← List.flatMap_append, ← List.range_add, Nat.add_sub_cancel' hi]
    rw [hR, e] at hlen
    simp only [List.length_append] at hlen ⊢
    omega)
  have HR := Lib.hid hR
  have NB := Lib.hid (fun W => number_any (n : Int) 2 W rfl (fits_small (k := 2) (.inr (.inl rfl)) (by omega) (by show (n : Int) < 65536; omega)))
  have HB0 : Hid (Sl.IsB W.heap.size W.heap.size [] (W.alloc (.cells #[.pointer none, .slice none 0 0] 76))) := Lib.hid (Sl.isB_new W)
  have HBL0 : Hid (Below W.heap.size W (W.alloc (.cells #[.pointer none, .slice none 0 0] 76))) := Lib.hid ((Below.refl _ _).alloc (Nat.le_refl _) _)
  have HH : Hid (le 2 (n : Int) ≠ []) := Lib.hid (fun h => by have := le_length 2 (n : Int); rw [h] at this; cases this)
  have HN0 : Hid ((le 2 (n : Int)).length ≤ 1099511627776) := Lib.hid (by rw [le_length]; omega)
  replace NB : Hid (∀ W, Calls Tryd.prog 19 #[.int .i64 (n : Int), .int .i64 2] W fun e w' => e = .returned (.string (strOf (le 2 (n : Int)))) ∧ Below W.heap.size W w') := NB
  generalize le 2 (n : Int) = H at *
  clear hv hz hcl h1 hR hF hlen
  go_enter Tryd.func20, Tryd.ntmps20
  go_wp2_with fail
  refine (NB.out _).mono ?_
  rintro e W2 ⟨rfl, hb2⟩
  have HB2 := Lib.hid (isB_keep HB0.out hb2)
  have HBL2 := Lib.hid (chain2 HBL0.out hb2)
  clear hb2 HB0 HBL0 NB
  have WS := Lib.hid (Sl.write_string _ _ [] (strOf H) W2 HB2.out (by rw [strOf_size]; have := HN0.out; simp; omega) HBL2.out.size)
  go_wp2_with fail
  refine WS.out.mono ?_
  rintro e W3 ⟨rfl, hq, hb3⟩
  rw [List.nil_append] at hq
  have HB3 : Hid (Sl.IsB W.heap.size W.heap.size (H ++ (List.range 0).flatMap es) W3) := Lib.hid (by rw [List.range_zero, List.flatMap_nil, List.append_nil]; exact hq)
  have HBL3 := Lib.hid (HBL2.out.trans hb3)
  clear hq hb3 WS HB2 HBL2 HN0
  go_wp2
  go_loopw [14] (fun vi wr => ∃ i : Nat, i ≤ n ∧ vi = .int .i64 (i : Int) ∧ Hid (Below W.heap.size W wr) ∧ Hid (Sl.IsB W.heap.size W.heap.size (H ++ (List.range i).flatMap es) wr)) (fun vi _ => n - (intOf vi).toNat)
  case atStart => exact ⟨0, Nat.zero_le _, rfl, HBL3, HB3⟩
  case round =>
    clear HB3 HBL3
    obtain ⟨i, hi, rfl, HB, HI0⟩ := hrel
    by_cases hlt : i < n
    · obtain ⟨g, o, hp, hg, hr⟩ := HV.out i hlt
      subst hp
      have HRG := Lib.hid (Dk.rangeAt_block hr (HB.out.block g hg))
      have HI := Lib.hid (us_size.trans (congrArg some (HZ.out i hlt).symm))
      have HIA : Hid ((Tryd.prog.info? 43).map (·.size) = some (ps i).toArray.size) := Lib.hid HI.out
      have HO := Lib.hid (all_oneCell_toArray (H1.out i hlt))
      have HP := Lib.hid (put_new wr #[.string ⟨#[]⟩, .string ⟨#[]⟩, .int .i64 0] 43 (ps i) (HZ.out i hlt).symm)
      have HT1 := Lib.hid HP.out.1
      have HP2 := Lib.hid HP.out.2
      have HCI := Lib.hid (fun W' hb => HCL.out i hlt W' (chain2 HB.out hb))
      have HS := Lib.hid (HSZ.out (i + 1) (by omega))
      have HAP : Hid (H ++ (List.range (i + 1)).flatMap es = (H ++ (List.range i).flatMap es) ++ es i) := Lib.hid (by rw [List.range_succ, List.flatMap_append, ← List.append_assoc]; simp)
      rw [HAP.out] at HS
      generalize hacc : H ++ (List.range i).flatMap es = acc at *
      generalize es i = ei at *
      have z0 : (0 : Int) ≤ (i : Int) := by omega
      have z1 : (i : Int) < (n : Int) := by omega
      clear hr HP HCL hacc
      generalize ps i = pc at HRG HI HIA HO HT1 HP2 HCI
      go_wp2_with (first
        | (refine wpList_load_mid rfl 43 (.tmp 16) rfl g (o + i * 3) rfl pc _ HRG.out Tryd.underlying43 rfl HI.out ?_)
        | (refine wpList_store_mid rfl 43 (.tmp 7) (.tmp 17) rfl wr.heap.size 0 pc.toArray rfl rfl HT1.out HIA.out HO.out ?_; generalize World.setCells _ _ _ _ = W8 at HP2 ⊢)
        | (refine wpList_load_mid rfl 43 (.tmp 7) rfl wr.heap.size 0 rfl pc _ HP2.out.cells Tryd.underlying43 rfl HI.out ?_))
      refine (HCI.out _ HP2.out.below).mono ?_
      rintro e W9 ⟨rfl, hb9⟩
      have HQ := Lib.hid (chain2 HP2.out.below hb9)
      have HB9 := Lib.hid (isB_keep HI0.out HQ.out)
      have HBL9 := Lib.hid (chain2 HB.out HQ.out)
      clear hb9 HCI HI0
      have WS := Lib.hid (Sl.write_string _ _ acc (strOf ei) W9 HB9.out (by rw [strOf_size]; have := HS.out; rw [List.length_append] at this; exact this) HBL9.out.size)
      go_wp2_with fail
      refine WS.out.mono ?_
      rintro e W10 ⟨rfl, hq, hb10⟩
      have HB10 : Hid (Sl.IsB W.heap.size W.heap.size (H ++ (List.range (i + 1)).flatMap es) W10) := Lib.hid (by rw [HAP.out]; exact hq)
      have HBL10 := Lib.hid (HBL9.out.trans hb10)
      clear hq hb10 WS HAP HS HB9
      go_wp2
      go_roundw
      case rel => exact ⟨i + 1, by omega, by go_num, HBL10, HB10⟩
      case measure => simp [intOf]; omega
    · obtain rfl : i = n := by omega
      have HST := Lib.hid (Sl.string_full _ _ _ wr HI0.out (fun h => HH.out (List.append_eq_nil_iff.1 h).1))
      rw [← HR.out] at HST
      clear HI0
      go_wp2_with fail
      refine HST.out.mono ?_
      rintro e W9 ⟨rfl, hb9⟩
      have HBL9 := Lib.hid (HB.out.trans hb9)
      clear hb9 HST
      go_wp2
      go_ret
      exact ⟨rfl, HBL9.out⟩

theorem lists_us {l : List Us} (f : Us → List UInt8) {F : FuncId} (hF : Enters F) {v : Value} {W : World} {css : List (List Value)} (h : Row X W v css) (hk : ∀ c ∈ css, c.length = 3) (h1 : Ones css) (hlen : css.length = l.length) (hl : l.length ≤ 65535) (hs : (encL f l).length ≤ 1099511627776)
    (hcl : ∀ (i : Nat) (cs : List Value) (x : Us), css[i]? = some cs → l[i]? = some x → ∀ W', Below W.heap.size W W' → Calls Tryd.prog F #[.agg cs.toArray] W' fun e W2 => e = .returned (.string (strOf (f x))) ∧ Below W'.heap.size W' W2) :
    Calls Tryd.prog 20 #[v, .func (.func F) #[] #[]] W fun e W' => e = .returned (.string (strOf (encL f l))) ∧ Below W.heap.size W W' := by
  obtain ⟨p, c, rfl⟩ := h.form
  refine list_us (fun i => css.getD i []) (fun i => ((l[i]?).map f).getD []) _ p c F hF W (h.ps hk) (fun i hi => hk _ (getD_mem hi)) (fun i hi => h1 _ (getD_mem hi)) (fun i hi W' hb => ?_) (by omega) (by rw [hlen]; exact enc_range f l) hs
  have e1 : css[i]? = some (css.getD i []) := by rw [List.getD_eq_getElem?_getD, List.getElem?_eq_getElem hi]; rfl
  have e2 : l[i]? = some (l[i]'(by omega)) := List.getElem?_eq_getElem (by omega)
  rw [e2]
  exact hcl i _ _ e1 e2 W' hb

set_option maxHeartbeats 2000000 in
set_option maxRecDepth 100000 in
theorem list_pr {n : Nat} (ps : Nat → List Value) (es : Nat → List UInt8) (R : List UInt8) (pp : Option Addr) (cap : Nat) (F : FuncId) (hF : Enters F) (W : World) (hv : ∀ i, i < n → ∃ g o, pp = some ⟨g, o, none⟩ ∧ g < W.heap.size ∧ W.rangeAt g (o + i * 6) (ps i)) (hz : ∀ i, i < n → (ps i).length = 6)
    (h1 : ∀ i, i < n → ∀ u ∈ ps i, u.oneCell' = true) (hcl : ∀ i, i < n → ∀ W', Below W.heap.size W W' → Calls Tryd.prog F #[.agg (ps i).toArray] W' fun e W2 => e = .returned (.string (strOf (es i))) ∧ Below W'.heap.size W' W2) (hl : n ≤ 65535) (hR : R = le 2 (n : Int) ++ (List.range n).flatMap es) (hlen : R.length ≤ 1099511627776) :
    Calls Tryd.prog 22 #[.slice pp n cap, .func (.func F) #[] #[]] W fun e W' => e = .returned (.string (strOf R)) ∧ Below W.heap.size W W' := by
  have hcall := hF
  unfold Enters at hcall
  have HV := Lib.hid hv
  have HZ := Lib.hid hz
  have H1 := Lib.hid h1
  have HCL := Lib.hid hcl
  have HSZ : Hid (∀ i, i ≤ n → (le 2 (n : Int) ++ (List.range i).flatMap es).length ≤ 1099511627776) := Lib.hid (fun i hi => by
    have e : (List.range n).flatMap es = (List.range i).flatMap es ++ ((List.range (n - i)).map (i + ·)).flatMap es := by
      rw [← List.flatMap_append, ← List.range_add, Nat.add_sub_cancel' hi]
    rw [hR, e] at hlen
    simp only [List.length_append] at hlen ⊢
    omega)
  have HR := Lib.hid hR
  have NB := Lib.hid (fun W => number_any (n : Int) 2 W rfl (fits_small (k := 2) (.inr (.inl rfl)) (by omega) (by show (n : Int) < 65536; omega)))
  have HB0 : Hid (Sl.IsB W.heap.size W.heap.size [] (W.alloc (.cells #[.pointer none, .slice none 0 0] 76))) := Lib.hid (Sl.isB_new W)
  have HBL0 : Hid (Below W.heap.size W (W.alloc (.cells #[.pointer none, .slice none 0 0] 76))) := Lib.hid ((Below.refl _ _).alloc (Nat.le_refl _) _)
  have HH : Hid (le 2 (n : Int) ≠ []) := Lib.hid (fun h => by have := le_length 2 (n : Int); rw [h] at this; cases this)
  have HN0 : Hid ((le 2 (n : Int)).length ≤ 1099511627776) := Lib.hid (by rw [le_length]; omega)
  replace NB : Hid (∀ W, Calls Tryd.prog 19 #[.int .i64 (n : Int), .int .i64 2] W fun e w' => e = .returned (.string (strOf (le 2 (n : Int)))) ∧ Below W.heap.size W w') := NB
  generalize le 2 (n : Int) = H at *
  clear hv hz hcl h1 hR hF hlen
  go_enter Tryd.func22, Tryd.ntmps22
  go_wp2_with fail
  refine (NB.out _).mono ?_
  rintro e W2 ⟨rfl, hb2⟩
  have HB2 := Lib.hid (isB_keep HB0.out hb2)
  have HBL2 := Lib.hid (chain2 HBL0.out hb2)
  clear hb2 HB0 HBL0 NB
  have WS := Lib.hid (Sl.write_string _ _ [] (strOf H) W2 HB2.out (by rw [strOf_size]; have := HN0.out; simp; omega) HBL2.out.size)
  go_wp2_with fail
  refine WS.out.mono ?_
  rintro e W3 ⟨rfl, hq, hb3⟩
  rw [List.nil_append] at hq
  have HB3 : Hid (Sl.IsB W.heap.size W.heap.size (H ++ (List.range 0).flatMap es) W3) := Lib.hid (by rw [List.range_zero, List.flatMap_nil, List.append_nil]; exact hq)
  have HBL3 := Lib.hid (HBL2.out.trans hb3)
  clear hq hb3 WS HB2 HBL2 HN0
  go_wp2
  go_loopw [14] (fun vi wr => ∃ i : Nat, i ≤ n ∧ vi = .int .i64 (i : Int) ∧ Hid (Below W.heap.size W wr) ∧ Hid (Sl.IsB W.heap.size W.heap.size (H ++ (List.range i).flatMap es) wr)) (fun vi _ => n - (intOf vi).toNat)
  case atStart => exact ⟨0, Nat.zero_le _, rfl, HBL3, HB3⟩
  case round =>
    clear HB3 HBL3
    obtain ⟨i, hi, rfl, HB, HI0⟩ := hrel
    by_cases hlt : i < n
    · obtain ⟨g, o, hp, hg, hr⟩ := HV.out i hlt
      subst hp
      have HRG := Lib.hid (Dk.rangeAt_block hr (HB.out.block g hg))
      have HI := Lib.hid (pr_size.trans (congrArg some (HZ.out i hlt).symm))
      have HIA : Hid ((Tryd.prog.info? 38).map (·.size) = some (ps i).toArray.size) := Lib.hid HI.out
      have HO := Lib.hid (all_oneCell_toArray (H1.out i hlt))
      have HP := Lib.hid (put_new wr #[.string ⟨#[]⟩, .int .i64 0, .int .i64 0, .slice none 0 0, .slice none 0 0, .slice none 0 0] 38 (ps i) (HZ.out i hlt).symm)
      have HT1 := Lib.hid HP.out.1
      have HP2 := Lib.hid HP.out.2
      have HCI := Lib.hid (fun W' hb => HCL.out i hlt W' (chain2 HB.out hb))
      have HS := Lib.hid (HSZ.out (i + 1) (by omega))
      have HAP : Hid (H ++ (List.range (i + 1)).flatMap es = (H ++ (List.range i).flatMap es) ++ es i) := Lib.hid (by rw [List.range_succ, List.flatMap_append, ← List.append_assoc]; simp)
      rw [HAP.out] at HS
      generalize hacc : H ++ (List.range i).flatMap es = acc at *
      generalize es i = ei at *
      have z0 : (0 : Int) ≤ (i : Int) := by omega
      have z1 : (i : Int) < (n : Int) := by omega
      clear hr HP HCL hacc
      generalize ps i = pc at HRG HI HIA HO HT1 HP2 HCI
      go_wp2_with (first
        | (refine wpList_load_mid rfl 38 (.tmp 16) rfl g (o + i * 6) rfl pc _ HRG.out Tryd.underlying38 rfl HI.out ?_)
        | (refine wpList_store_mid rfl 38 (.tmp 7) (.tmp 17) rfl wr.heap.size 0 pc.toArray rfl rfl HT1.out HIA.out HO.out ?_; generalize World.setCells _ _ _ _ = W8 at HP2 ⊢)
        | (refine wpList_load_mid rfl 38 (.tmp 7) rfl wr.heap.size 0 rfl pc _ HP2.out.cells Tryd.underlying38 rfl HI.out ?_))
      refine (HCI.out _ HP2.out.below).mono ?_
      rintro e W9 ⟨rfl, hb9⟩
      have HQ := Lib.hid (chain2 HP2.out.below hb9)
      have HB9 := Lib.hid (isB_keep HI0.out HQ.out)
      have HBL9 := Lib.hid (chain2 HB.out HQ.out)
      clear hb9 HCI HI0
      have WS := Lib.hid (Sl.write_string _ _ acc (strOf ei) W9 HB9.out (by rw [strOf_size]; have := HS.out; rw [List.length_append] at this; exact this) HBL9.out.size)
      go_wp2_with fail
      refine WS.out.mono ?_
      rintro e W10 ⟨rfl, hq, hb10⟩
      have HB10 : Hid (Sl.IsB W.heap.size W.heap.size (H ++ (List.range (i + 1)).flatMap es) W10) := Lib.hid (by rw [HAP.out]; exact hq)
      have HBL10 := Lib.hid (HBL9.out.trans hb10)
      clear hq hb10 WS HAP HS HB9
      go_wp2
      go_roundw
      case rel => exact ⟨i + 1, by omega, by go_num, HBL10, HB10⟩
      case measure => simp [intOf]; omega
    · obtain rfl : i = n := by omega
      have HST := Lib.hid (Sl.string_full _ _ _ wr HI0.out (fun h => HH.out (List.append_eq_nil_iff.1 h).1))
      rw [← HR.out] at HST
      clear HI0
      go_wp2_with fail
      refine HST.out.mono ?_
      rintro e W9 ⟨rfl, hb9⟩
      have HBL9 := Lib.hid (HB.out.trans hb9)
      clear hb9 HST
      go_wp2
      go_ret
      exact ⟨rfl, HBL9.out⟩

theorem lists_pr {l : List Pr} (f : Pr → List UInt8) {F : FuncId} (hF : Enters F) {v : Value} {W : World} {css : List (List Value)} (h : Row X W v css) (hk : ∀ c ∈ css, c.length = 6) (h1 : Ones css) (hlen : css.length = l.length) (hl : l.length ≤ 65535) (hs : (encL f l).length ≤ 1099511627776)
    (hcl : ∀ (i : Nat) (cs : List Value) (x : Pr), css[i]? = some cs → l[i]? = some x → ∀ W', Below W.heap.size W W' → Calls Tryd.prog F #[.agg cs.toArray] W' fun e W2 => e = .returned (.string (strOf (f x))) ∧ Below W'.heap.size W' W2) :
    Calls Tryd.prog 22 #[v, .func (.func F) #[] #[]] W fun e W' => e = .returned (.string (strOf (encL f l))) ∧ Below W.heap.size W W' := by
  obtain ⟨p, c, rfl⟩ := h.form
  refine list_pr (fun i => css.getD i []) (fun i => ((l[i]?).map f).getD []) _ p c F hF W (h.ps hk) (fun i hi => hk _ (getD_mem hi)) (fun i hi => h1 _ (getD_mem hi)) (fun i hi W' hb => ?_) (by omega) (by rw [hlen]; exact enc_range f l) hs
  have e1 : css[i]? = some (css.getD i []) := by rw [List.getD_eq_getElem?_getD, List.getElem?_eq_getElem hi]; rfl
  have e2 : l[i]? = some (l[i]'(by omega)) := List.getElem?_eq_getElem (by omega)
  rw [e2]
  exact hcl i _ _ e1 e2 W' hb

set_option maxHeartbeats 2000000 in
set_option maxRecDepth 100000 in
theorem list_cp {n : Nat} (ps : Nat → List Value) (es : Nat → List UInt8) (R : List UInt8) (pp : Option Addr) (cap : Nat) (F : FuncId) (hF : Enters F) (W : World) (hv : ∀ i, i < n → ∃ g o, pp = some ⟨g, o, none⟩ ∧ g < W.heap.size ∧ W.rangeAt g (o + i * 2) (ps i)) (hz : ∀ i, i < n → (ps i).length = 2)
    (h1 : ∀ i, i < n → ∀ u ∈ ps i, u.oneCell' = true) (hcl : ∀ i, i < n → ∀ W', Below W.heap.size W W' → Calls Tryd.prog F #[.agg (ps i).toArray] W' fun e W2 => e = .returned (.string (strOf (es i))) ∧ Below W'.heap.size W' W2) (hl : n ≤ 65535) (hR : R = le 2 (n : Int) ++ (List.range n).flatMap es) (hlen : R.length ≤ 1099511627776) :
    Calls Tryd.prog 48 #[.slice pp n cap, .func (.func F) #[] #[]] W fun e W' => e = .returned (.string (strOf R)) ∧ Below W.heap.size W W' := by
  have hcall := hF
  unfold Enters at hcall
  have HV := Lib.hid hv
  have HZ := Lib.hid hz
  have H1 := Lib.hid h1
  have HCL := Lib.hid hcl
  have HSZ : Hid (∀ i, i ≤ n → (le 2 (n : Int) ++ (List.range i).flatMap es).length ≤ 1099511627776) := Lib.hid (fun i hi => by
    have e : (List.range n).flatMap es = (List.range i).flatMap es ++ ((List.range (n - i)).map (i + ·)).flatMap es := by
      rw [← List.flatMap_append, ← List.range_add, Nat.add_sub_cancel' hi]
    rw [hR, e] at hlen
    simp only [List.length_append] at hlen ⊢
    omega)
  have HR := Lib.hid hR
  have NB := Lib.hid (fun W => number_any (n : Int) 2 W rfl (fits_small (k := 2) (.inr (.inl rfl)) (by omega) (by show (n : Int) < 65536; omega)))
  have HB0 : Hid (Sl.IsB W.heap.size W.heap.size [] (W.alloc (.cells #[.pointer none, .slice none 0 0] 76))) := Lib.hid (Sl.isB_new W)
  have HBL0 : Hid (Below W.heap.size W (W.alloc (.cells #[.pointer none, .slice none 0 0] 76))) := Lib.hid ((Below.refl _ _).alloc (Nat.le_refl _) _)
  have HH : Hid (le 2 (n : Int) ≠ []) := Lib.hid (fun h => by have := le_length 2 (n : Int); rw [h] at this; cases this)
  have HN0 : Hid ((le 2 (n : Int)).length ≤ 1099511627776) := Lib.hid (by rw [le_length]; omega)
  replace NB : Hid (∀ W, Calls Tryd.prog 19 #[.int .i64 (n : Int), .int .i64 2] W fun e w' => e = .returned (.string (strOf (le 2 (n : Int)))) ∧ Below W.heap.size W w') := NB
  generalize le 2 (n : Int) = H at *
  clear hv hz hcl h1 hR hF hlen
  go_enter Tryd.func48, Tryd.ntmps48
  go_wp2_with fail
  refine (NB.out _).mono ?_
  rintro e W2 ⟨rfl, hb2⟩
  have HB2 := Lib.hid (isB_keep HB0.out hb2)
  have HBL2 := Lib.hid (chain2 HBL0.out hb2)
  clear hb2 HB0 HBL0 NB
  have WS := Lib.hid (Sl.write_string _ _ [] (strOf H) W2 HB2.out (by rw [strOf_size]; have := HN0.out; simp; omega) HBL2.out.size)
  go_wp2_with fail
  refine WS.out.mono ?_
  rintro e W3 ⟨rfl, hq, hb3⟩
  rw [List.nil_append] at hq
  have HB3 : Hid (Sl.IsB W.heap.size W.heap.size (H ++ (List.range 0).flatMap es) W3) := Lib.hid (by rw [List.range_zero, List.flatMap_nil, List.append_nil]; exact hq)
  have HBL3 := Lib.hid (HBL2.out.trans hb3)
  clear hq hb3 WS HB2 HBL2 HN0
  go_wp2
  go_loopw [14] (fun vi wr => ∃ i : Nat, i ≤ n ∧ vi = .int .i64 (i : Int) ∧ Hid (Below W.heap.size W wr) ∧ Hid (Sl.IsB W.heap.size W.heap.size (H ++ (List.range i).flatMap es) wr)) (fun vi _ => n - (intOf vi).toNat)
  case atStart => exact ⟨0, Nat.zero_le _, rfl, HBL3, HB3⟩
  case round =>
    clear HB3 HBL3
    obtain ⟨i, hi, rfl, HB, HI0⟩ := hrel
    by_cases hlt : i < n
    · obtain ⟨g, o, hp, hg, hr⟩ := HV.out i hlt
      subst hp
      have HRG := Lib.hid (Dk.rangeAt_block hr (HB.out.block g hg))
      have HI := Lib.hid (cp_size.trans (congrArg some (HZ.out i hlt).symm))
      have HIA : Hid ((Tryd.prog.info? 83).map (·.size) = some (ps i).toArray.size) := Lib.hid HI.out
      have HO := Lib.hid (all_oneCell_toArray (H1.out i hlt))
      have HP := Lib.hid (put_new wr #[.bool false, .int .i64 0] 83 (ps i) (HZ.out i hlt).symm)
      have HT1 := Lib.hid HP.out.1
      have HP2 := Lib.hid HP.out.2
      have HCI := Lib.hid (fun W' hb => HCL.out i hlt W' (chain2 HB.out hb))
      have HS := Lib.hid (HSZ.out (i + 1) (by omega))
      have HAP : Hid (H ++ (List.range (i + 1)).flatMap es = (H ++ (List.range i).flatMap es) ++ es i) := Lib.hid (by rw [List.range_succ, List.flatMap_append, ← List.append_assoc]; simp)
      rw [HAP.out] at HS
      generalize hacc : H ++ (List.range i).flatMap es = acc at *
      generalize es i = ei at *
      have z0 : (0 : Int) ≤ (i : Int) := by omega
      have z1 : (i : Int) < (n : Int) := by omega
      clear hr HP HCL hacc
      generalize ps i = pc at HRG HI HIA HO HT1 HP2 HCI
      go_wp2_with (first
        | (refine wpList_load_mid rfl 83 (.tmp 16) rfl g (o + i * 2) rfl pc _ HRG.out Tryd.underlying83 rfl HI.out ?_)
        | (refine wpList_store_mid rfl 83 (.tmp 7) (.tmp 17) rfl wr.heap.size 0 pc.toArray rfl rfl HT1.out HIA.out HO.out ?_; generalize World.setCells _ _ _ _ = W8 at HP2 ⊢)
        | (refine wpList_load_mid rfl 83 (.tmp 7) rfl wr.heap.size 0 rfl pc _ HP2.out.cells Tryd.underlying83 rfl HI.out ?_))
      refine (HCI.out _ HP2.out.below).mono ?_
      rintro e W9 ⟨rfl, hb9⟩
      have HQ := Lib.hid (chain2 HP2.out.below hb9)
      have HB9 := Lib.hid (isB_keep HI0.out HQ.out)
      have HBL9 := Lib.hid (chain2 HB.out HQ.out)
      clear hb9 HCI HI0
      have WS := Lib.hid (Sl.write_string _ _ acc (strOf ei) W9 HB9.out (by rw [strOf_size]; have := HS.out; rw [List.length_append] at this; exact this) HBL9.out.size)
      go_wp2_with fail
      refine WS.out.mono ?_
      rintro e W10 ⟨rfl, hq, hb10⟩
      have HB10 : Hid (Sl.IsB W.heap.size W.heap.size (H ++ (List.range (i + 1)).flatMap es) W10) := Lib.hid (by rw [HAP.out]; exact hq)
      have HBL10 := Lib.hid (HBL9.out.trans hb10)
      clear hq hb10 WS HAP HS HB9
      go_wp2
      go_roundw
      case rel => exact ⟨i + 1, by omega, by go_num, HBL10, HB10⟩
      case measure => simp [intOf]; omega
    · obtain rfl : i = n := by omega
      have HST := Lib.hid (Sl.string_full _ _ _ wr HI0.out (fun h => HH.out (List.append_eq_nil_iff.1 h).1))
      rw [← HR.out] at HST
      clear HI0
      go_wp2_with fail
      refine HST.out.mono ?_
      rintro e W9 ⟨rfl, hb9⟩
      have HBL9 := Lib.hid (HB.out.trans hb9)
      clear hb9 HST
      go_wp2
      go_ret
      exact ⟨rfl, HBL9.out⟩

theorem lists_cp {l : List Cp} (f : Cp → List UInt8) {F : FuncId} (hF : Enters F) {v : Value} {W : World} {css : List (List Value)} (h : Row X W v css) (hk : ∀ c ∈ css, c.length = 2) (h1 : Ones css) (hlen : css.length = l.length) (hl : l.length ≤ 65535) (hs : (encL f l).length ≤ 1099511627776)
    (hcl : ∀ (i : Nat) (cs : List Value) (x : Cp), css[i]? = some cs → l[i]? = some x → ∀ W', Below W.heap.size W W' → Calls Tryd.prog F #[.agg cs.toArray] W' fun e W2 => e = .returned (.string (strOf (f x))) ∧ Below W'.heap.size W' W2) :
    Calls Tryd.prog 48 #[v, .func (.func F) #[] #[]] W fun e W' => e = .returned (.string (strOf (encL f l))) ∧ Below W.heap.size W W' := by
  obtain ⟨p, c, rfl⟩ := h.form
  refine list_cp (fun i => css.getD i []) (fun i => ((l[i]?).map f).getD []) _ p c F hF W (h.ps hk) (fun i hi => hk _ (getD_mem hi)) (fun i hi => h1 _ (getD_mem hi)) (fun i hi W' hb => ?_) (by omega) (by rw [hlen]; exact enc_range f l) hs
  have e1 : css[i]? = some (css.getD i []) := by rw [List.getD_eq_getElem?_getD, List.getElem?_eq_getElem hi]; rfl
  have e2 : l[i]? = some (l[i]'(by omega)) := List.getElem?_eq_getElem (by omega)
  rw [e2]
  exact hcl i _ _ e1 e2 W' hb

set_option maxHeartbeats 2000000 in
set_option maxRecDepth 100000 in
theorem list_vl {n : Nat} (ps : Nat → List Value) (es : Nat → List UInt8) (R : List UInt8) (pp : Option Addr) (cap : Nat) (F : FuncId) (hF : Enters F) (W : World) (hv : ∀ i, i < n → ∃ g o, pp = some ⟨g, o, none⟩ ∧ g < W.heap.size ∧ W.rangeAt g (o + i * 3) (ps i)) (hz : ∀ i, i < n → (ps i).length = 3)
    (h1 : ∀ i, i < n → ∀ u ∈ ps i, u.oneCell' = true) (hcl : ∀ i, i < n → ∀ W', Below W.heap.size W W' → Calls Tryd.prog F #[.agg (ps i).toArray] W' fun e W2 => e = .returned (.string (strOf (es i))) ∧ Below W'.heap.size W' W2) (hl : n ≤ 65535) (hR : R = le 2 (n : Int) ++ (List.range n).flatMap es) (hlen : R.length ≤ 1099511627776) :
    Calls Tryd.prog 50 #[.slice pp n cap, .func (.func F) #[] #[]] W fun e W' => e = .returned (.string (strOf R)) ∧ Below W.heap.size W W' := by
  have hcall := hF
  unfold Enters at hcall
  have HV := Lib.hid hv
  have HZ := Lib.hid hz
  have H1 := Lib.hid h1
  have HCL := Lib.hid hcl
  have HSZ : Hid (∀ i, i ≤ n → (le 2 (n : Int) ++ (List.range i).flatMap es).length ≤ 1099511627776) := Lib.hid (fun i hi => by
    have e : (List.range n).flatMap es = (List.range i).flatMap es ++ ((List.range (n - i)).map (i + ·)).flatMap es := by
      rw [← List.flatMap_append, ← List.range_add, Nat.add_sub_cancel' hi]
    rw [hR, e] at hlen
    simp only [List.length_append] at hlen ⊢
    omega)
  have HR := Lib.hid hR
  have NB := Lib.hid (fun W => number_any (n : Int) 2 W rfl (fits_small (k := 2) (.inr (.inl rfl)) (by omega) (by show (n : Int) < 65536; omega)))
  have HB0 : Hid (Sl.IsB W.heap.size W.heap.size [] (W.alloc (.cells #[.pointer none, .slice none 0 0] 76))) := Lib.hid (Sl.isB_new W)
  have HBL0 : Hid (Below W.heap.size W (W.alloc (.cells #[.pointer none, .slice none 0 0] 76))) := Lib.hid ((Below.refl _ _).alloc (Nat.le_refl _) _)
  have HH : Hid (le 2 (n : Int) ≠ []) := Lib.hid (fun h => by have := le_length 2 (n : Int); rw [h] at this; cases this)
  have HN0 : Hid ((le 2 (n : Int)).length ≤ 1099511627776) := Lib.hid (by rw [le_length]; omega)
  replace NB : Hid (∀ W, Calls Tryd.prog 19 #[.int .i64 (n : Int), .int .i64 2] W fun e w' => e = .returned (.string (strOf (le 2 (n : Int)))) ∧ Below W.heap.size W w') := NB
  generalize le 2 (n : Int) = H at *
  clear hv hz hcl h1 hR hF hlen
  go_enter Tryd.func50, Tryd.ntmps50
  go_wp2_with fail
  refine (NB.out _).mono ?_
  rintro e W2 ⟨rfl, hb2⟩
  have HB2 := Lib.hid (isB_keep HB0.out hb2)
  have HBL2 := Lib.hid (chain2 HBL0.out hb2)
  clear hb2 HB0 HBL0 NB
  have WS := Lib.hid (Sl.write_string _ _ [] (strOf H) W2 HB2.out (by rw [strOf_size]; have := HN0.out; simp; omega) HBL2.out.size)
  go_wp2_with fail
  refine WS.out.mono ?_
  rintro e W3 ⟨rfl, hq, hb3⟩
  rw [List.nil_append] at hq
  have HB3 : Hid (Sl.IsB W.heap.size W.heap.size (H ++ (List.range 0).flatMap es) W3) := Lib.hid (by rw [List.range_zero, List.flatMap_nil, List.append_nil]; exact hq)
  have HBL3 := Lib.hid (HBL2.out.trans hb3)
  clear hq hb3 WS HB2 HBL2 HN0
  go_wp2
  go_loopw [14] (fun vi wr => ∃ i : Nat, i ≤ n ∧ vi = .int .i64 (i : Int) ∧ Hid (Below W.heap.size W wr) ∧ Hid (Sl.IsB W.heap.size W.heap.size (H ++ (List.range i).flatMap es) wr)) (fun vi _ => n - (intOf vi).toNat)
  case atStart => exact ⟨0, Nat.zero_le _, rfl, HBL3, HB3⟩
  case round =>
    clear HB3 HBL3
    obtain ⟨i, hi, rfl, HB, HI0⟩ := hrel
    by_cases hlt : i < n
    · obtain ⟨g, o, hp, hg, hr⟩ := HV.out i hlt
      subst hp
      have HRG := Lib.hid (Dk.rangeAt_block hr (HB.out.block g hg))
      have HI := Lib.hid (vl_size.trans (congrArg some (HZ.out i hlt).symm))
      have HIA : Hid ((Tryd.prog.info? 45).map (·.size) = some (ps i).toArray.size) := Lib.hid HI.out
      have HO := Lib.hid (all_oneCell_toArray (H1.out i hlt))
      have HP := Lib.hid (put_new wr #[.int .i64 0, .int .i64 0, .string ⟨#[]⟩] 45 (ps i) (HZ.out i hlt).symm)
      have HT1 := Lib.hid HP.out.1
      have HP2 := Lib.hid HP.out.2
      have HCI := Lib.hid (fun W' hb => HCL.out i hlt W' (chain2 HB.out hb))
      have HS := Lib.hid (HSZ.out (i + 1) (by omega))
      have HAP : Hid (H ++ (List.range (i + 1)).flatMap es = (H ++ (List.range i).flatMap es) ++ es i) := Lib.hid (by rw [List.range_succ, List.flatMap_append, ← List.append_assoc]; simp)
      rw [HAP.out] at HS
      generalize hacc : H ++ (List.range i).flatMap es = acc at *
      generalize es i = ei at *
      have z0 : (0 : Int) ≤ (i : Int) := by omega
      have z1 : (i : Int) < (n : Int) := by omega
      clear hr HP HCL hacc
      generalize ps i = pc at HRG HI HIA HO HT1 HP2 HCI
      go_wp2_with (first
        | (refine wpList_load_mid rfl 45 (.tmp 16) rfl g (o + i * 3) rfl pc _ HRG.out Tryd.underlying45 rfl HI.out ?_)
        | (refine wpList_store_mid rfl 45 (.tmp 7) (.tmp 17) rfl wr.heap.size 0 pc.toArray rfl rfl HT1.out HIA.out HO.out ?_; generalize World.setCells _ _ _ _ = W8 at HP2 ⊢)
        | (refine wpList_load_mid rfl 45 (.tmp 7) rfl wr.heap.size 0 rfl pc _ HP2.out.cells Tryd.underlying45 rfl HI.out ?_))
      refine (HCI.out _ HP2.out.below).mono ?_
      rintro e W9 ⟨rfl, hb9⟩
      have HQ := Lib.hid (chain2 HP2.out.below hb9)
      have HB9 := Lib.hid (isB_keep HI0.out HQ.out)
      have HBL9 := Lib.hid (chain2 HB.out HQ.out)
      clear hb9 HCI HI0
      have WS := Lib.hid (Sl.write_string _ _ acc (strOf ei) W9 HB9.out (by rw [strOf_size]; have := HS.out; rw [List.length_append] at this; exact this) HBL9.out.size)
      go_wp2_with fail
      refine WS.out.mono ?_
      rintro e W10 ⟨rfl, hq, hb10⟩
      have HB10 : Hid (Sl.IsB W.heap.size W.heap.size (H ++ (List.range (i + 1)).flatMap es) W10) := Lib.hid (by rw [HAP.out]; exact hq)
      have HBL10 := Lib.hid (HBL9.out.trans hb10)
      clear hq hb10 WS HAP HS HB9
      go_wp2
      go_roundw
      case rel => exact ⟨i + 1, by omega, by go_num, HBL10, HB10⟩
      case measure => simp [intOf]; omega
    · obtain rfl : i = n := by omega
      have HST := Lib.hid (Sl.string_full _ _ _ wr HI0.out (fun h => HH.out (List.append_eq_nil_iff.1 h).1))
      rw [← HR.out] at HST
      clear HI0
      go_wp2_with fail
      refine HST.out.mono ?_
      rintro e W9 ⟨rfl, hb9⟩
      have HBL9 := Lib.hid (HB.out.trans hb9)
      clear hb9 HST
      go_wp2
      go_ret
      exact ⟨rfl, HBL9.out⟩

theorem lists_vl {l : List Vl} (f : Vl → List UInt8) {F : FuncId} (hF : Enters F) {v : Value} {W : World} {css : List (List Value)} (h : Row X W v css) (hk : ∀ c ∈ css, c.length = 3) (h1 : Ones css) (hlen : css.length = l.length) (hl : l.length ≤ 65535) (hs : (encL f l).length ≤ 1099511627776)
    (hcl : ∀ (i : Nat) (cs : List Value) (x : Vl), css[i]? = some cs → l[i]? = some x → ∀ W', Below W.heap.size W W' → Calls Tryd.prog F #[.agg cs.toArray] W' fun e W2 => e = .returned (.string (strOf (f x))) ∧ Below W'.heap.size W' W2) :
    Calls Tryd.prog 50 #[v, .func (.func F) #[] #[]] W fun e W' => e = .returned (.string (strOf (encL f l))) ∧ Below W.heap.size W W' := by
  obtain ⟨p, c, rfl⟩ := h.form
  refine list_vl (fun i => css.getD i []) (fun i => ((l[i]?).map f).getD []) _ p c F hF W (h.ps hk) (fun i hi => hk _ (getD_mem hi)) (fun i hi => h1 _ (getD_mem hi)) (fun i hi W' hb => ?_) (by omega) (by rw [hlen]; exact enc_range f l) hs
  have e1 : css[i]? = some (css.getD i []) := by rw [List.getD_eq_getElem?_getD, List.getElem?_eq_getElem hi]; rfl
  have e2 : l[i]? = some (l[i]'(by omega)) := List.getElem?_eq_getElem (by omega)
  rw [e2]
  exact hcl i _ _ e1 e2 W' hb

set_option maxHeartbeats 2000000 in
set_option maxRecDepth 100000 in
theorem list_ix {n : Nat} (ps : Nat → List Value) (es : Nat → List UInt8) (R : List UInt8) (pp : Option Addr) (cap : Nat) (F : FuncId) (hF : Enters F) (W : World) (hv : ∀ i, i < n → ∃ g o, pp = some ⟨g, o, none⟩ ∧ g < W.heap.size ∧ W.rangeAt g (o + i * 4) (ps i)) (hz : ∀ i, i < n → (ps i).length = 4)
    (h1 : ∀ i, i < n → ∀ u ∈ ps i, u.oneCell' = true) (hcl : ∀ i, i < n → ∀ W', Below W.heap.size W W' → Calls Tryd.prog F #[.agg (ps i).toArray] W' fun e W2 => e = .returned (.string (strOf (es i))) ∧ Below W'.heap.size W' W2) (hl : n ≤ 65535) (hR : R = le 2 (n : Int) ++ (List.range n).flatMap es) (hlen : R.length ≤ 1099511627776) :
    Calls Tryd.prog 52 #[.slice pp n cap, .func (.func F) #[] #[]] W fun e W' => e = .returned (.string (strOf R)) ∧ Below W.heap.size W W' := by
  have hcall := hF
  unfold Enters at hcall
  have HV := Lib.hid hv
  have HZ := Lib.hid hz
  have H1 := Lib.hid h1
  have HCL := Lib.hid hcl
  have HSZ : Hid (∀ i, i ≤ n → (le 2 (n : Int) ++ (List.range i).flatMap es).length ≤ 1099511627776) := Lib.hid (fun i hi => by
    have e : (List.range n).flatMap es = (List.range i).flatMap es ++ ((List.range (n - i)).map (i + ·)).flatMap es := by
      rw [← List.flatMap_append, ← List.range_add, Nat.add_sub_cancel' hi]
    rw [hR, e] at hlen
    simp only [List.length_append] at hlen ⊢
    omega)
  have HR := Lib.hid hR
  have NB := Lib.hid (fun W => number_any (n : Int) 2 W rfl (fits_small (k := 2) (.inr (.inl rfl)) (by omega) (by show (n : Int) < 65536; omega)))
  have HB0 : Hid (Sl.IsB W.heap.size W.heap.size [] (W.alloc (.cells #[.pointer none, .slice none 0 0] 76))) := Lib.hid (Sl.isB_new W)
  have HBL0 : Hid (Below W.heap.size W (W.alloc (.cells #[.pointer none, .slice none 0 0] 76))) := Lib.hid ((Below.refl _ _).alloc (Nat.le_refl _) _)
  have HH : Hid (le 2 (n : Int) ≠ []) := Lib.hid (fun h => by have := le_length 2 (n : Int); rw [h] at this; cases this)
  have HN0 : Hid ((le 2 (n : Int)).length ≤ 1099511627776) := Lib.hid (by rw [le_length]; omega)
  replace NB : Hid (∀ W, Calls Tryd.prog 19 #[.int .i64 (n : Int), .int .i64 2] W fun e w' => e = .returned (.string (strOf (le 2 (n : Int)))) ∧ Below W.heap.size W w') := NB
  generalize le 2 (n : Int) = H at *
  clear hv hz hcl h1 hR hF hlen
  go_enter Tryd.func52, Tryd.ntmps52
  go_wp2_with fail
  refine (NB.out _).mono ?_
  rintro e W2 ⟨rfl, hb2⟩
  have HB2 := Lib.hid (isB_keep HB0.out hb2)
  have HBL2 := Lib.hid (chain2 HBL0.out hb2)
  clear hb2 HB0 HBL0 NB
  have WS := Lib.hid (Sl.write_string _ _ [] (strOf H) W2 HB2.out (by rw [strOf_size]; have := HN0.out; simp; omega) HBL2.out.size)
  go_wp2_with fail
  refine WS.out.mono ?_
  rintro e W3 ⟨rfl, hq, hb3⟩
  rw [List.nil_append] at hq
  have HB3 : Hid (Sl.IsB W.heap.size W.heap.size (H ++ (List.range 0).flatMap es) W3) := Lib.hid (by rw [List.range_zero, List.flatMap_nil, List.append_nil]; exact hq)
  have HBL3 := Lib.hid (HBL2.out.trans hb3)
  clear hq hb3 WS HB2 HBL2 HN0
  go_wp2
  go_loopw [14] (fun vi wr => ∃ i : Nat, i ≤ n ∧ vi = .int .i64 (i : Int) ∧ Hid (Below W.heap.size W wr) ∧ Hid (Sl.IsB W.heap.size W.heap.size (H ++ (List.range i).flatMap es) wr)) (fun vi _ => n - (intOf vi).toNat)
  case atStart => exact ⟨0, Nat.zero_le _, rfl, HBL3, HB3⟩
  case round =>
    clear HB3 HBL3
    obtain ⟨i, hi, rfl, HB, HI0⟩ := hrel
    by_cases hlt : i < n
    · obtain ⟨g, o, hp, hg, hr⟩ := HV.out i hlt
      subst hp
      have HRG := Lib.hid (Dk.rangeAt_block hr (HB.out.block g hg))
      have HI := Lib.hid (ix_size.trans (congrArg some (HZ.out i hlt).symm))
      have HIA : Hid ((Tryd.prog.info? 89).map (·.size) = some (ps i).toArray.size) := Lib.hid HI.out
      have HO := Lib.hid (all_oneCell_toArray (H1.out i hlt))
      have HP := Lib.hid (put_new wr #[.int .i64 0, .int .i64 0, .int .i64 0, .int .i64 0] 89 (ps i) (HZ.out i hlt).symm)
      have HT1 := Lib.hid HP.out.1
      have HP2 := Lib.hid HP.out.2
      have HCI := Lib.hid (fun W' hb => HCL.out i hlt W' (chain2 HB.out hb))
      have HS := Lib.hid (HSZ.out (i + 1) (by omega))
      have HAP : Hid (H ++ (List.range (i + 1)).flatMap es = (H ++ (List.range i).flatMap es) ++ es i) := Lib.hid (by rw [List.range_succ, List.flatMap_append, ← List.append_assoc]; simp)
      rw [HAP.out] at HS
      generalize hacc : H ++ (List.range i).flatMap es = acc at *
      generalize es i = ei at *
      have z0 : (0 : Int) ≤ (i : Int) := by omega
      have z1 : (i : Int) < (n : Int) := by omega
      clear hr HP HCL hacc
      generalize ps i = pc at HRG HI HIA HO HT1 HP2 HCI
      go_wp2_with (first
        | (refine wpList_load_mid rfl 89 (.tmp 16) rfl g (o + i * 4) rfl pc _ HRG.out Tryd.underlying89 rfl HI.out ?_)
        | (refine wpList_store_mid rfl 89 (.tmp 7) (.tmp 17) rfl wr.heap.size 0 pc.toArray rfl rfl HT1.out HIA.out HO.out ?_; generalize World.setCells _ _ _ _ = W8 at HP2 ⊢)
        | (refine wpList_load_mid rfl 89 (.tmp 7) rfl wr.heap.size 0 rfl pc _ HP2.out.cells Tryd.underlying89 rfl HI.out ?_))
      refine (HCI.out _ HP2.out.below).mono ?_
      rintro e W9 ⟨rfl, hb9⟩
      have HQ := Lib.hid (chain2 HP2.out.below hb9)
      have HB9 := Lib.hid (isB_keep HI0.out HQ.out)
      have HBL9 := Lib.hid (chain2 HB.out HQ.out)
      clear hb9 HCI HI0
      have WS := Lib.hid (Sl.write_string _ _ acc (strOf ei) W9 HB9.out (by rw [strOf_size]; have := HS.out; rw [List.length_append] at this; exact this) HBL9.out.size)
      go_wp2_with fail
      refine WS.out.mono ?_
      rintro e W10 ⟨rfl, hq, hb10⟩
      have HB10 : Hid (Sl.IsB W.heap.size W.heap.size (H ++ (List.range (i + 1)).flatMap es) W10) := Lib.hid (by rw [HAP.out]; exact hq)
      have HBL10 := Lib.hid (HBL9.out.trans hb10)
      clear hq hb10 WS HAP HS HB9
      go_wp2
      go_roundw
      case rel => exact ⟨i + 1, by omega, by go_num, HBL10, HB10⟩
      case measure => simp [intOf]; omega
    · obtain rfl : i = n := by omega
      have HST := Lib.hid (Sl.string_full _ _ _ wr HI0.out (fun h => HH.out (List.append_eq_nil_iff.1 h).1))
      rw [← HR.out] at HST
      clear HI0
      go_wp2_with fail
      refine HST.out.mono ?_
      rintro e W9 ⟨rfl, hb9⟩
      have HBL9 := Lib.hid (HB.out.trans hb9)
      clear hb9 HST
      go_wp2
      go_ret
      exact ⟨rfl, HBL9.out⟩

theorem lists_ix {l : List Ix} (f : Ix → List UInt8) {F : FuncId} (hF : Enters F) {v : Value} {W : World} {css : List (List Value)} (h : Row X W v css) (hk : ∀ c ∈ css, c.length = 4) (h1 : Ones css) (hlen : css.length = l.length) (hl : l.length ≤ 65535) (hs : (encL f l).length ≤ 1099511627776)
    (hcl : ∀ (i : Nat) (cs : List Value) (x : Ix), css[i]? = some cs → l[i]? = some x → ∀ W', Below W.heap.size W W' → Calls Tryd.prog F #[.agg cs.toArray] W' fun e W2 => e = .returned (.string (strOf (f x))) ∧ Below W'.heap.size W' W2) :
    Calls Tryd.prog 52 #[v, .func (.func F) #[] #[]] W fun e W' => e = .returned (.string (strOf (encL f l))) ∧ Below W.heap.size W W' := by
  obtain ⟨p, c, rfl⟩ := h.form
  refine list_ix (fun i => css.getD i []) (fun i => ((l[i]?).map f).getD []) _ p c F hF W (h.ps hk) (fun i hi => hk _ (getD_mem hi)) (fun i hi => h1 _ (getD_mem hi)) (fun i hi W' hb => ?_) (by omega) (by rw [hlen]; exact enc_range f l) hs
  have e1 : css[i]? = some (css.getD i []) := by rw [List.getD_eq_getElem?_getD, List.getElem?_eq_getElem hi]; rfl
  have e2 : l[i]? = some (l[i]'(by omega)) := List.getElem?_eq_getElem (by omega)
  rw [e2]
  exact hcl i _ _ e1 e2 W' hb

end Go.Proofs.YtmloljfnnkfkjaaDoor.Im

