/- The walks of image.within, of all (five kinds of elements): their contracts. No condition but those that each states. -/
import Derived.Test.YtmloljfnnkfkjaaDoorMgAD
namespace Go.Proofs.YtmloljfnnkfkjaaDoor.Im
open Go.RowKit Dk In

/-- A function that is entered. -/
def Enters (f : FuncId) : Prop := ∀ (a : Array Value) (W : World), (callFunc f a).run Tryd.prog W = .ok (.enter f a) W
/-- What is put into a new block. -/
structure Put (W W' : World) (pc : List Value) : Prop where
  cells : W'.rangeAt W.heap.size 0 pc
  below : Below W.heap.size W W'
  lt : W.heap.size < W'.heap.size
theorem put_new (W : World) (zc : Array Value) (t : TypeId) (pc : List Value) (h : zc.size = pc.length) : (W.alloc (.cells zc t)).there W.heap.size 0 pc.toArray.size ∧ Put W ((W.alloc (.cells zc t)).setCells W.heap.size 0 pc.toArray.toList) pc := by
  have h1 := there_new W zc t
  rw [h] at h1
  exact ⟨h1, World.rangeAt_setCells_same _ W.heap.size 0 pc h1, below_setCells (Below.refl _ _) _ (Nat.le_refl _) _ _ _ ((Below.refl _ _).alloc (Nat.le_refl _) _), by rw [Dk.size_setCells]; simp⟩

theorem within_any (n lo hi : Int) (w : World) : Calls Tryd.prog 28 #[.int .i64 n, .int .i64 lo, .int .i64 hi] w fun e w' => e = .returned (.bool (inB n lo hi)) ∧ w = w' := by
  unfold inB
  by_cases h0 : lo ≤ n
  · rw [decide_eq_true h0, Bool.true_and]
    by_cases h1 : n ≤ hi
    · rw [decide_eq_true h1]
      go_enter Tryd.func28, Tryd.ntmps28
      go_wp2
      go_ret
      exact ⟨rfl, rfl⟩
    · rw [decide_eq_false h1]
      go_enter Tryd.func28, Tryd.ntmps28
      go_wp2
      go_ret
      exact ⟨rfl, rfl⟩
  · rw [decide_eq_false h0, Bool.false_and]
    go_enter Tryd.func28, Tryd.ntmps28
    go_wp2
    go_ret
    exact ⟨rfl, rfl⟩

theorem us_size : (Tryd.prog.info? 43).map (·.size) = some 3 := by kernel_rfl
set_option maxHeartbeats 1000000 in
set_option maxRecDepth 100000 in
theorem alls_us {n : Nat} (ps : Nat → List Value) (p : Nat → Bool) (R : Bool) (lim : Int) (pp : Option Addr) (cap : Nat) (F : FuncId) (hF : Enters F) (W : World) (hv : ∀ i, i < n → ∃ g o, pp = some ⟨g, o, none⟩ ∧ g < W.heap.size ∧ W.rangeAt g (o + i * 3) (ps i)) (hz : ∀ i, i < n → (ps i).length = 3)
    (h1 : ∀ i, i < n → ∀ u ∈ ps i, u.oneCell' = true) (hcl : ∀ i, i < n → ∀ W', Below W.heap.size W W' → Calls Tryd.prog F #[.agg (ps i).toArray] W' fun e W2 => e = .returned (.bool (p i)) ∧ Below W'.heap.size W' W2) (hl : n ≤ 1099511627776)
    (hr : R = (decide ((n : Int) ≤ lim) && (List.range n).all p)) :
    Calls Tryd.prog 29 #[.slice pp n cap, .int .i64 lim, .func (.func F) #[] #[]] W fun e W' => e = .returned (.bool R) ∧ Below W.heap.size W W' := by
  have hcall := hF
  unfold Enters at hcall
  have HV := Lib.hid hv
  have HZ := Lib.hid hz
  have H1 := Lib.hid h1
  have HCL := Lib.hid hcl
  have HF : Hid (∀ i, i < n → p i = false → R = false) := Lib.hid (fun i hi hp => by
    rw [hr]
    have : (List.range n).all p = false := by
      rw [← Bool.not_eq_true, List.all_eq_true]
      intro k
      have := k i (List.mem_range.2 hi)
      rw [hp] at this; cases this
    rw [this, Bool.and_false])
  have HT : Hid ((n : Int) ≤ lim → (∀ j, j < n → p j = true) → R = true) := Lib.hid (fun hn hp => by
    rw [hr, decide_eq_true hn, Bool.true_and, List.all_eq_true]
    exact fun i hi => hp i (List.mem_range.1 hi))
  have HN : Hid (¬(n : Int) ≤ lim → R = false) := Lib.hid (fun hn => by rw [hr, decide_eq_false hn]; rfl)
  clear hv hz hcl h1 hr hF
  by_cases hn : (n : Int) ≤ lim
  case neg =>
    have hR := HN.out hn
    subst hR
    have v0 : (n : Int) > lim := by omega
    go_enter Tryd.func29, Tryd.ntmps29
    go_wp2
    go_ret
    exact ⟨rfl, Below.refl _ _⟩
  have v0 : ¬(n : Int) > lim := by omega
  have HLIM := Lib.hid hn
  clear hn
  go_enter Tryd.func29, Tryd.ntmps29
  go_wp2
  clear v0
  go_loopw [15] (fun vi wr => ∃ i : Nat, i ≤ n ∧ vi = .int .i64 (i : Int) ∧ Hid (Below W.heap.size W wr) ∧ Hid (∀ j, j < i → p j = true)) (fun vi _ => n - (intOf vi).toNat)
  case atStart => exact ⟨0, Nat.zero_le _, rfl, Lib.hid (Below.refl _ _), Lib.hid (fun j hj => absurd hj (Nat.not_lt_zero _))⟩
  case round =>
    obtain ⟨i, hi, rfl, HB, HA⟩ := hrel
    by_cases hlt : i < n
    · obtain ⟨g, o, hp, hg, hr⟩ := HV.out i hlt
      subst hp
      have HR := Lib.hid (Dk.rangeAt_block hr (HB.out.block g hg))
      have HI := Lib.hid (us_size.trans (congrArg some (HZ.out i hlt).symm))
      have HIA : Hid ((Tryd.prog.info? 43).map (·.size) = some (ps i).toArray.size) := Lib.hid HI.out
      have HO := Lib.hid (all_oneCell_toArray (H1.out i hlt))
      have HP := Lib.hid (put_new wr #[.string ⟨#[]⟩, .string ⟨#[]⟩, .int .i64 0] 43 (ps i) (HZ.out i hlt).symm)
      have HT1 := Lib.hid HP.out.1
      have HP2 := Lib.hid HP.out.2
      have HCI := Lib.hid (fun W' hb => HCL.out i hlt W' (chain2 HB.out hb))
      have HFI := Lib.hid (HF.out i hlt)
      have z0 : (0 : Int) ≤ (i : Int) := by omega
      have z1 : (i : Int) < (n : Int) := by omega
      clear hr HP HCL
      generalize ps i = pc at HR HI HIA HO HT1 HP2 HCI
      cases hq : p i with
      | false =>
        rw [hq] at HCI
        have hR := HFI.out hq
        subst hR
        clear hq HA HT
        go_wp2_with (first
          | (refine wpList_load_mid rfl 43 (.tmp 17) rfl g (o + i * 3) rfl pc _ HR.out Tryd.underlying43 rfl HI.out ?_)
          | (refine wpList_store_mid rfl 43 (.tmp 8) (.tmp 18) rfl wr.heap.size 0 pc.toArray rfl rfl HT1.out HIA.out HO.out ?_; generalize World.setCells _ _ _ _ = W8 at HP2 ⊢)
          | (refine wpList_load_mid rfl 43 (.tmp 8) rfl wr.heap.size 0 rfl pc _ HP2.out.cells Tryd.underlying43 rfl HI.out ?_)
          | (refine (HCI.out _ HP2.out.below).mono ?_; rintro e W2 ⟨rfl, hb2⟩))
        go_ret
        exact ⟨rfl, chain2 (chain2 HB.out HP2.out.below) hb2⟩
      | true =>
        rw [hq] at HCI
        have HA2 : Hid (∀ j, j < i + 1 → p j = true) := Lib.hid (fun j hj => by
          rcases Nat.lt_succ_iff_lt_or_eq.1 hj with h1 | rfl
          · exact HA.out j h1
          · exact hq)
        clear hq HA HFI
        go_wp2_with (first
          | (refine wpList_load_mid rfl 43 (.tmp 17) rfl g (o + i * 3) rfl pc _ HR.out Tryd.underlying43 rfl HI.out ?_)
          | (refine wpList_store_mid rfl 43 (.tmp 8) (.tmp 18) rfl wr.heap.size 0 pc.toArray rfl rfl HT1.out HIA.out HO.out ?_; generalize World.setCells _ _ _ _ = W8 at HP2 ⊢)
          | (refine wpList_load_mid rfl 43 (.tmp 8) rfl wr.heap.size 0 rfl pc _ HP2.out.cells Tryd.underlying43 rfl HI.out ?_)
          | (refine (HCI.out _ HP2.out.below).mono ?_; rintro e W2 ⟨rfl, hb2⟩))
        go_roundw
        case rel => exact ⟨i + 1, by omega, by go_num, Lib.hid (chain2 (chain2 HB.out HP2.out.below) hb2), HA2⟩
        case measure => simp [intOf]; omega
    · obtain rfl : i = n := by omega
      have hR := HT.out HLIM.out HA.out
      subst hR
      clear HA
      go_wp2
      go_ret
      exact ⟨rfl, HB.out⟩

theorem pr_size : (Tryd.prog.info? 38).map (·.size) = some 6 := by kernel_rfl
set_option maxHeartbeats 1000000 in
set_option maxRecDepth 100000 in
theorem alls_pr {n : Nat} (ps : Nat → List Value) (p : Nat → Bool) (R : Bool) (lim : Int) (pp : Option Addr) (cap : Nat) (F : FuncId) (hF : Enters F) (W : World) (hv : ∀ i, i < n → ∃ g o, pp = some ⟨g, o, none⟩ ∧ g < W.heap.size ∧ W.rangeAt g (o + i * 6) (ps i)) (hz : ∀ i, i < n → (ps i).length = 6)
    (h1 : ∀ i, i < n → ∀ u ∈ ps i, u.oneCell' = true) (hcl : ∀ i, i < n → ∀ W', Below W.heap.size W W' → Calls Tryd.prog F #[.agg (ps i).toArray] W' fun e W2 => e = .returned (.bool (p i)) ∧ Below W'.heap.size W' W2) (hl : n ≤ 1099511627776)
    (hr : R = (decide ((n : Int) ≤ lim) && (List.range n).all p)) :
    Calls Tryd.prog 31 #[.slice pp n cap, .int .i64 lim, .func (.func F) #[] #[]] W fun e W' => e = .returned (.bool R) ∧ Below W.heap.size W W' := by
  have hcall := hF
  unfold Enters at hcall
  have HV := Lib.hid hv
  have HZ := Lib.hid hz
  have H1 := Lib.hid h1
  have HCL := Lib.hid hcl
  have HF : Hid (∀ i, i < n → p i = false → R = false) := Lib.hid (fun i hi hp => by
    rw [hr]
    have : (List.range n).all p = false := by
      rw [← Bool.not_eq_true, List.all_eq_true]
      intro k
      have := k i (List.mem_range.2 hi)
      rw [hp] at this; cases this
    rw [this, Bool.and_false])
  have HT : Hid ((n : Int) ≤ lim → (∀ j, j < n → p j = true) → R = true) := Lib.hid (fun hn hp => by
    rw [hr, decide_eq_true hn, Bool.true_and, List.all_eq_true]
    exact fun i hi => hp i (List.mem_range.1 hi))
  have HN : Hid (¬(n : Int) ≤ lim → R = false) := Lib.hid (fun hn => by rw [hr, decide_eq_false hn]; rfl)
  clear hv hz hcl h1 hr hF
  by_cases hn : (n : Int) ≤ lim
  case neg =>
    have hR := HN.out hn
    subst hR
    have v0 : (n : Int) > lim := by omega
    go_enter Tryd.func31, Tryd.ntmps31
    go_wp2
    go_ret
    exact ⟨rfl, Below.refl _ _⟩
  have v0 : ¬(n : Int) > lim := by omega
  have HLIM := Lib.hid hn
  clear hn
  go_enter Tryd.func31, Tryd.ntmps31
  go_wp2
  clear v0
  go_loopw [15] (fun vi wr => ∃ i : Nat, i ≤ n ∧ vi = .int .i64 (i : Int) ∧ Hid (Below W.heap.size W wr) ∧ Hid (∀ j, j < i → p j = true)) (fun vi _ => n - (intOf vi).toNat)
  case atStart => exact ⟨0, Nat.zero_le _, rfl, Lib.hid (Below.refl _ _), Lib.hid (fun j hj => absurd hj (Nat.not_lt_zero _))⟩
  case round =>
    obtain ⟨i, hi, rfl, HB, HA⟩ := hrel
    by_cases hlt : i < n
    · obtain ⟨g, o, hp, hg, hr⟩ := HV.out i hlt
      subst hp
      have HR := Lib.hid (Dk.rangeAt_block hr (HB.out.block g hg))
      have HI := Lib.hid (pr_size.trans (congrArg some (HZ.out i hlt).symm))
      have HIA : Hid ((Tryd.prog.info? 38).map (·.size) = some (ps i).toArray.size) := Lib.hid HI.out
      have HO := Lib.hid (all_oneCell_toArray (H1.out i hlt))
      have HP := Lib.hid (put_new wr #[.string ⟨#[]⟩, .int .i64 0, .int .i64 0, .slice none 0 0, .slice none 0 0, .slice none 0 0] 38 (ps i) (HZ.out i hlt).symm)
      have HT1 := Lib.hid HP.out.1
      have HP2 := Lib.hid HP.out.2
      have HCI := Lib.hid (fun W' hb => HCL.out i hlt W' (chain2 HB.out hb))
      have HFI := Lib.hid (HF.out i hlt)
      have z0 : (0 : Int) ≤ (i : Int) := by omega
      have z1 : (i : Int) < (n : Int) := by omega
      clear hr HP HCL
      generalize ps i = pc at HR HI HIA HO HT1 HP2 HCI
      cases hq : p i with
      | false =>
        rw [hq] at HCI
        have hR := HFI.out hq
        subst hR
        clear hq HA HT
        go_wp2_with (first
          | (refine wpList_load_mid rfl 38 (.tmp 17) rfl g (o + i * 6) rfl pc _ HR.out Tryd.underlying38 rfl HI.out ?_)
          | (refine wpList_store_mid rfl 38 (.tmp 8) (.tmp 18) rfl wr.heap.size 0 pc.toArray rfl rfl HT1.out HIA.out HO.out ?_; generalize World.setCells _ _ _ _ = W8 at HP2 ⊢)
          | (refine wpList_load_mid rfl 38 (.tmp 8) rfl wr.heap.size 0 rfl pc _ HP2.out.cells Tryd.underlying38 rfl HI.out ?_)
          | (refine (HCI.out _ HP2.out.below).mono ?_; rintro e W2 ⟨rfl, hb2⟩))
        go_ret
        exact ⟨rfl, chain2 (chain2 HB.out HP2.out.below) hb2⟩
      | true =>
        rw [hq] at HCI
        have HA2 : Hid (∀ j, j < i + 1 → p j = true) := Lib.hid (fun j hj => by
          rcases Nat.lt_succ_iff_lt_or_eq.1 hj with h1 | rfl
          · exact HA.out j h1
          · exact hq)
        clear hq HA HFI
        go_wp2_with (first
          | (refine wpList_load_mid rfl 38 (.tmp 17) rfl g (o + i * 6) rfl pc _ HR.out Tryd.underlying38 rfl HI.out ?_)
          | (refine wpList_store_mid rfl 38 (.tmp 8) (.tmp 18) rfl wr.heap.size 0 pc.toArray rfl rfl HT1.out HIA.out HO.out ?_; generalize World.setCells _ _ _ _ = W8 at HP2 ⊢)
          | (refine wpList_load_mid rfl 38 (.tmp 8) rfl wr.heap.size 0 rfl pc _ HP2.out.cells Tryd.underlying38 rfl HI.out ?_)
          | (refine (HCI.out _ HP2.out.below).mono ?_; rintro e W2 ⟨rfl, hb2⟩))
        go_roundw
        case rel => exact ⟨i + 1, by omega, by go_num, Lib.hid (chain2 (chain2 HB.out HP2.out.below) hb2), HA2⟩
        case measure => simp [intOf]; omega
    · obtain rfl : i = n := by omega
      have hR := HT.out HLIM.out HA.out
      subst hR
      clear HA
      go_wp2
      go_ret
      exact ⟨rfl, HB.out⟩

theorem cp_size : (Tryd.prog.info? 83).map (·.size) = some 2 := by kernel_rfl
set_option maxHeartbeats 1000000 in
set_option maxRecDepth 100000 in
theorem alls_cp {n : Nat} (ps : Nat → List Value) (p : Nat → Bool) (R : Bool) (lim : Int) (pp : Option Addr) (cap : Nat) (F : FuncId) (hF : Enters F) (W : World) (hv : ∀ i, i < n → ∃ g o, pp = some ⟨g, o, none⟩ ∧ g < W.heap.size ∧ W.rangeAt g (o + i * 2) (ps i)) (hz : ∀ i, i < n → (ps i).length = 2)
    (h1 : ∀ i, i < n → ∀ u ∈ ps i, u.oneCell' = true) (hcl : ∀ i, i < n → ∀ W', Below W.heap.size W W' → Calls Tryd.prog F #[.agg (ps i).toArray] W' fun e W2 => e = .returned (.bool (p i)) ∧ Below W'.heap.size W' W2) (hl : n ≤ 1099511627776)
    (hr : R = (decide ((n : Int) ≤ lim) && (List.range n).all p)) :
    Calls Tryd.prog 63 #[.slice pp n cap, .int .i64 lim, .func (.func F) #[] #[]] W fun e W' => e = .returned (.bool R) ∧ Below W.heap.size W W' := by
  have hcall := hF
  unfold Enters at hcall
  have HV := Lib.hid hv
  have HZ := Lib.hid hz
  have H1 := Lib.hid h1
  have HCL := Lib.hid hcl
  have HF : Hid (∀ i, i < n → p i = false → R = false) := Lib.hid (fun i hi hp => by
    rw [hr]
    have : (List.range n).all p = false := by
      rw [← Bool.not_eq_true, List.all_eq_true]
      intro k
      have := k i (List.mem_range.2 hi)
      rw [hp] at this; cases this
    rw [this, Bool.and_false])
  have HT : Hid ((n : Int) ≤ lim → (∀ j, j < n → p j = true) → R = true) := Lib.hid (fun hn hp => by
    rw [hr, decide_eq_true hn, Bool.true_and, List.all_eq_true]
    exact fun i hi => hp i (List.mem_range.1 hi))
  have HN : Hid (¬(n : Int) ≤ lim → R = false) := Lib.hid (fun hn => by rw [hr, decide_eq_false hn]; rfl)
  clear hv hz hcl h1 hr hF
  by_cases hn : (n : Int) ≤ lim
  case neg =>
    have hR := HN.out hn
    subst hR
    have v0 : (n : Int) > lim := by omega
    go_enter Tryd.func63, Tryd.ntmps63
    go_wp2
    go_ret
    exact ⟨rfl, Below.refl _ _⟩
  have v0 : ¬(n : Int) > lim := by omega
  have HLIM := Lib.hid hn
  clear hn
  go_enter Tryd.func63, Tryd.ntmps63
  go_wp2
  clear v0
  go_loopw [15] (fun vi wr => ∃ i : Nat, i ≤ n ∧ vi = .int .i64 (i : Int) ∧ Hid (Below W.heap.size W wr) ∧ Hid (∀ j, j < i → p j = true)) (fun vi _ => n - (intOf vi).toNat)
  case atStart => exact ⟨0, Nat.zero_le _, rfl, Lib.hid (Below.refl _ _), Lib.hid (fun j hj => absurd hj (Nat.not_lt_zero _))⟩
  case round =>
    obtain ⟨i, hi, rfl, HB, HA⟩ := hrel
    by_cases hlt : i < n
    · obtain ⟨g, o, hp, hg, hr⟩ := HV.out i hlt
      subst hp
      have HR := Lib.hid (Dk.rangeAt_block hr (HB.out.block g hg))
      have HI := Lib.hid (cp_size.trans (congrArg some (HZ.out i hlt).symm))
      have HIA : Hid ((Tryd.prog.info? 83).map (·.size) = some (ps i).toArray.size) := Lib.hid HI.out
      have HO := Lib.hid (all_oneCell_toArray (H1.out i hlt))
      have HP := Lib.hid (put_new wr #[.bool false, .int .i64 0] 83 (ps i) (HZ.out i hlt).symm)
      have HT1 := Lib.hid HP.out.1
      have HP2 := Lib.hid HP.out.2
      have HCI := Lib.hid (fun W' hb => HCL.out i hlt W' (chain2 HB.out hb))
      have HFI := Lib.hid (HF.out i hlt)
      have z0 : (0 : Int) ≤ (i : Int) := by omega
      have z1 : (i : Int) < (n : Int) := by omega
      clear hr HP HCL
      generalize ps i = pc at HR HI HIA HO HT1 HP2 HCI
      cases hq : p i with
      | false =>
        rw [hq] at HCI
        have hR := HFI.out hq
        subst hR
        clear hq HA HT
        go_wp2_with (first
          | (refine wpList_load_mid rfl 83 (.tmp 17) rfl g (o + i * 2) rfl pc _ HR.out Tryd.underlying83 rfl HI.out ?_)
          | (refine wpList_store_mid rfl 83 (.tmp 8) (.tmp 18) rfl wr.heap.size 0 pc.toArray rfl rfl HT1.out HIA.out HO.out ?_; generalize World.setCells _ _ _ _ = W8 at HP2 ⊢)
          | (refine wpList_load_mid rfl 83 (.tmp 8) rfl wr.heap.size 0 rfl pc _ HP2.out.cells Tryd.underlying83 rfl HI.out ?_)
          | (refine (HCI.out _ HP2.out.below).mono ?_; rintro e W2 ⟨rfl, hb2⟩))
        go_ret
        exact ⟨rfl, chain2 (chain2 HB.out HP2.out.below) hb2⟩
      | true =>
        rw [hq] at HCI
        have HA2 : Hid (∀ j, j < i + 1 → p j = true) := Lib.hid (fun j hj => by
          rcases Nat.lt_succ_iff_lt_or_eq.1 hj with h1 | rfl
          · exact HA.out j h1
          · exact hq)
        clear hq HA HFI
        go_wp2_with (first
          | (refine wpList_load_mid rfl 83 (.tmp 17) rfl g (o + i * 2) rfl pc _ HR.out Tryd.underlying83 rfl HI.out ?_)
          | (refine wpList_store_mid rfl 83 (.tmp 8) (.tmp 18) rfl wr.heap.size 0 pc.toArray rfl rfl HT1.out HIA.out HO.out ?_; generalize World.setCells _ _ _ _ = W8 at HP2 ⊢)
          | (refine wpList_load_mid rfl 83 (.tmp 8) rfl wr.heap.size 0 rfl pc _ HP2.out.cells Tryd.underlying83 rfl HI.out ?_)
          | (refine (HCI.out _ HP2.out.below).mono ?_; rintro e W2 ⟨rfl, hb2⟩))
        go_roundw
        case rel => exact ⟨i + 1, by omega, by go_num, Lib.hid (chain2 (chain2 HB.out HP2.out.below) hb2), HA2⟩
        case measure => simp [intOf]; omega
    · obtain rfl : i = n := by omega
      have hR := HT.out HLIM.out HA.out
      subst hR
      clear HA
      go_wp2
      go_ret
      exact ⟨rfl, HB.out⟩

theorem vl_size : (Tryd.prog.info? 45).map (·.size) = some 3 := by kernel_rfl
set_option maxHeartbeats 1000000 in
set_option maxRecDepth 100000 in
theorem alls_vl {n : Nat} (ps : Nat → List Value) (p : Nat → Bool) (R : Bool) (lim : Int) (pp : Option Addr) (cap : Nat) (F : FuncId) (hF : Enters F) (W : World) (hv : ∀ i, i < n → ∃ g o, pp = some ⟨g, o, none⟩ ∧ g < W.heap.size ∧ W.rangeAt g (o + i * 3) (ps i)) (hz : ∀ i, i < n → (ps i).length = 3)
    (h1 : ∀ i, i < n → ∀ u ∈ ps i, u.oneCell' = true) (hcl : ∀ i, i < n → ∀ W', Below W.heap.size W W' → Calls Tryd.prog F #[.agg (ps i).toArray] W' fun e W2 => e = .returned (.bool (p i)) ∧ Below W'.heap.size W' W2) (hl : n ≤ 1099511627776)
    (hr : R = (decide ((n : Int) ≤ lim) && (List.range n).all p)) :
    Calls Tryd.prog 59 #[.slice pp n cap, .int .i64 lim, .func (.func F) #[] #[]] W fun e W' => e = .returned (.bool R) ∧ Below W.heap.size W W' := by
  have hcall := hF
  unfold Enters at hcall
  have HV := Lib.hid hv
  have HZ := Lib.hid hz
  have H1 := Lib.hid h1
  have HCL := Lib.hid hcl
  have HF : Hid (∀ i, i < n → p i = false → R = false) := Lib.hid (fun i hi hp => by
    rw [hr]
    have : (List.range n).all p = false := by
      rw [← Bool.not_eq_true, List.all_eq_true]
      intro k
      have := k i (List.mem_range.2 hi)
      rw [hp] at this; cases this
    rw [this, Bool.and_false])
  have HT : Hid ((n : Int) ≤ lim → (∀ j, j < n → p j = true) → R = true) := Lib.hid (fun hn hp => by
    rw [hr, decide_eq_true hn, Bool.true_and, List.all_eq_true]
    exact fun i hi => hp i (List.mem_range.1 hi))
  have HN : Hid (¬(n : Int) ≤ lim → R = false) := Lib.hid (fun hn => by rw [hr, decide_eq_false hn]; rfl)
  clear hv hz hcl h1 hr hF
  by_cases hn : (n : Int) ≤ lim
  case neg =>
    have hR := HN.out hn
    subst hR
    have v0 : (n : Int) > lim := by omega
    go_enter Tryd.func59, Tryd.ntmps59
    go_wp2
    go_ret
    exact ⟨rfl, Below.refl _ _⟩
  have v0 : ¬(n : Int) > lim := by omega
  have HLIM := Lib.hid hn
  clear hn
  go_enter Tryd.func59, Tryd.ntmps59
  go_wp2
  clear v0
  go_loopw [15] (fun vi wr => ∃ i : Nat, i ≤ n ∧ vi = .int .i64 (i : Int) ∧ Hid (Below W.heap.size W wr) ∧ Hid (∀ j, j < i → p j = true)) (fun vi _ => n - (intOf vi).toNat)
  case atStart => exact ⟨0, Nat.zero_le _, rfl, Lib.hid (Below.refl _ _), Lib.hid (fun j hj => absurd hj (Nat.not_lt_zero _))⟩
  case round =>
    obtain ⟨i, hi, rfl, HB, HA⟩ := hrel
    by_cases hlt : i < n
    · obtain ⟨g, o, hp, hg, hr⟩ := HV.out i hlt
      subst hp
      have HR := Lib.hid (Dk.rangeAt_block hr (HB.out.block g hg))
      have HI := Lib.hid (vl_size.trans (congrArg some (HZ.out i hlt).symm))
      have HIA : Hid ((Tryd.prog.info? 45).map (·.size) = some (ps i).toArray.size) := Lib.hid HI.out
      have HO := Lib.hid (all_oneCell_toArray (H1.out i hlt))
      have HP := Lib.hid (put_new wr #[.int .i64 0, .int .i64 0, .string ⟨#[]⟩] 45 (ps i) (HZ.out i hlt).symm)
      have HT1 := Lib.hid HP.out.1
      have HP2 := Lib.hid HP.out.2
      have HCI := Lib.hid (fun W' hb => HCL.out i hlt W' (chain2 HB.out hb))
      have HFI := Lib.hid (HF.out i hlt)
      have z0 : (0 : Int) ≤ (i : Int) := by omega
      have z1 : (i : Int) < (n : Int) := by omega
      clear hr HP HCL
      generalize ps i = pc at HR HI HIA HO HT1 HP2 HCI
      cases hq : p i with
      | false =>
        rw [hq] at HCI
        have hR := HFI.out hq
        subst hR
        clear hq HA HT
        go_wp2_with (first
          | (refine wpList_load_mid rfl 45 (.tmp 17) rfl g (o + i * 3) rfl pc _ HR.out Tryd.underlying45 rfl HI.out ?_)
          | (refine wpList_store_mid rfl 45 (.tmp 8) (.tmp 18) rfl wr.heap.size 0 pc.toArray rfl rfl HT1.out HIA.out HO.out ?_; generalize World.setCells _ _ _ _ = W8 at HP2 ⊢)
          | (refine wpList_load_mid rfl 45 (.tmp 8) rfl wr.heap.size 0 rfl pc _ HP2.out.cells Tryd.underlying45 rfl HI.out ?_)
          | (refine (HCI.out _ HP2.out.below).mono ?_; rintro e W2 ⟨rfl, hb2⟩))
        go_ret
        exact ⟨rfl, chain2 (chain2 HB.out HP2.out.below) hb2⟩
      | true =>
        rw [hq] at HCI
        have HA2 : Hid (∀ j, j < i + 1 → p j = true) := Lib.hid (fun j hj => by
          rcases Nat.lt_succ_iff_lt_or_eq.1 hj with h1 | rfl
          · exact HA.out j h1
          · exact hq)
        clear hq HA HFI
        go_wp2_with (first
          | (refine wpList_load_mid rfl 45 (.tmp 17) rfl g (o + i * 3) rfl pc _ HR.out Tryd.underlying45 rfl HI.out ?_)
          | (refine wpList_store_mid rfl 45 (.tmp 8) (.tmp 18) rfl wr.heap.size 0 pc.toArray rfl rfl HT1.out HIA.out HO.out ?_; generalize World.setCells _ _ _ _ = W8 at HP2 ⊢)
          | (refine wpList_load_mid rfl 45 (.tmp 8) rfl wr.heap.size 0 rfl pc _ HP2.out.cells Tryd.underlying45 rfl HI.out ?_)
          | (refine (HCI.out _ HP2.out.below).mono ?_; rintro e W2 ⟨rfl, hb2⟩))
        go_roundw
        case rel => exact ⟨i + 1, by omega, by go_num, Lib.hid (chain2 (chain2 HB.out HP2.out.below) hb2), HA2⟩
        case measure => simp [intOf]; omega
    · obtain rfl : i = n := by omega
      have hR := HT.out HLIM.out HA.out
      subst hR
      clear HA
      go_wp2
      go_ret
      exact ⟨rfl, HB.out⟩

theorem ix_size : (Tryd.prog.info? 89).map (·.size) = some 4 := by kernel_rfl
set_option maxHeartbeats 1000000 in
set_option maxRecDepth 100000 in
theorem alls_ix {n : Nat} (ps : Nat → List Value) (p : Nat → Bool) (R : Bool) (lim : Int) (pp : Option Addr) (cap : Nat) (F : FuncId) (hF : Enters F) (W : World) (hv : ∀ i, i < n → ∃ g o, pp = some ⟨g, o, none⟩ ∧ g < W.heap.size ∧ W.rangeAt g (o + i * 4) (ps i)) (hz : ∀ i, i < n → (ps i).length = 4)
    (h1 : ∀ i, i < n → ∀ u ∈ ps i, u.oneCell' = true) (hcl : ∀ i, i < n → ∀ W', Below W.heap.size W W' → Calls Tryd.prog F #[.agg (ps i).toArray] W' fun e W2 => e = .returned (.bool (p i)) ∧ Below W'.heap.size W' W2) (hl : n ≤ 1099511627776)
    (hr : R = (decide ((n : Int) ≤ lim) && (List.range n).all p)) :
    Calls Tryd.prog 61 #[.slice pp n cap, .int .i64 lim, .func (.func F) #[] #[]] W fun e W' => e = .returned (.bool R) ∧ Below W.heap.size W W' := by
  have hcall := hF
  unfold Enters at hcall
  have HV := Lib.hid hv
  have HZ := Lib.hid hz
  have H1 := Lib.hid h1
  have HCL := Lib.hid hcl
  have HF : Hid (∀ i, i < n → p i = false → R = false) := Lib.hid (fun i hi hp => by
    rw [hr]
    have : (List.range n).all p = false := by
      rw [← Bool.not_eq_true, List.all_eq_true]
      intro k
      have := k i (List.mem_range.2 hi)
      rw [hp] at this; cases this
    rw [this, Bool.and_false])
  have HT : Hid ((n : Int) ≤ lim → (∀ j, j < n → p j = true) → R = true) := Lib.hid (fun hn hp => by
    rw [hr, decide_eq_true hn, Bool.true_and, List.all_eq_true]
    exact fun i hi => hp i (List.mem_range.1 hi))
  have HN : Hid (¬(n : Int) ≤ lim → R = false) := Lib.hid (fun hn => by rw [hr, decide_eq_false hn]; rfl)
  clear hv hz hcl h1 hr hF
  by_cases hn : (n : Int) ≤ lim
  case neg =>
    have hR := HN.out hn
    subst hR
    have v0 : (n : Int) > lim := by omega
    go_enter Tryd.func61, Tryd.ntmps61
    go_wp2
    go_ret
    exact ⟨rfl, Below.refl _ _⟩
  have v0 : ¬(n : Int) > lim := by omega
  have HLIM := Lib.hid hn
  clear hn
  go_enter Tryd.func61, Tryd.ntmps61
  go_wp2
  clear v0
  go_loopw [15] (fun vi wr => ∃ i : Nat, i ≤ n ∧ vi = .int .i64 (i : Int) ∧ Hid (Below W.heap.size W wr) ∧ Hid (∀ j, j < i → p j = true)) (fun vi _ => n - (intOf vi).toNat)
  case atStart => exact ⟨0, Nat.zero_le _, rfl, Lib.hid (Below.refl _ _), Lib.hid (fun j hj => absurd hj (Nat.not_lt_zero _))⟩
  case round =>
    obtain ⟨i, hi, rfl, HB, HA⟩ := hrel
    by_cases hlt : i < n
    · obtain ⟨g, o, hp, hg, hr⟩ := HV.out i hlt
      subst hp
      have HR := Lib.hid (Dk.rangeAt_block hr (HB.out.block g hg))
      have HI := Lib.hid (ix_size.trans (congrArg some (HZ.out i hlt).symm))
      have HIA : Hid ((Tryd.prog.info? 89).map (·.size) = some (ps i).toArray.size) := Lib.hid HI.out
      have HO := Lib.hid (all_oneCell_toArray (H1.out i hlt))
      have HP := Lib.hid (put_new wr #[.int .i64 0, .int .i64 0, .int .i64 0, .int .i64 0] 89 (ps i) (HZ.out i hlt).symm)
      have HT1 := Lib.hid HP.out.1
      have HP2 := Lib.hid HP.out.2
      have HCI := Lib.hid (fun W' hb => HCL.out i hlt W' (chain2 HB.out hb))
      have HFI := Lib.hid (HF.out i hlt)
      have z0 : (0 : Int) ≤ (i : Int) := by omega
      have z1 : (i : Int) < (n : Int) := by omega
      clear hr HP HCL
      generalize ps i = pc at HR HI HIA HO HT1 HP2 HCI
      cases hq : p i with
      | false =>
        rw [hq] at HCI
        have hR := HFI.out hq
        subst hR
        clear hq HA HT
        go_wp2_with (first
          | (refine wpList_load_mid rfl 89 (.tmp 17) rfl g (o + i * 4) rfl pc _ HR.out Tryd.underlying89 rfl HI.out ?_)
          | (refine wpList_store_mid rfl 89 (.tmp 8) (.tmp 18) rfl wr.heap.size 0 pc.toArray rfl rfl HT1.out HIA.out HO.out ?_; generalize World.setCells _ _ _ _ = W8 at HP2 ⊢)
          | (refine wpList_load_mid rfl 89 (.tmp 8) rfl wr.heap.size 0 rfl pc _ HP2.out.cells Tryd.underlying89 rfl HI.out ?_)
          | (refine (HCI.out _ HP2.out.below).mono ?_; rintro e W2 ⟨rfl, hb2⟩))
        go_ret
        exact ⟨rfl, chain2 (chain2 HB.out HP2.out.below) hb2⟩
      | true =>
        rw [hq] at HCI
        have HA2 : Hid (∀ j, j < i + 1 → p j = true) := Lib.hid (fun j hj => by
          rcases Nat.lt_succ_iff_lt_or_eq.1 hj with h1 | rfl
          · exact HA.out j h1
          · exact hq)
        clear hq HA HFI
        go_wp2_with (first
          | (refine wpList_load_mid rfl 89 (.tmp 17) rfl g (o + i * 4) rfl pc _ HR.out Tryd.underlying89 rfl HI.out ?_)
          | (refine wpList_store_mid rfl 89 (.tmp 8) (.tmp 18) rfl wr.heap.size 0 pc.toArray rfl rfl HT1.out HIA.out HO.out ?_; generalize World.setCells _ _ _ _ = W8 at HP2 ⊢)
          | (refine wpList_load_mid rfl 89 (.tmp 8) rfl wr.heap.size 0 rfl pc _ HP2.out.cells Tryd.underlying89 rfl HI.out ?_)
          | (refine (HCI.out _ HP2.out.below).mono ?_; rintro e W2 ⟨rfl, hb2⟩))
        go_roundw
        case rel => exact ⟨i + 1, by omega, by go_num, Lib.hid (chain2 (chain2 HB.out HP2.out.below) hb2), HA2⟩
        case measure => simp [intOf]; omega
    · obtain rfl : i = n := by omega
      have hR := HT.out HLIM.out HA.out
      subst hR
      clear HA
      go_wp2
      go_ret
      exact ⟨rfl, HB.out⟩

end Go.Proofs.YtmloljfnnkfkjaaDoor.Im

