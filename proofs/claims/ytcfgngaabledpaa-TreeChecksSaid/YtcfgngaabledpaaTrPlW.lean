/- The walk of the law TreePlaces. No condition but those that each states. -/
import Derived.Test.YtcfgngaabledpaaTrL
namespace Go.Proofs.Ytcfgngaabledpaa.Tr
open Go.RowKit Dk Lx

theorem kidsZ_le (ts : List Nd) (i : Int) : (kidsZ (kidsOf ts) i).length ≤ ts.length := by
  rcases endI_cases (kidsOf ts) i with h | ⟨a, m, rfl, h, h1, h2, h3⟩
  · rw [kidsZ_none (by rw [h]; decide)]; exact Nat.zero_le _
  · obtain ⟨k, hk, hk0, hF, -⟩ := endW_node h
    rw [kidsZ_some h hk, posZ_len]
    have := (endW_le _ _ _ hF).1
    have h5 := (endW_le _ _ _ hF).2
    rw [List.length_drop, kidsOf_len] at h5
    omega
theorem subL_le (ts : List Nd) (i : Int) : (subL ts i).length ≤ ts.length := by
  unfold subL
  split
  · split
    · exact Nat.zero_le _
    · rw [List.length_take, List.length_drop]; omega
  · exact Nat.zero_le _

/-- A row of its own, whatever it holds, of so many nodes. -/
def RowAny (w W : World) (v : Value) (m : Nat) : Prop := ∃ cs, W.ownsRow w.heap.size 36 5 v m cs ∧ Below w.heap.size w W

set_option maxHeartbeats 2000000 in
set_option maxRecDepth 100000 in
theorem places_main (ts : List Nd) (v : Value) (i : Int) (w : World) (h : Nds w v ts) :
    Calls Try.prog 4 #[v, .int .i64 i] w fun e w' => e = .returned (.bool true) ∧ Below w.heap.size w w' := by
  have HNd := Lib.hid h
  have L1 := Lib.hid (light_any ts _ w h)
  have KN := Lib.hid (fun W => known9 W)
  clear h
  go_enter Try.func4, Try.ntmps4
  go_wp2_with fail
  refine L1.out.mono ?_
  rintro e w1 ⟨⟨b1, rfl, h1⟩, rfl⟩
  cases b1 with
  | false =>
    clear h1 L1
    go_wp2_with fail
    refine (KN.out _).mono ?_
    rintro e w3 ⟨rfl, hb3⟩
    have HB3 := Lib.hid hb3
    clear hb3
    go_wp2
    go_ret
    exact ⟨rfl, HB3.out⟩
  | true =>
    have hl := (h1 rfl).1
    clear h1 L1
    have S1 : Hid (∀ W, Below w.heap.size w W → Calls Try.prog 13 #[v, .int .i64 i] W fun e w' => ∃ u, e = .returned u ∧ NR W w' u (subL ts i)) := Lib.hid (fun W hb => sub_any ts v i W (HNd.out.later hb) (by omega))
    have S2 : Hid (∀ W, Below w.heap.size w W → Calls Try.prog 20 #[v, .int .i64 i] W fun e w' => ∃ u, e = .returned u ∧ NR W w' u (subL ts i)) := Lib.hid (fun W hb => rsub_any ts v i W (HNd.out.later hb) (by omega))
    have E1 : Hid (∀ W, Below w.heap.size w W → Calls Try.prog 14 #[v, .int .i64 i] W fun e w' => e = .returned (.int .i64 (endI (kidsOf ts) i)) ∧ W = w') := Lib.hid (fun W hb => end_any ts v i W (HNd.out.later hb) (by omega))
    have E2 : Hid (∀ W, Below w.heap.size w W → Calls Try.prog 15 #[v, .int .i64 i] W fun e w' => e = .returned (.int .i64 (endI (kidsOf ts) i)) ∧ W = w') := Lib.hid (fun W hb => rend_any ts v i W (HNd.out.later hb) (by omega))
    have K1 : Hid (∀ W, Below w.heap.size w W → Calls Try.prog 17 #[v, .int .i64 i] W fun e w' => ∃ u, e = .returned u ∧ IR W w' u (kidsZ (kidsOf ts) i)) := Lib.hid (fun W hb => kids_any ts v i W (HNd.out.later hb) (by omega))
    have K2 : Hid (∀ W, Below w.heap.size w W → Calls Try.prog 18 #[v, .int .i64 i] W fun e w' => ∃ u, e = .returned u ∧ IR W w' u (kidsZ (kidsOf ts) i)) := Lib.hid (fun W hb => rkids_any ts v i W (HNd.out.later hb) (by omega))
    have D1 : Hid (∀ W, Below w.heap.size w W → Calls Try.prog 21 #[v] W fun e w' => e = .returned (.int .i64 (depI (kidsOf ts))) ∧ Below W.heap.size W w') := Lib.hid (fun W hb => depth_any ts v W (HNd.out.later hb) (by omega))
    have D2 : Hid (∀ W, Below w.heap.size w W → Calls Try.prog 22 #[v] W fun e w' => e = .returned (.int .i64 (depI (kidsOf ts))) ∧ Below W.heap.size W w') := Lib.hid (fun W hb => rdepth_any ts v W (HNd.out.later hb) (by omega))
    have hZ := kidsZ_le ts i
    have hS := subL_le ts i
    have HFT := Lib.hid (subL_fit (ts := ts) (i := i) HNd.out.fit)
    generalize endI (kidsOf ts) i = E at *
    generalize kidsZ (kidsOf ts) i = Z at *
    generalize subL ts i = S at *
    generalize depI (kidsOf ts) = D at *
    have IZ := Lib.hid (fun W a b ha hb => ints_any Z a b W ha hb (by omega))
    have SS : Hid (∀ W a b, Nds W a S → Nds W b S → Calls Try.prog 19 #[a, b] W fun e w' => e = .returned (.bool true) ∧ Below W.heap.size W w') := Lib.hid (fun W a b ha hb => by
      have := rsame_any S S a b W ha hb (by omega) (by omega)
      rwa [decide_eq_true rfl] at this)
    have y1 : (E == E) = true := by simp
    have y2 : (D == D) = true := by simp
    obtain ⟨sl, hsl⟩ : ∃ sl, sl = S.length := ⟨_, rfl⟩
    have hsl4 : sl ≤ 2100 := by omega
    have HSL := Lib.hid hsl
    clear hZ hS hl hsl HNd
    go_wp2_with fail
    refine (S1.out _ (Below.refl _ _)).mono ?_
    rintro e w2 ⟨v2, rfl, hr2⟩
    have HX2 := Lib.hid (hr2.nds HFT.out)
    have HR2 : Hid (RowAny w w2 v2 sl) := Lib.hid ⟨_, by rw [HSL.out]; exact hr2.row, hr2.below⟩
    obtain ⟨p2, c2, rfl, hp2a, hp2b⟩ := own_form0 hr2.row
    rw [← HSL.out] at HX2 HR2 hp2a ⊢
    have HB2 := Lib.hid hr2.below
    clear hr2
    go_wp2_with fail
    refine (E1.out _ HB2.out).mono ?_
    rintro e w3 ⟨rfl, rfl⟩
    go_wp2_with fail
    refine (E2.out _ HB2.out).mono ?_
    rintro e w3 ⟨rfl, rfl⟩
    go_wp2_with fail
    refine (K1.out _ HB2.out).mono ?_
    rintro e w3 ⟨v3, rfl, hr3⟩
    have HI3 := Lib.hid hr3.ins
    have HC3 := Lib.hid hr3.below
    have HB3 := Lib.hid (chain2 HB2.out hr3.below)
    clear hr3
    go_wp2_with fail
    refine (K2.out _ HB3.out).mono ?_
    rintro e w4 ⟨v4, rfl, hr4⟩
    have HI4 := Lib.hid hr4.ins
    have HI4' := Lib.hid (HI3.out.later hr4.below)
    have HC4 := Lib.hid (chain2 HC3.out hr4.below)
    have HB4 := Lib.hid (chain2 HB3.out hr4.below)
    clear hr4 HI3 HC3 HB3
    go_wp2_with fail
    refine (IZ.out _ _ _ HI4'.out HI4.out).mono ?_
    rintro e w5 ⟨rfl, hb5⟩
    have HC5 := Lib.hid (chain2 HC4.out hb5)
    have HB5 := Lib.hid (chain2 HB4.out hb5)
    clear hb5 HI4 HI4' HC4 HB4
    go_wp2_with fail
    refine (S2.out _ HB5.out).mono ?_
    rintro e w6 ⟨v6, rfl, hr6⟩
    have HX6 := Lib.hid (hr6.nds HFT.out)
    have HC6 := Lib.hid (chain2 HC5.out hr6.below)
    have HB6 := Lib.hid (chain2 HB5.out hr6.below)
    clear hr6 HC5 HB5
    go_wp2_with fail
    refine (SS.out _ _ _ (HX2.out.later HC6.out) HX6.out).mono ?_
    rintro e w7 ⟨rfl, hb7⟩
    have HC7 := Lib.hid (chain2 HC6.out hb7)
    have HB7 := Lib.hid (chain2 HB6.out hb7)
    clear hb7 HC6 HB6 HX2 HX6
    go_wp2_with fail
    refine (D1.out _ HB7.out).mono ?_
    rintro e w8 ⟨rfl, hb8⟩
    have HC8 := Lib.hid (chain2 HC7.out hb8)
    have HB8 := Lib.hid (chain2 HB7.out hb8)
    clear hb8 HC7 HB7
    go_wp2_with fail
    refine (D2.out _ HB8.out).mono ?_
    rintro e w9 ⟨rfl, hb9⟩
    have HC9 := Lib.hid (chain2 HC8.out hb9)
    have HB9 := Lib.hid (chain2 HB8.out hb9)
    have HR9 : Hid (RowAny w w9 (.slice p2 sl c2) sl) := Lib.hid (by
      obtain ⟨cs, hr, -⟩ := HR2.out
      exact ⟨cs, ownsRow_block hr (fun b hb' => HC9.out.block b (own_lo hr b hb').2), HB9.out⟩)
    clear hb9 HC8 HB8 HR2 HC9 HB2 HB9
    go_wp2_with fail
    go_loopw [7] (fun vk wr => ∃ k : Nat, k ≤ sl ∧ vk = .int .i64 (k : Int) ∧ Hid (RowAny w wr (.slice p2 sl c2) sl)) (fun vk _ => sl - (intOf vk).toNat)
    case atStart => exact ⟨0, Nat.zero_le _, rfl, HR9⟩
    case round =>
      clear HR9
      obtain ⟨k, hk, rfl, hR⟩ := hrel
      by_cases hlt : k < sl
      · obtain ⟨g, rfl⟩ : ∃ g, p2 = some (⟨g, 0, none⟩ : Addr) := by
          cases p2 with
          | none => have := hp2a rfl; omega
          | some a =>
            obtain ⟨g, s, o⟩ := a
            obtain ⟨rfl, rfl⟩ := hp2b _ _ _ rfl
            exact ⟨g, rfl⟩
        obtain ⟨cs, hr, hb⟩ := hR.out
        have hcl := hr.1
        obtain ⟨x, hx⟩ : ∃ x, cs[k * 5]? = some x := ⟨_, List.getElem?_eq_getElem (by rw [hcl]; omega)⟩
        have cl : wr.cell? ⟨g, k * 5, none⟩ = some x := by rw [hr.cellAt _ (by omega), hx]
        have fl : wr.frozen? ⟨g, k * 5, none⟩ = false := hr.frozenAt _
        have HR2 : Hid (RowAny w (wr.setCell ⟨g, k * 5, none⟩ (.int .i64 99)) (.slice (some ⟨g, 0, none⟩) sl c2) sl) := Lib.hid (by
          obtain ⟨q1, q2⟩ := hr.stored (k * 5) (.int .i64 99)
          exact ⟨_, q1, below_grown q2 hb (fun b hb' => by cases hb'; exact (own_lo hr g rfl).1) hb.size (Nat.le_refl _)⟩)
        have z0 : (0 : Int) ≤ (k : Int) := by omega
        have z1 : (k : Int) < (sl : Int) := by omega
        clear hR hr hb hx hcl hp2a hp2b
        go_wp2
        go_roundw
        case rel => exact ⟨k + 1, by omega, by go_num, HR2⟩
        case measure => simp [intOf]; omega
      · obtain rfl : k = sl := by omega
        have HB10 : Hid (Below w.heap.size w wr) := Lib.hid (by obtain ⟨_, _, hb⟩ := hR.out; exact hb)
        clear hR hp2a hp2b
        go_wp2_with fail
        refine (S1.out _ HB10.out).mono ?_
        rintro e w6 ⟨v6, rfl, hr6⟩
        have HX6 := Lib.hid (hr6.nds HFT.out)
        have HB6 := Lib.hid (chain2 HB10.out hr6.below)
        clear hr6
        go_wp2_with fail
        refine (S2.out _ HB6.out).mono ?_
        rintro e w7 ⟨v7, rfl, hr7⟩
        have HX7 := Lib.hid (hr7.nds HFT.out)
        have HX6' := Lib.hid (HX6.out.later hr7.below)
        have HB7 := Lib.hid (chain2 HB6.out hr7.below)
        clear hr7 HX6
        go_wp2_with fail
        refine (SS.out _ _ _ HX6'.out HX7.out).mono ?_
        rintro e w8 ⟨rfl, hb8⟩
        have HB8 := Lib.hid (chain2 HB7.out hb8)
        clear hb8 HX6' HX7
        go_wp2_with fail
        refine (KN.out _).mono ?_
        rintro e w9 ⟨rfl, hb9⟩
        have HB9 := Lib.hid (chain2 HB8.out hb9)
        clear hb9
        go_wp2
        go_ret
        exact ⟨rfl, HB9.out⟩

theorem treePlaces_law {H : Type} {enc : TypeId × Value → H} {w : World} {b0 : Nat} {v : Value} {d : DataW H} {p : List MemPlace}
    (hv : Value.okWide Try.prog w .any b0 22 v) (h : DataW.Trod enc Try.prog w 0 (fun _ => true) true 22 v d p) (i : Int) (_wi : (Lit.int .i64 i).wf = true) :
    Calls Try.prog 4 #[v, .int .i64 i] w fun e w' => e = .returned (.bool true) ∧ Below w.heap.size w w' := by
  obtain ⟨ts, ht⟩ := open_nds hv h
  exact places_main ts v i w ht

end Go.Proofs.Ytcfgngaabledpaa.Tr
