/- The walk of the document's End: its contract. No condition but those that each states. -/
import Derived.Test.YtcfgngaabledpaaTrA
namespace Go.Proofs.Ytcfgngaabledpaa.Tr
open Go.RowKit Dk Lx

set_option maxHeartbeats 1000000 in
theorem rend_nat (ts : List Nd) (p : Option Addr) (n c k : Nat) (w : World) (hn : n = ts.length) (h : Nds w (.slice p n c) ts) (hl : n ≤ 2100) :
    Calls Try.prog 15 #[.slice p n c, .int .i64 (k : Int)] w fun e w' => e = .returned (.int .i64 (endI (kidsOf ts) (k : Int))) ∧ w = w' := by
  have HL := Lib.hid hl
  have HN := Lib.hid hn
  have HND : Hid (∀ i (hi : i < ts.length), ∃ g o, p = some ⟨g, o, none⟩ ∧ w.cell? ⟨g, o + i * 5 + 1, none⟩ = some (.int .i64 ts[i].kids)) := Lib.hid (fun i hi => by
    obtain ⟨g, o, hp, -, -, h1, -⟩ := h.node i hi
    exact ⟨g, o, hp, h1⟩)
  have H0 : Hid (endW 1 ((kidsOf ts).drop k) = (endW 1 ((kidsOf ts).drop k)).map (k - k + ·)) := Lib.hid (by cases endW 1 ((kidsOf ts).drop k) <;> simp)
  have z0 : ¬(k : Int) < 0 := by omega
  clear h hn hl
  go_enter Try.func15, Try.ntmps15
  go_wp2
  clear z0
  go_loopw [5, 6] (fun vm va wr => ∃ m a : Nat, vm = .int .i64 (m : Int) ∧ va = .int .i64 (a : Int) ∧ wr = w ∧ k ≤ a ∧ 1 ≤ m ∧ m ≤ 1 + 2100 * a ∧ Hid (endW 1 ((kidsOf ts).drop k) = (endW m ((kidsOf ts).drop a)).map (a - k + ·))) (fun _ va _ => n - (intOf va).toNat)
  case atStart => exact ⟨1, k, rfl, rfl, rfl, Nat.le_refl _, Nat.le_refl _, by omega, H0⟩
  case round =>
    clear H0
    obtain ⟨m, a, rfl, rfl, rfl, hka, hm1, hmn, hE⟩ := hrel
    have hl := HL.out
    by_cases hlt : a < n
    · have hi : a < ts.length := by rw [← HN.out]; exact hlt
      obtain ⟨g, o, rfl, c1⟩ := HND.out a hi
      have hd : (kidsOf ts).drop a = ts[a].kids :: (kidsOf ts).drop (a + 1) := by
        rw [List.drop_eq_getElem_cons (by rw [kidsOf_len]; exact hi)]; simp [kidsOf]
      have hdl : ((kidsOf ts).drop (a + 1)).length = n - (a + 1) := by rw [List.length_drop, kidsOf_len, HN.out]
      obtain ⟨q, rfl⟩ : ∃ q, m = q + 1 := ⟨m - 1, by omega⟩
      have z0 : (0 : Int) ≤ (a : Int) := by omega
      have z1 : (a : Int) < (n : Int) := by omega
      have e1 : IntKind.i64.wrap (((q + 1 : Nat) : Int) - 1) = (q : Int) := by rw [wrap_in _ (by omega)]; omega
      have hE' := hE.out
      rw [hd, endW_cons] at hE'
      generalize ts[a].kids = kd at *
      by_cases hneg : kd < 0
      · have HR : Hid (endI (kidsOf ts) (k : Int) = -1) := Lib.hid (endI_none (by rw [hE', if_pos hneg]; rfl))
        clear hE hE' hd hdl hi HND
        go_wp2
        go_ret
        exact ⟨by rw [HR.out]; rfl, rfl⟩
      · rw [if_neg hneg] at hE'
        by_cases hbig : kd > (n : Int)
        · have HR : Hid (endI (kidsOf ts) (k : Int) = -1) := Lib.hid (endI_none (by
            rw [hE']
            cases he : endW (q + kd.toNat) ((kidsOf ts).drop (a + 1)) with
            | none => rfl
            | some x => have := endW_le _ _ _ he; omega))
          clear hE hE' hd hdl hi HND
          go_wp2
          go_ret
          exact ⟨by rw [HR.out]; rfl, rfl⟩
        · have hk0 : 0 ≤ kd := by omega
          have hk1 : kd ≤ (n : Int) := by omega
          have e5 : IntKind.i64.wrap ((q : Int) + kd) = (q : Int) + kd := wrap_in _ (by omega)
          by_cases hz : (q : Int) + kd = 0
          · have HR : Hid (endI (kidsOf ts) (k : Int) = (a : Int) + 1) := Lib.hid (by
              rw [show q + kd.toNat = 0 by omega, endW_zero] at hE'
              rw [endI_some (n := a - k + 1) hE']
              omega)
            have e6 : ((q : Int) + kd == 0) = true := by simpa using hz
            clear hE hE' hd hdl hi HND hz
            go_wp2
            go_ret
            exact ⟨by rw [HR.out]; rfl, rfl⟩
          · obtain ⟨m', hm'⟩ : ∃ m' : Nat, (q : Int) + kd = (m' : Int) := ⟨((q : Int) + kd).toNat, by omega⟩
            have HR : Hid (endW 1 ((kidsOf ts).drop k) = (endW m' ((kidsOf ts).drop (a + 1))).map (a + 1 - k + ·)) := Lib.hid (by
              rw [hE', show q + kd.toNat = m' by omega]
              cases endW m' ((kidsOf ts).drop (a + 1)) with
              | none => rfl
              | some x => simp; omega)
            have e6 : ((q : Int) + kd == 0) = false := by simpa using hz
            have hb : 1 ≤ m' ∧ m' ≤ 1 + 2100 * (a + 1) := by omega
            have HM := Lib.hid hm'
            clear hE hE' hd hdl hi HND hz hm'
            go_wp2
            go_roundw
            case rel => exact ⟨m', a + 1, by rw [HM.out], by go_num, by trivial, by omega, hb.1, hb.2, HR⟩
            case measure => simp [intOf]; omega
    · have HR : Hid (endI (kidsOf ts) (k : Int) = -1) := Lib.hid (endI_none (by
        rw [hE.out, List.drop_eq_nil_of_le (by rw [kidsOf_len, ← HN.out]; omega)]
        obtain ⟨q, rfl⟩ : ∃ q, m = q + 1 := ⟨m - 1, by omega⟩
        rfl))
      have z1 : ¬(a : Int) < (n : Int) := by omega
      clear hE HND
      go_wp2
      go_ret
      exact ⟨by rw [HR.out]; rfl, rfl⟩

set_option maxHeartbeats 400000 in
theorem rend_neg (v : Value) (i : Int) (ks : List Int) (w : World) (hi : i < 0) :
    Calls Try.prog 15 #[v, .int .i64 i] w fun e w' => e = .returned (.int .i64 (endI ks i)) ∧ w = w' := by
  have HR := Lib.hid (endI_neg (ks := ks) hi)
  go_enter Try.func15, Try.ntmps15
  go_wp2
  go_ret
  exact ⟨by rw [HR.out]; rfl, rfl⟩

theorem rend_any (ts : List Nd) (v : Value) (i : Int) (w : World) (h : Nds w v ts) (hl : ts.length ≤ 2100) :
    Calls Try.prog 15 #[v, .int .i64 i] w fun e w' => e = .returned (.int .i64 (endI (kidsOf ts) i)) ∧ w = w' := by
  by_cases hi : i < 0
  · exact rend_neg v i _ w hi
  · obtain ⟨p, c, rfl, -⟩ := id h
    obtain ⟨k, rfl⟩ : ∃ k : Nat, i = (k : Int) := ⟨i.toNat, by omega⟩
    exact rend_nat ts p _ c k w rfl h hl

end Go.Proofs.Ytcfgngaabledpaa.Tr
