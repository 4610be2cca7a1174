/- The walk of tree.End: its contract. The walk of the document's End: its contract. Rows of ints: those that a call owns, and those that lie somewhere. Facts on builtin calls. A region that draws its order, whose first operations leave memory alone, walked step by step behind a name that is not unfolded: operations that their guard passes over go by one lemma. The walk of lex.Quote: its contract. The walk of chrysalislaw08.known: its contract. Plain facts on the scanner: a text in quotes, a word by itself. Plain facts on the scanner: tokens one by one, joined texts, texts that were written. Plain facts on the scanner: what is written of tokens has the same tokens. Rows of tokens as they are read, and the walk of chrysalisref08.Same where the rows are alike. No condition but those that each states. -/
import Derived.Test.YtemlceicmpcboaaGreatDoorMgA
import Derived.IntWalk
import Derived.WalkSmall
import Derived.StillTailTactics
import Derived.Test.YtemlceicmpcboaaGreatDoorMgB
namespace Go.Proofs.YtemlceicmpcboaaGreatDoor.Tr
open Go.RowKit Dk Lx

theorem wrap_in (x : Int) (h : -9223372036854775808 ≤ x ∧ x ≤ 9223372036854775807) : IntKind.i64.wrap x = x := IntWalk.i64_in _ (by omega)

set_option maxHeartbeats 1000000 in
theorem end_nat (ts : List Nd) (p : Option Addr) (n c k : Nat) (w : World) (hn : n = ts.length) (h : Nds w (.slice p n c) ts) (hl : n ≤ 2 ^ 40) :
    Calls Tryz.prog 48 #[.slice p n c, .int .i64 (k : Int)] w fun e w' => e = .returned (.int .i64 (endI (kidsOf ts) (k : Int))) ∧ w = w' := by
  have HL := Lib.hid hl
  have HN := Lib.hid hn
  have HND : Hid (∀ i (hi : i < ts.length), ∃ g o, p = some ⟨g, o, none⟩ ∧ w.cell? ⟨g, o + i * 5 + 1, none⟩ = some (.int .i64 ts[i].kids)) := Lib.hid (fun i hi => by
    obtain ⟨g, o, hp, -, -, h1, -⟩ := h.node i hi
    exact ⟨g, o, hp, h1⟩)
  have H0 : Hid (endW 1 ((kidsOf ts).drop k) = (endW 1 ((kidsOf ts).drop k)).map (k - k + ·)) := Lib.hid (by cases endW 1 ((kidsOf ts).drop k) <;> simp)
  have z0 : ¬(k : Int) < 0 := by omega
  clear h hn hl
  go_enter Tryz.func48, Tryz.ntmps48
  go_wp2
  clear z0
  go_loopw [5, 6] (fun vm va wr => ∃ m a : Nat, vm = .int .i64 (m : Int) ∧ va = .int .i64 (a : Int) ∧ wr = w ∧ k ≤ a ∧ 1 ≤ m ∧ (m = 1 ∨ m + a ≤ n) ∧ Hid (endW 1 ((kidsOf ts).drop k) = (endW m ((kidsOf ts).drop a)).map (a - k + ·))) (fun _ va _ => n - (intOf va).toNat)
  case atStart => exact ⟨1, k, rfl, rfl, rfl, Nat.le_refl _, Nat.le_refl _, .inl rfl, H0⟩
  case round =>
    clear H0
    obtain ⟨m, a, rfl, rfl, rfl, hka, hm1, hmn, hE⟩ := hrel
    have hl := HL.out
    by_cases hlt : a < n
    · have hi : a < ts.length := by rw [← HN.out]; exact hlt
      obtain ⟨g, o, rfl, c1⟩ := HND.out a hi
      have hd : (kidsOf ts).drop a = ts[a].kids :: (kidsOf ts).drop (a + 1) := by
        rw [List.drop_eq_getElem_cons (by rw [kidsOf_len]; exact hi)]; simp [kidsOf]
      have hdl : ((kidsOf ts).drop (a + 1)).length = n - (a + 1) := by rw [List.length_drop, kidsOf_len, HN.out]
      obtain ⟨q, rfl⟩ : ∃ q, m = q + 1 := ⟨m - 1, by omega⟩
      have z0 : (0 : Int) ≤ (a : Int) := by omega
      have z1 : (a : Int) < (n : Int) := by omega
      have e1 : IntKind.i64.wrap (((q + 1 : Nat) : Int) - 1) = (q : Int) := by rw [wrap_in _ (by omega)]; omega
      have e2 : IntKind.i64.wrap ((n : Int) - (a : Int)) = (n : Int) - (a : Int) := wrap_in _ (by omega)
      have e3 : IntKind.i64.wrap ((n : Int) - (a : Int) - 1) = (n : Int) - (a : Int) - 1 := wrap_in _ (by omega)
      have e4 : IntKind.i64.wrap ((n : Int) - (a : Int) - 1 - (q : Int)) = (n : Int) - (a : Int) - 1 - (q : Int) := wrap_in _ (by omega)
      have hE' := hE.out
      rw [hd, endW_cons] at hE'
      generalize ts[a].kids = kd at *
      have hr1 : ∀ x : Int, x = -1 ∨ True := fun _ => .inr trivial
      by_cases hneg : kd < 0
      · have HR : Hid (endI (kidsOf ts) (k : Int) = -1) := Lib.hid (endI_none (by rw [hE', if_pos hneg]; rfl))
        clear hE hE' hd hdl hi HND hr1
        go_wp2
        go_ret
        exact ⟨by rw [HR.out]; rfl, rfl⟩
      · rw [if_neg hneg] at hE'
        by_cases hbig : kd > (n : Int) - (a : Int) - 1 - (q : Int)
        · have HR : Hid (endI (kidsOf ts) (k : Int) = -1) := Lib.hid (endI_none (by
            rw [hE']
            cases he : endW (q + kd.toNat) ((kidsOf ts).drop (a + 1)) with
            | none => rfl
            | some x => have := endW_le _ _ _ he; omega))
          clear hE hE' hd hdl hi HND hr1
          go_wp2
          go_ret
          exact ⟨by rw [HR.out]; rfl, rfl⟩
        · have hk0 : 0 ≤ kd := by omega
          have hk1 : kd ≤ (n : Int) - (a : Int) - 1 - (q : Int) := by omega
          have e5 : IntKind.i64.wrap ((q : Int) + kd) = (q : Int) + kd := wrap_in _ (by omega)
          by_cases hz : (q : Int) + kd = 0
          · have HR : Hid (endI (kidsOf ts) (k : Int) = (a : Int) + 1) := Lib.hid (by
              rw [show q + kd.toNat = 0 by omega, endW_zero] at hE'
              rw [endI_some (n := a - k + 1) hE']
              omega)
            have e6 : ((q : Int) + kd == 0) = true := by simpa using hz
            clear hE hE' hd hdl hi HND hr1 hz
            go_wp2
            go_ret
            exact ⟨by rw [HR.out]; rfl, rfl⟩
          · obtain ⟨m', hm'⟩ : ∃ m' : Nat, (q : Int) + kd = (m' : Int) := ⟨((q : Int) + kd).toNat, by omega⟩
            have HR : Hid (endW 1 ((kidsOf ts).drop k) = (endW m' ((kidsOf ts).drop (a + 1))).map (a + 1 - k + ·)) := Lib.hid (by
              rw [hE', show q + kd.toNat = m' by omega]
              cases endW m' ((kidsOf ts).drop (a + 1)) with
              | none => rfl
              | some x => simp; omega)
            have e6 : ((q : Int) + kd == 0) = false := by simpa using hz
            have hb : 1 ≤ m' ∧ m' + (a + 1) ≤ n := by omega
            have HM := Lib.hid hm'
            clear hE hE' hd hdl hi HND hr1 hz hm'
            go_wp2
            go_roundw
            case rel => exact ⟨m', a + 1, by rw [HM.out], by go_num, by trivial, by omega, hb.1, .inr hb.2, HR⟩
            case measure => simp [intOf]; omega
    · have HR : Hid (endI (kidsOf ts) (k : Int) = -1) := Lib.hid (endI_none (by
        rw [hE.out, List.drop_eq_nil_of_le (by rw [kidsOf_len, ← HN.out]; omega)]
        obtain ⟨q, rfl⟩ : ∃ q, m = q + 1 := ⟨m - 1, by omega⟩
        rfl))
      have z1 : ¬(a : Int) < (n : Int) := by omega
      clear hE HND
      go_wp2
      go_ret
      exact ⟨by rw [HR.out]; rfl, rfl⟩

set_option maxHeartbeats 400000 in
theorem end_neg (v : Value) (i : Int) (ks : List Int) (w : World) (hi : i < 0) :
    Calls Tryz.prog 48 #[v, .int .i64 i] w fun e w' => e = .returned (.int .i64 (endI ks i)) ∧ w = w' := by
  have HR := Lib.hid (endI_neg (ks := ks) hi)
  go_enter Tryz.func48, Tryz.ntmps48
  go_wp2
  go_ret
  exact ⟨by rw [HR.out]; rfl, rfl⟩

theorem end_any (ts : List Nd) (v : Value) (i : Int) (w : World) (h : Nds w v ts) (hl : ts.length ≤ 2 ^ 40) :
    Calls Tryz.prog 48 #[v, .int .i64 i] w fun e w' => e = .returned (.int .i64 (endI (kidsOf ts) i)) ∧ w = w' := by
  by_cases hi : i < 0
  · exact end_neg v i _ w hi
  · obtain ⟨p, c, rfl, -⟩ := id h
    obtain ⟨k, rfl⟩ : ∃ k : Nat, i = (k : Int) := ⟨i.toNat, by omega⟩
    exact end_nat ts p _ c k w rfl h hl

end Go.Proofs.YtemlceicmpcboaaGreatDoor.Tr
namespace Go.Proofs.YtemlceicmpcboaaGreatDoor.Tr
open Go.RowKit Dk Lx

set_option maxHeartbeats 1000000 in
theorem rend_nat (ts : List Nd) (p : Option Addr) (n c k : Nat) (w : World) (hn : n = ts.length) (h : Nds w (.slice p n c) ts) (hl : n ≤ 4000) :
    Calls Tryz.prog 63 #[.slice p n c, .int .i64 (k : Int)] w fun e w' => e = .returned (.int .i64 (endI (kidsOf ts) (k : Int))) ∧ w = w' := by
  have HL := Lib.hid hl
  have HN := Lib.hid hn
  have HND : Hid (∀ i (hi : i < ts.length), ∃ g o, p = some ⟨g, o, none⟩ ∧ w.cell? ⟨g, o + i * 5 + 1, none⟩ = some (.int .i64 ts[i].kids)) := Lib.hid (fun i hi => by
    obtain ⟨g, o, hp, -, -, h1, -⟩ := h.node i hi
    exact ⟨g, o, hp, h1⟩)
  have H0 : Hid (endW 1 ((kidsOf ts).drop k) = (endW 1 ((kidsOf ts).drop k)).map (k - k + ·)) := Lib.hid (by cases endW 1 ((kidsOf ts).drop k) <;> simp)
  have z0 : ¬(k : Int) < 0 := by omega
  clear h hn hl
  go_enter Tryz.func63, Tryz.ntmps63
  go_wp2
  clear z0
  go_loopw [5, 6] (fun vm va wr => ∃ m a : Nat, vm = .int .i64 (m : Int) ∧ va = .int .i64 (a : Int) ∧ wr = w ∧ k ≤ a ∧ 1 ≤ m ∧ m ≤ 1 + 4000 * a ∧ Hid (endW 1 ((kidsOf ts).drop k) = (endW m ((kidsOf ts).drop a)).map (a - k + ·))) (fun _ va _ => n - (intOf va).toNat)
  case atStart => exact ⟨1, k, rfl, rfl, rfl, Nat.le_refl _, Nat.le_refl _, by omega, H0⟩
  case round =>
    clear H0
    obtain ⟨m, a, rfl, rfl, rfl, hka, hm1, hmn, hE⟩ := hrel
    have hl := HL.out
    by_cases hlt : a < n
    · have hi : a < ts.length := by rw [← HN.out]; exact hlt
      obtain ⟨g, o, rfl, c1⟩ := HND.out a hi
      have hd : (kidsOf ts).drop a = ts[a].kids :: (kidsOf ts).drop (a + 1) := by
        rw [List.drop_eq_getElem_cons (by rw [kidsOf_len]; exact hi)]; simp [kidsOf]
      have hdl : ((kidsOf ts).drop (a + 1)).length = n - (a + 1) := by rw [List.length_drop, kidsOf_len, HN.out]
      obtain ⟨q, rfl⟩ : ∃ q, m = q + 1 := ⟨m - 1, by omega⟩
      have z0 : (0 : Int) ≤ (a : Int) := by omega
      have z1 : (a : Int) < (n : Int) := by omega
      have e1 : IntKind.i64.wrap (((q + 1 : Nat) : Int) - 1) = (q : Int) := by rw [wrap_in _ (by omega)]; omega
      have hE' := hE.out
      rw [hd, endW_cons] at hE'
      generalize ts[a].kids = kd at *
      by_cases hneg : kd < 0
      · have HR : Hid (endI (kidsOf ts) (k : Int) = -1) := Lib.hid (endI_none (by rw [hE', if_pos hneg]; rfl))
        clear hE hE' hd hdl hi HND
        go_wp2
        go_ret
        exact ⟨by rw [HR.out]; rfl, rfl⟩
      · rw [if_neg hneg] at hE'
        by_cases hbig : kd > (n : Int)
        · have HR : Hid (endI (kidsOf ts) (k : Int) = -1) := Lib.hid (endI_none (by
            rw [hE']
            cases he : endW (q + kd.toNat) ((kidsOf ts).drop (a + 1)) with
            | none => rfl
            | some x => have := endW_le _ _ _ he; omega))
          clear hE hE' hd hdl hi HND
          go_wp2
          go_ret
          exact ⟨by rw [HR.out]; rfl, rfl⟩
        · have hk0 : 0 ≤ kd := by omega
          have hk1 : kd ≤ (n : Int) := by omega
          have e5 : IntKind.i64.wrap ((q : Int) + kd) = (q : Int) + kd := wrap_in _ (by omega)
          by_cases hz : (q : Int) + kd = 0
          · have HR : Hid (endI (kidsOf ts) (k : Int) = (a : Int) + 1) := Lib.hid (by
              rw [show q + kd.toNat = 0 by omega, endW_zero] at hE'
              rw [endI_some (n := a - k + 1) hE']
              omega)
            have e6 : ((q : Int) + kd == 0) = true := by simpa using hz
            clear hE hE' hd hdl hi HND hz
            go_wp2
            go_ret
            exact ⟨by rw [HR.out]; rfl, rfl⟩
          · obtain ⟨m', hm'⟩ : ∃ m' : Nat, (q : Int) + kd = (m' : Int) := ⟨((q : Int) + kd).toNat, by omega⟩
            have HR : Hid (endW 1 ((kidsOf ts).drop k) = (endW m' ((kidsOf ts).drop (a + 1))).map (a + 1 - k + ·)) := Lib.hid (by
              rw [hE', show q + kd.toNat = m' by omega]
              cases endW m' ((kidsOf ts).drop (a + 1)) with
              | none => rfl
              | some x => simp; omega)
            have e6 : ((q : Int) + kd == 0) = false := by simpa using hz
            have hb : 1 ≤ m' ∧ m' ≤ 1 + 4000 * (a + 1) := by omega
            have HM := Lib.hid hm'
            clear hE hE' hd hdl hi HND hz hm'
            go_wp2
            go_roundw
            case rel => exact ⟨m', a + 1, by rw [HM.out], by go_num, by trivial, by omega, hb.1, hb.2, HR⟩
            case measure => simp [intOf]; omega
    · have HR : Hid (endI (kidsOf ts) (k : Int) = -1) := Lib.hid (endI_none (by
        rw [hE.out, List.drop_eq_nil_of_le (by rw [kidsOf_len, ← HN.out]; omega)]
        obtain ⟨q, rfl⟩ : ∃ q, m = q + 1 := ⟨m - 1, by omega⟩
        rfl))
      have z1 : ¬(a : Int) < (n : Int) := by omega
      clear hE HND
      go_wp2
      go_ret
      exact ⟨by rw [HR.out]; rfl, rfl⟩

set_option maxHeartbeats 400000 in
theorem rend_neg (v : Value) (i : Int) (ks : List Int) (w : World) (hi : i < 0) :
    Calls Tryz.prog 63 #[v, .int .i64 i] w fun e w' => e = .returned (.int .i64 (endI ks i)) ∧ w = w' := by
  have HR := Lib.hid (endI_neg (ks := ks) hi)
  go_enter Tryz.func63, Tryz.ntmps63
  go_wp2
  go_ret
  exact ⟨by rw [HR.out]; rfl, rfl⟩

theorem rend_any (ts : List Nd) (v : Value) (i : Int) (w : World) (h : Nds w v ts) (hl : ts.length ≤ 4000) :
    Calls Tryz.prog 63 #[v, .int .i64 i] w fun e w' => e = .returned (.int .i64 (endI (kidsOf ts) i)) ∧ w = w' := by
  by_cases hi : i < 0
  · exact rend_neg v i _ w hi
  · obtain ⟨p, c, rfl, -⟩ := id h
    obtain ⟨k, rfl⟩ : ∃ k : Nat, i = (k : Int) := ⟨i.toNat, by omega⟩
    exact rend_nat ts p _ c k w rfl h hl

end Go.Proofs.YtemlceicmpcboaaGreatDoor.Tr
namespace Go.Proofs.YtemlceicmpcboaaGreatDoor.Tr
open Go.RowKit Dk Lx

def iv (l : List Int) : List Value := l.map fun x => .int .i64 x
theorem iv_app (a b : List Int) : iv (a ++ b) = iv a ++ iv b := by simp [iv]
theorem iv_len (l : List Int) : (iv l).length = l.length := by simp [iv]
theorem iv_one (l : List Int) : ∀ u ∈ iv l, u.oneCell' = true := by
  intro u hu
  simp [iv] at hu
  obtain ⟨b, _, rfl⟩ := hu
  rfl

theorem own_lo {w : World} {base : Nat} {e : TypeId} {size n : Nat} {v : Value} {xs : List Value} (h : w.ownsRow base e size v n xs) : ∀ b, v.ownBlock = some b → base ≤ b ∧ b < w.heap.size := by
  intro b hb
  rcases h.2 with ⟨rfl, _⟩ | ⟨g, cap, cur, rfl, hbg, hg, _⟩
  · cases hb
  · cases hb
    exact ⟨hbg, by
      rcases Nat.lt_or_ge g w.heap.size with h | h
      · exact h
      · rw [Array.getElem?_eq_none h] at hg; cases hg⟩

theorem below_grown {B : Nat} {w w1 W : World} {row : Option Nat} (h : w1.grownBy W row) (hb : Below B w w1) (hr : ∀ k, row = some k → B ≤ k) (_hB : B ≤ w1.heap.size) (ha : B ≤ w.heap.size) : Below B w W :=
  (Only.of_grown (F := fun k => B ≤ k) h hr).below hb (fun _ h => h) ha

/-- A row of its own that holds these ints. -/
structure IR (w w' : World) (v : Value) (l : List Int) : Prop where
  row : w'.ownsRow w.heap.size 3 1 v l.length (iv l)
  below : Below w.heap.size w w'

theorem IR.later {w wr W : World} {v : Value} {l : List Int} (h : IR w wr v l) (hb : Below wr.heap.size wr W) : IR w W v l :=
  ⟨ownsRow_block h.row (fun b hb' => hb.block b (own_lo h.row b hb').2), chain2 h.below hb⟩
theorem IR.first (w : World) : IR w w (.slice none 0 0) [] := ⟨World.ownsRow_nil _ _ _ _, Below.refl _ _⟩

theorem IR.push {w W4 W7 : World} {v : Value} {l : List Int} {x : Int} {g' cap : Nat} {o : Obj} (h : IR w W4 v l) (hrow : W7.ownsRow w.heap.size 3 1 (.slice (some ⟨g', 0, none⟩) (l.length + 1) cap) (l.length + 1) (iv l ++ [.int .i64 x]))
    (hgr : (W4.alloc o).grownBy W7 v.ownBlock) : IR w W7 (.slice (some ⟨g', 0, none⟩) (l.length + 1) cap) (l ++ [x]) := by
  refine ⟨?_, below_grown hgr (h.below.alloc h.below.size o) (fun k hk => (own_lo h.row k hk).1) (by have := h.below.size; simp; omega) (Nat.le_refl _)⟩
  rw [List.length_append, iv_app]
  simpa [iv] using hrow

/-- Its form, where it holds one. -/
theorem own_form {w : World} {base size n : Nat} {e : TypeId} {v : Value} {xs : List Value} (h : w.ownsRow base e size v n xs) (hn : 0 < n) : ∃ g cap, v = .slice (some ⟨g, 0, none⟩) n cap := by
  rcases h.2 with ⟨rfl, h0⟩ | ⟨g, cap, cur, rfl, _⟩
  · omega
  · exact ⟨g, cap, rfl⟩
theorem own_form0 {w : World} {base size n : Nat} {e : TypeId} {v : Value} {xs : List Value} (h : w.ownsRow base e size v n xs) : ∃ p cap, v = .slice p n cap ∧ (p = none → n = 0) ∧ ∀ g s o, p = some ⟨g, s, o⟩ → s = 0 ∧ o = none := by
  rcases h.2 with ⟨rfl, h0⟩ | ⟨g, cap, cur, rfl, _⟩
  · subst h0; exact ⟨none, 0, rfl, fun _ => rfl, fun _ _ _ e => by cases e⟩
  · exact ⟨_, cap, rfl, (fun e => by cases e), fun _ _ _ e => by cases e; exact ⟨rfl, rfl⟩⟩

/-- The last one is put anew. -/
theorem IR.setLast {w W : World} {g c n : Nat} {l : List Int} {x y : Int} (h : IR w W (.slice (some ⟨g, 0, none⟩) n c) (l ++ [x])) : IR w (W.setCell ⟨g, l.length, none⟩ (.int .i64 y)) (.slice (some ⟨g, 0, none⟩) n c) (l ++ [y]) := by
  have hlo := own_lo h.row g rfl
  obtain ⟨p, cap, he, -, -⟩ := own_form0 h.row
  have hn : n = (l ++ [x]).length := by cases he; rfl
  have hrow := h.row
  rw [hn] at hrow ⊢
  obtain ⟨h1, h2⟩ := hrow.stored l.length (.int .i64 y)
  refine ⟨?_, below_grown h2 h.below (fun k hk => by cases hk; exact hlo.1) h.below.size (Nat.le_refl _)⟩
  have e : (iv (l ++ [x])).set l.length (.int .i64 y) = iv (l ++ [y]) := by
    rw [iv_app, iv_app, List.set_append_right _ _ (by rw [iv_len]; exact Nat.le_refl _), iv_len, Nat.sub_self]; rfl
  rw [e] at h1
  simpa using h1

/-- The last one is struck. -/
theorem IR.pop {w W : World} {g c n : Nat} {l : List Int} {x : Int} (h : IR w W (.slice (some ⟨g, 0, none⟩) n c) (l ++ [x])) : IR w W (.slice (some ⟨g, 0, none⟩) l.length c) l := by
  obtain ⟨p, cap, he, -, -⟩ := own_form0 h.row
  have hn : n = (l ++ [x]).length := by cases he; rfl
  have hrow := h.row
  rw [hn, List.length_append, iv_app] at hrow
  exact ⟨ownsRow_pop (by rw [iv_len, Nat.mul_one]) hrow, h.below⟩

theorem IR.last {w W : World} {g c n : Nat} {l : List Int} {x : Int} (h : IR w W (.slice (some ⟨g, 0, none⟩) n c) (l ++ [x])) : n = l.length + 1 ∧ W.cell? ⟨g, l.length, none⟩ = some (.int .i64 x) ∧ W.frozen? ⟨g, l.length, none⟩ = false := by
  obtain ⟨p, cap, he, -, -⟩ := own_form0 h.row
  have hn : n = (l ++ [x]).length := by cases he; rfl
  have hrow := h.row
  rw [hn] at hrow
  refine ⟨by rw [hn, List.length_append]; rfl, ?_, hrow.frozenAt _⟩
  rw [hrow.cellAt _ (by simp), iv_app, List.getElem?_append_right (by rw [iv_len]; exact Nat.le_refl _), iv_len, Nat.sub_self]; rfl

/-- A slice that holds these ints, wherever it lies. -/
def Ins (W : World) (v : Value) (l : List Int) : Prop := ∃ p c, v = .slice p l.length c ∧ l.length ≤ c ∧ (l = [] ∨ ∃ g o, p = some ⟨g, o, none⟩ ∧ g < W.heap.size ∧ W.rangeAt g o (iv l))

theorem Ins.later {W W' : World} {v : Value} {l : List Int} (h : Ins W v l) (hb : Below W.heap.size W W') : Ins W' v l := by
  obtain ⟨p, c, rfl, hc, h | ⟨g, o, rfl, hg, hr⟩⟩ := h
  · exact ⟨p, c, rfl, hc, .inl h⟩
  · exact ⟨_, c, rfl, hc, .inr ⟨g, o, rfl, Nat.lt_of_lt_of_le hg hb.size, rangeAt_block hr (hb.block g hg)⟩⟩

theorem IR.ins {w W : World} {v : Value} {l : List Int} (h : IR w W v l) : Ins W v l := by
  rcases h.row.2 with ⟨hv, h0⟩ | ⟨g, cap, cur, hv, hbg, hg, h3, h4, h5, h6⟩
  · exact ⟨none, 0, by rw [hv, h0], by omega, .inl (List.eq_nil_of_length_eq_zero h0)⟩
  · have hrow := h.row
    rw [hv] at hrow
    refine ⟨_, cap, hv, h3, .inr ⟨g, 0, rfl, ?_, ?_⟩⟩
    · rcases Nat.lt_or_ge g W.heap.size with h | h
      · exact h
      · rw [Array.getElem?_eq_none h] at hg; cases hg
    · exact ownsRow_range hrow

theorem Ins.int {W : World} {p : Option Addr} {m c : Nat} {l : List Int} (h : Ins W (.slice p m c) l) (i : Nat) (hi : i < l.length) : ∃ g o, p = some ⟨g, o, none⟩ ∧ g < W.heap.size ∧ W.cell? ⟨g, o + i, none⟩ = some (.int .i64 l[i]) := by
  obtain ⟨p', c', e, hc, h0 | ⟨g, o, hp, hg, hr⟩⟩ := h
  · subst h0; simp at hi
  · cases e
    exact ⟨g, o, hp, hg, hr i _ (by simp [iv, hi])⟩

theorem int_info3 : (Tryz.prog.info? 3).map (fun i => (i.zero, i.size, i.bytes)) = some (some (.int .i64 0), 1, 8) := by kernel_rfl

end Go.Proofs.YtemlceicmpcboaaGreatDoor.Tr
namespace Go.Proofs.YtemlceicmpcboaaGreatDoor.Dk
open Go.RowKit
theorem eql_slice_nil {P : Program} (t e : TypeId) (a : Option Addr) (l c : Nat) (h : P.underlying t = some (.slice e)) (w : World) : (binOp .eql t (.slice a l c) (.slice none 0 0)).run P w = .ok (.bool a.isNone) w := by
  have h1 : ∀ d, (Op.equalIn (d + 1) t (.slice a l c) (.slice none 0 0)).run P w = .ok a.isNone w := fun d => by
    cases a <;> simp [Op.equalIn, run_underlying h]
  simp only [binOp]
  simp [show Op.equal t (.slice a l c) (.slice none 0 0) = Op.equalIn (9999 + 1) t (.slice a l c) (.slice none 0 0) from rfl, h1 9999]
theorem build_none {P : Program} (t e : TypeId) (z : Value) (size bytes : Nat) (hu : P.underlying t = some (.slice e)) (hinfo : (P.info? e).map (fun i => (i.zero, i.size, i.bytes)) = some (some z, size, bytes)) (_hz : z.cells.size = size) (h0 : 0 < size) (h1 : size ≤ 16777216) (W : World) :
    (Instr.buildSlice t 0 #[]).run P W = .ok (.slice (some ⟨W.heap.size, 0, none⟩) 0 0) (W.alloc (.cells #[] e)) := by
  obtain ⟨i, hi, hz0, hs, hb⟩ := info_parts hinfo
  have hn0 : ¬ size = 0 := by omega
  have hne : ¬ (16777216 < size) := by omega
  simp [Instr.buildSlice, run_underlying hu, sizeOf, typeInfo, hi, Instr.fill, newRow, go_sem]
theorem append_empty {P : Program} {w : World} (base : Nat) (t ty e : TypeId) (i : TypeInfo) (size : Nat) (ht : P.underlying t = some (.slice e)) (hi : P.info? e = some i)
    (v : Value) (n : Nat) (xs : List Value) (hown : w.ownsRow base e size v n xs) (a : Addr) (c : Nat) :
    (Builtin.append_ #[t, t] ty #[v, .slice (some a) 0 c]).run P w = .ok v w := by
  rcases hown.2 with ⟨rfl, rfl⟩ | ⟨g, cap, cur, rfl, _, _, hnc, _⟩
  · simp [Builtin.append_, run_underlying ht, sizeOf, typeInfo, hi, Builtin.lenOf, Builtin.firstCells, loadCells, loadCellsFrom]
  · simp [Builtin.append_, run_underlying ht, sizeOf, typeInfo, hi, Builtin.lenOf, Builtin.firstCells, hnc, storeCells, loadCells, loadCellsFrom]
end Go.Proofs.YtemlceicmpcboaaGreatDoor.Dk
namespace Go.Proofs.YtemlceicmpcboaaGreatDoor

section
variable {P : Program} {ops : Array Oper} {w : World} {Q : Act → Prop} {a : Act} {o : Oper} {rest : List Oper}

/-- The walk's goal, behind a name. -/
structure WS (P : Program) (ops : Array Oper) (w : World) (Q : Act → Prop) (l : List Oper) (a : Act) : Prop where
  out : wpStill P ops w Q l a

theorem ws_nil (h : Q a) : WS P ops w Q [] a := ⟨wpStill_nil h⟩

theorem ws_step (h : ∀ K : Act → Prop, (∀ a, WS P ops w Q rest a → K a) → if Region.wanted o (yielded ops a.tmps) then o.still P a w K else K (a.put o.dst undef)) : WS P ops w Q (o :: rest) a :=
  ⟨wpStill_step fun K hK => h K fun a h => hK a h.out⟩

theorem ws_skip (hw : Region.wanted o (yielded ops a.tmps) = false) (h : WS P ops w Q rest (a.put o.dst undef)) : WS P ops w Q (o :: rest) a :=
  ws_step fun K hK => by rw [if_neg (by rw [hw]; exact Bool.false_ne_true)]; exact hK _ h

theorem ws_want (hw : Region.wanted o (yielded ops a.tmps) = true) (h : ∀ K : Act → Prop, (∀ a, WS P ops w Q rest a → K a) → o.still P a w K) : WS P ops w Q (o :: rest) a :=
  ws_step fun K hK => by rw [if_pos hw]; exact h K hK
end

theorem ws_region_tail {P : Program} {id : Nat} {Q : Exit → Act → World → Prop} {a : Act} {w : World} {l : List Oper} (n : Nat) (hm : P.follows .mixedOrders = true) (hB : Region.lexTailB .any l.toArray n = true)
    (h : WS P l.toArray w.drew (fun a' => wpList P l.toArray Q (l.drop n) a' w.drew) (l.take n) a) : (Code.region id l.toArray true).wp P Q a w :=
  wp_region_still_tail n hm hB h.out

end Go.Proofs.YtemlceicmpcboaaGreatDoor
namespace Go.Proofs.YtemlceicmpcboaaGreatDoor.Lx
open Go.RowKit Dk

theorem own_cells {w : World} {base : Nat} {e : TypeId} {size n : Nat} {v : Value} {xs : List Value} (h : w.ownsRow base e size v n xs) : ∀ b, v.ownBlock = some b → ∃ c f, w.heap[b]? = some (.cells c e f) := by
  intro b hb
  rcases h.2 with ⟨rfl, _⟩ | ⟨g, cap, cur, rfl, hbg, hg, _⟩
  · cases hb
  · cases hb
    exact ⟨_, _, hg⟩

/-- An iterator in block k, beside a row of bytes of the call's own. -/
structure IX (w W : World) (k : Nat) (v : Value) (pre : List UInt8) (t : ByteArray) (i : Nat) : Prop where
  iter : W.heap[k]? = some (.stringIter t i)
  row : W.ownsRow w.heap.size 5 1 v pre.length (bv pre)
  below : Below w.heap.size w W
  lo : w.heap.size ≤ k

theorem IX.ne {w W : World} {k : Nat} {v : Value} {pre : List UInt8} {t : ByteArray} {i : Nat} (h : IX w W k v pre t i) : ∀ b, v.ownBlock = some b → b ≠ k := by
  intro b hb e
  obtain ⟨c, f, hc⟩ := own_cells h.row b hb
  rw [e, h.iter] at hc
  cases hc

theorem IX.next {w W W1 : World} {k : Nat} {v : Value} {pre : List UInt8} {t : ByteArray} {i j : Nat} (h : IX w W k v pre t i) (h1 : W1.heap[k]? = some (.stringIter t j)) (h2 : ∀ B w', B ≤ k → Below B w' W → Below B w' W1) (h3 : ∀ j, j ≠ k → W1.heap[j]? = W.heap[j]?) : IX w W1 k v pre t j :=
  ⟨h1, ownsRow_block h.row (fun b hb' => h3 b (h.ne b hb')), h2 _ _ h.lo h.below, h.lo⟩

theorem IX.grown {w W W1 W' : World} {k : Nat} {v v' : Value} {pre pre' : List UInt8} {t : ByteArray} {i : Nat} (h : IX w W k v pre t i) (hW : Below W.heap.size W W1) (hg : W1.grownBy W' v.ownBlock) (hrow : W'.ownsRow w.heap.size 5 1 v' pre'.length (bv pre')) : IX w W' k v' pre' t i := by
  have ho : Only (fun b => v.ownBlock = some b) W W' := (Only.of_below (F := fun b => v.ownBlock = some b) hW).trans (Only.of_grown (F := fun b => v.ownBlock = some b) hg (fun k hk => hk)) (fun _ _ h => h)
  have hk : k < W.heap.size := by
    rcases Nat.lt_or_ge k W.heap.size with h4 | h4
    · exact h4
    · have := h.iter; rw [Array.getElem?_eq_none h4] at this; cases this
  exact ⟨(ho.block _ hk (fun e => h.ne k e rfl)).trans h.iter, hrow, ho.below h.below (fun b hb => (own_lo h.row b hb).1) (Nat.le_refl _), h.lo⟩

theorem IX.appS {w W W' : World} {k : Nat} {v v' : Value} {pre mid : List UInt8} {t : ByteArray} {i : Nat} (h : IX w W k v pre t i) (hrow : W'.ownsRow w.heap.size 5 1 v' (pre.length + (strOf mid).size) (bv pre ++ Lib.strCells (strOf mid))) (hg : W.grownBy W' v.ownBlock) : IX w W' k v' (pre ++ mid) t i :=
  h.grown (Below.refl _ _) hg (by rw [strOf_size, strCells_bv, ← bv_append, ← List.length_append] at hrow; exact hrow)
theorem IX.app2 {w W W' : World} {k : Nat} {v v' : Value} {pre : List UInt8} {x y : UInt8} {t : ByteArray} {i : Nat} {o : Obj} (h : IX w W k v pre t i) (hrow : W'.ownsRow w.heap.size 5 1 v' (pre.length + 2) (bv pre ++ [.int .u8 (x.toNat : Int), .int .u8 (y.toNat : Int)])) (hg : (W.alloc o).grownBy W' v.ownBlock) : IX w W' k v' (pre ++ [x, y]) t i :=
  h.grown ((Below.refl _ _).alloc (Nat.le_refl _) _) hg (by rw [show [Value.int .u8 (x.toNat : Int), Value.int .u8 (y.toNat : Int)] = bv [x, y] from rfl, ← bv_append] at hrow; rw [List.length_append]; exact hrow)
theorem IX.app1 {w W W' : World} {k : Nat} {v v' : Value} {pre : List UInt8} {x : UInt8} {t : ByteArray} {i : Nat} {o : Obj} (h : IX w W k v pre t i) (hrow : W'.ownsRow w.heap.size 5 1 v' (pre.length + 1) (bv pre ++ [.int .u8 (x.toNat : Int)])) (hg : (W.alloc o).grownBy W' v.ownBlock) : IX w W' k v' (pre ++ [x]) t i :=
  h.grown ((Below.refl _ _).alloc (Nat.le_refl _) _) hg (by rw [show [Value.int .u8 (x.toNat : Int)] = bv [x] from rfl, ← bv_append] at hrow; rw [List.length_append]; exact hrow)

/-! what quoting is -/
theorem esc_len (c : UInt8) : (escL c).length ≤ 2 := by
  unfold escL
  split
  · simp
  · split <;> simp
theorem flat_len : ∀ l : List UInt8, (l.flatMap escL).length ≤ 2 * l.length
  | [] => by simp
  | c :: r => by
    have := flat_len r
    have := esc_len c
    rw [List.flatMap_cons, List.length_append, List.length_cons]; omega
theorem esc_plain {c : UInt8} (h1 : c.toNat ≠ 10) (h2 : c.toNat ≠ 34) (h3 : c.toNat ≠ 92) : escL c = [c] := by unfold escL; rw [if_neg h1, if_neg (by omega)]
theorem flat_plain : ∀ l : List UInt8, (∀ c ∈ l, escL c = [c]) → l.flatMap escL = l
  | [], _ => rfl
  | c :: r, h => by rw [List.flatMap_cons, h c (by simp), flat_plain r (fun x hx => h x (by simp [hx]))]; rfl

section
variable {T : List UInt8} {i n : Nat} {r : Int}
/-- The byte behind the backslash. -/
def escI (r : Int) : UInt8 := if r = 10 then 110 else r.toNat.toUInt8
theorem esc_yes (h : Rune T i r n) (hr : r = 10 ∨ r = 34 ∨ r = 92) : (T.take (i + 1)).flatMap escL = (T.take i).flatMap escL ++ [92, escI r] ∧ n = 1 ∧ escR r = .tuple #[.int .u8 ((escI r).toNat : Int), .bool true] := by
  obtain ⟨c, e, hc, rfl⟩ := h.first (by omega)
  have hcr : r.toNat.toUInt8 = c := by rw [hc]; simp
  have he : escL c = [92, escI r] := by
    unfold escL escI
    by_cases h1 : r = 10
    · rw [if_pos (by omega), if_pos h1]
    · rw [if_neg (by omega), if_pos (by omega), if_neg h1, hcr]
  refine ⟨?_, rfl, ?_⟩
  · have hl := h.lt
    have e2 := List.drop_eq_getElem_cons hl
    rw [e] at e2
    rw [List.take_succ_eq_append_getElem hl, List.flatMap_append, ← (List.cons.inj e2).1, List.flatMap_cons, he]
    rfl
  · unfold escR escI
    rcases hr with rfl | rfl | rfl <;> rfl
theorem esc_not (h : Rune T i r n) (hr : r ≠ 10 ∧ r ≠ 34 ∧ r ≠ 92) : (T.take (i + n)).flatMap escL = (T.take i).flatMap escL ++ (T.drop i).take n ∧ escR r = .tuple #[.int .u8 0, .bool false] := by
  constructor
  · rw [List.take_add, List.flatMap_append]
    congr 1
    apply flat_plain
    intro c hc
    rcases h.is with ⟨d, e, h2, h3, rfl⟩ | ⟨h1, h2⟩
    · rw [e] at hc
      simp at hc
      subst hc
      exact esc_plain (by omega) (by omega) (by omega)
    · have := h2 c hc
      exact esc_plain (by omega) (by omega) (by omega)
  · unfold escR; rw [if_neg hr.1, if_neg (by omega)]
end

set_option maxHeartbeats 4000000 in
set_option maxRecDepth 100000 in
theorem quote_any (T : List UInt8) (w : World) (hs : T.length ≤ 2 ^ 40) :
    Calls Tryz.prog 100 #[.string (strOf T)] w fun e w' => e = .returned (.string (strOf (quoteL T))) ∧ Below w.heap.size w w' := by
  obtain ⟨i0, hi0, hy0, hy1, hy2⟩ := info_parts b_info3
  have hTs := strOf_size T
  have HMID : Hid (∀ (k i : Nat) (W : World), k ≤ i → i ≤ T.length → (Instr.slice 9 (.string (strOf T)) (some (.int .i64 (k : Int))) (some (.int .i64 (i : Int))) none).run Tryz.prog W = .ok (.string (strOf ((T.drop k).take (i - k)))) W) := Lib.hid (fun k i W hk hi => by
    have := run_mid (P := Tryz.prog) (strOf T) k (i - k) (by omega) 9 Tryz.underlying9 W
    rw [show (k : Int) + ((i - k : Nat) : Int) = (i : Int) by omega] at this
    unfold from' at this
    rw [strOf_toList] at this
    exact this)
  go_enter Tryz.func100, Tryz.ntmps100
  go_wp2
  go_loopw [3, 4] (fun vo vk wr => ∃ (i k : Nat) (pre : List UInt8), i ≤ T.length ∧ k ≤ i ∧ vk = .int .i64 (k : Int) ∧ Hid (IX w wr (w.heap.size + 1) vo pre (strOf T) i) ∧ Hid (pre ++ (T.drop k).take (i - k) = 34 :: (T.take i).flatMap escL)) (fun _ _ wr => T.length - wr.iterPos (w.heap.size + 1))
  case atStart =>
    refine ⟨0, 0, [34], Nat.zero_le _, Nat.le_refl _, rfl, ?_, Lib.hid (by simp)⟩
    have hsz : (w.alloc (.cells #[.int .u8 34] 5)).heap.size = w.heap.size + 1 := by simp
    have hit := World.iter_heap (w.alloc (.cells #[.int .u8 34] 5)) (strOf T) 0
    rw [hsz] at hit
    refine Lib.hid ⟨hit, ownsRow_block (World.ownsRow_lit w #[.int .u8 34] 1 (Nat.le_refl _) (by unfold maxLen; omega) rfl) (fun b hb => ?_), below_iter ((Below.refl _ _).alloc (Nat.le_refl _) _) (by simp) _ _, by omega⟩
    cases hb
    exact iter_old _ _ _ w.heap.size (by rw [hsz]; omega)
  case round =>
    obtain ⟨i, k, pre, hi, hk, rfl, hX, hS⟩ := hrel
    by_cases hlt : i < T.length
    · obtain ⟨r, n, w1, hR, hn, hit1, hB1, ho1, hs1⟩ := iter_step (P := Tryz.prog) hX.out.iter (by omega)
      rw [strOf_toList] at hR
      have HX := Lib.hid (hX.out.next hit1 hB1 ho1)
      have hle : i + n ≤ T.length := hR.le
      have hpos := hR.pos
      have HM : Hid (∀ W : World, W.heap[w.heap.size + 1]? = some (Obj.stringIter (strOf T) (i + n)) → T.length - W.iterPos (w.heap.size + 1) < T.length - wr.iterPos (w.heap.size + 1)) := Lib.hid (fun W h => by rw [iterPos_of h, iterPos_of hX.out.iter]; omega)
      have hlen := congrArg List.length hS.out
      have hfl := flat_len (T.take i)
      rw [List.length_append, List.length_take, List.length_drop, List.length_cons] at hlen
      rw [List.length_take] at hfl
      have C := Lib.hid (fun W => escape_any r W)
      by_cases hy : r = 10 ∨ r = 34 ∨ r = 92
      · obtain ⟨q1, rfl, q3⟩ := esc_yes hR hy
        rw [q3] at C
        have hmid := fun W => HMID.out k i W hk hi
        have hml := strOf_size ((T.drop k).take (i - k))
        have hmt : ((T.drop k).take (i - k)).length = i - k := by rw [List.length_take, List.length_drop]; omega
        have hS' := hS.out
        generalize (T.drop k).take (i - k) = mid at *
        generalize escI r = x at *
        obtain ⟨q, hq⟩ : ∃ q, q = pre ++ mid := ⟨_, rfl⟩
        have HQQ := Lib.hid hq
        have HS : Hid (q ++ [92, x] = 34 :: (T.take (i + 1)).flatMap escL) := Lib.hid (by rw [hq, q1, hS']; rfl)
        have HLM : Hid (pre.length + (strOf mid).size ≤ 2 ^ 43) := Lib.hid (by omega)
        have HL2 : Hid (q.length ≤ 2 ^ 43) := Lib.hid (by rw [hq, List.length_append]; omega)
        have HQ := Lib.hid (show i + 1 ≤ T.length from hle)
        clear hR hB1 hit1 ho1 hs1 hX hlen hfl q1 q3 hy hml hmt hS hS' hle hpos hq
        go_wp2_with (first
          | (go_at_call 155; refine (C.out _).mono ?_; rintro e w' ⟨rfl, rfl⟩)
          | (at_builtin; refine Lib.wpList_append_own_string _ rfl _ _ 69 9 rfl w.heap.size 5 i0 Tryz.underlying69 Tryz.underlying9 hi0 hy0 hy1 hy2 _ pre.length (bv pre) rfl HX.out.row (strOf mid) rfl (by have := HLM.out; unfold maxLen; omega) (by have := HLM.out; omega) HX.out.below.size ?_; intro v' W' hrow hgr _; have HX2 := Lib.hid (HX.out.appS hrow hgr); rw [← HQQ.out] at HX2; clear hrow hgr)
          | (refine wpList_append_lies _ rfl (.tmp 29) (.tmp 31) 69 rfl w.heap.size 5 i0 (.int .u8 0) 1 1 Tryz.underlying69 hi0 hy0 hy1 hy2 rfl (by decide) _ q.length (bv q) rfl (HX2.out.row.alloc _) ⟨W'.heap.size, 0, none⟩ 2 2 [.int .u8 92, .int .u8 (x.toNat : Int)] rfl rfl (news_at W' #[.int .u8 92, .int .u8 (x.toNat : Int)] 5) (by simp [Value.oneCell']) (by decide) (by have := HL2.out; unfold maxLen; omega) (by have := HL2.out; omega) (by have := HX2.out.below.size; simp; omega) (W'.heap.size + 1) (by simp) ?_; intro g cap W7 hrow hgr hgl hlt7; have HX3 := Lib.hid (HX2.out.app2 (x := 92) (y := x) hrow hgr); clear hrow hgr hgl hlt7))
        go_roundw
        case rel => exact ⟨i + 1, i + 1, q ++ [92, x], HQ.out, Nat.le_refl _, by go_num, HX3, Lib.hid (by rw [Nat.sub_self, List.take_zero, List.append_nil]; exact HS.out)⟩
        case measure => exact HM.out _ HX3.out.iter
      · have hno : r ≠ 10 ∧ r ≠ 34 ∧ r ≠ 92 := by omega
        obtain ⟨q1, q2⟩ := esc_not hR hno
        rw [q2] at C
        have HS : Hid (pre ++ (T.drop k).take (i + n - k) = 34 :: (T.take (i + n)).flatMap escL) := Lib.hid (by
          rw [q1, ← take_more T k i n hk, ← List.append_assoc, hS.out]; rfl)
        have HQ := Lib.hid (show i + n ≤ T.length ∧ k ≤ i + n from ⟨hle, by omega⟩)
        clear hR hB1 hit1 ho1 hs1 hX hlen hfl q1 q2 hy hno hS hle hpos
        go_wp2_with (go_at_call 155; refine (C.out _).mono ?_; rintro e w' ⟨rfl, rfl⟩)
        go_roundw
        case rel => exact ⟨i + n, k, pre, HQ.out.1, HQ.out.2, rfl, HX, HS⟩
        case measure => exact HM.out _ HX.out.iter
    · obtain rfl : i = T.length := by omega
      have hn := fun ty => Lib.run_next_end_at (P := Tryz.prog) wr (w.heap.size + 1) (strOf T) T.length ty hX.out.iter (by omega)
      have HX := hX
      have hsl : ∀ W : World, (Instr.slice 9 (.string (strOf T)) (some (.int .i64 (k : Int))) none none).run Tryz.prog W = .ok (.string (strOf (T.drop k))) W := fun W => by
        have := run_from (P := Tryz.prog) (strOf T) k (by omega) 9 Tryz.underlying9 W
        rw [← strOf_self ((strOf T).extract k (strOf T).size), extract_list] at this
        unfold from' at this
        rw [strOf_toList] at this
        exact this
      have hS' := hS.out
      have hlen := congrArg List.length hS.out
      have hfl := flat_len T
      rw [List.take_of_length_le (l := T) (Nat.le_refl _)] at hS' hlen
      rw [List.length_append, List.length_take, List.length_drop, List.length_cons] at hlen
      rw [List.take_of_length_le (by rw [List.length_drop]; omega)] at hS'
      have hml := strOf_size (T.drop k)
      rw [List.length_drop] at hml
      generalize T.drop k = mid at *
      obtain ⟨q, hq⟩ : ∃ q, q = pre ++ mid := ⟨_, rfl⟩
      have HQQ := Lib.hid hq
      have HS : Hid (q ++ [34] = quoteL T) := Lib.hid (by rw [hq, hS']; rfl)
      have HLM : Hid (pre.length + (strOf mid).size ≤ 2 ^ 43) := Lib.hid (by omega)
      have HL2 : Hid (q.length ≤ 2 ^ 43) := Lib.hid (by rw [hq, hS', List.length_cons]; omega)
      clear hX hS hS' hlen hfl hml hi hlt hq
      go_wp2_with (first
        | (at_builtin; refine Lib.wpList_append_own_string _ rfl _ _ 69 9 rfl w.heap.size 5 i0 Tryz.underlying69 Tryz.underlying9 hi0 hy0 hy1 hy2 _ pre.length (bv pre) rfl HX.out.row (strOf mid) rfl (by have := HLM.out; unfold maxLen; omega) (by have := HLM.out; omega) HX.out.below.size ?_; intro v' W' hrow hgr _; have HX2 := Lib.hid (HX.out.appS hrow hgr); rw [← HQQ.out] at HX2; clear hrow hgr)
        | (refine wpList_append_lies _ rfl (.tmp 40) (.tmp 41) 69 rfl w.heap.size 5 i0 (.int .u8 0) 1 1 Tryz.underlying69 hi0 hy0 hy1 hy2 rfl (by decide) _ q.length (bv q) rfl (HX2.out.row.alloc _) ⟨W'.heap.size, 0, none⟩ 1 1 [.int .u8 34] rfl rfl (news_at W' #[.int .u8 34] 5) (by simp [Value.oneCell']) (by decide) (by have := HL2.out; unfold maxLen; omega) (by have := HL2.out; omega) (by have := HX2.out.below.size; simp; omega) (W'.heap.size + 1) (by simp) ?_; intro g cap W7 hrow hgr hgl hlt7; have HX3 := Lib.hid (HX2.out.app1 (x := 34) hrow hgr); clear hrow hgr hgl hlt7; have g2 := run_convert_owned (P := Tryz.prog) (src := 69) (dst := 9) Tryz.underlying69 Tryz.underlying5 Tryz.underlying9 HX3.out.row))
      go_ret
      exact ⟨by rw [← HS.out]; rfl, HX3.out.below⟩

end Go.Proofs.YtemlceicmpcboaaGreatDoor.Lx
namespace Go.Proofs.YtemlceicmpcboaaGreatDoor.Lx
open Go.RowKit Dk

theorem own_form {w : World} {base size n : Nat} {e : TypeId} {v : Value} {xs : List Value} (h : w.ownsRow base e size v n xs) (hn : 0 < n) : ∃ g cap, v = .slice (some ⟨g, 0, none⟩) n cap := by
  rcases h.2 with ⟨rfl, h0⟩ | ⟨g, cap, cur, rfl, _⟩
  · omega
  · exact ⟨g, cap, rfl⟩

theorem scan_toks (l : List UInt8) (ts : List Tk) (h : scanL 0 l = .toks ts) (hl : l.length ≤ 8192) (w : World) (HE : HasE w) : Calls Tryz.prog 28 #[.string (strOf l)] w fun x w' => ∃ v, x = .returned (.tuple #[v, .int .i64 0, .int .i64 0]) ∧ TR w w' v ts :=
  (scan_any (strOf l) w HE).mono fun x w' hk => by rw [strOf_toList] at hk; exact hk.yes ts hl h
theorem scan_bad (l : List UInt8) (e a : Nat) (h : scanL 0 l = .bad e a) (hl : l.length ≤ 8192) (w : World) (HE : HasE w) : Calls Tryz.prog 28 #[.string (strOf l)] w fun x w' => x = .returned (.tuple #[.slice none 0 0, .int .i64 (e : Int), .int .i64 (a : Int)]) ∧ Below w.heap.size w w' :=
  (scan_any (strOf l) w HE).mono fun x w' hk => by rw [strOf_toList] at hk; exact ⟨hk.bad e a hl h, hk.below⟩

end Go.Proofs.YtemlceicmpcboaaGreatDoor.Lx
namespace Go.Proofs.YtemlceicmpcboaaGreatDoor.Lx

theorem scanL_nil (p : Nat) : scanL p [] = .toks [] := rfl
theorem scanL_step {p : Nat} {l : List UInt8} {k : Nat} {t : List UInt8} {n len : Nat} (h0 : skipN false l = 0) (h : oneL l = .tok k t n len) : scanL p l = (scanL (p + len) (l.drop len)).cons ⟨k, t, n, (p : Nat)⟩ := by
  rw [scanL_at, h0, Nat.add_zero, List.drop_zero]
  cases l with
  | nil => cases h
  | cons c r => exact scanAt_tok h

theorem byte_eq {c : UInt8} {n : Nat} (h : c.toNat = n) (hn : n < 256) : c = n.toUInt8 := by
  apply UInt8.toNat_inj.1
  rw [h]
  show n = n % 2 ^ 8
  omega

theorem textL_quote : ∀ (s rest : List UInt8), textL (s.flatMap escL ++ 34 :: rest) = some (s, (s.flatMap escL).length + 1)
  | [], rest => textL_end rest rfl
  | c :: s, rest => by
    have ih := textL_quote s rest
    rw [List.flatMap_cons, List.append_assoc]
    by_cases h1 : c.toNat = 10
    · have e : escL c = [92, 110] := by unfold escL; rw [if_pos h1]
      rw [e]
      show textL (92 :: 110 :: (s.flatMap escL ++ 34 :: rest)) = _
      rw [textL_esc _ rfl, textE, show unescN 110 = some 10 from rfl, ih, byte_eq h1 (by decide)]
      simp [shift]
    · by_cases h2 : c.toNat = 34 ∨ c.toNat = 92
      · have e : escL c = [92, c] := by unfold escL; rw [if_neg h1, if_pos h2]
        have u : unescN c = some c := by unfold unescN; rw [if_neg (by omega), if_pos h2]
        rw [e]
        show textL (92 :: c :: (s.flatMap escL ++ 34 :: rest)) = _
        rw [textL_esc _ rfl, textE, u, ih]
        simp [shift]
      · have e : escL c = [c] := by unfold escL; rw [if_neg h1, if_neg h2]
        rw [e]
        show textL (c :: (s.flatMap escL ++ 34 :: rest)) = _
        rw [textL_other _ (by omega) h1 (by omega), ih]
        simp [shift]

theorem quoteL_length (s : List UInt8) : (quoteL s).length = (s.flatMap escL).length + 2 := by unfold quoteL; simp
theorem oneL_quote (s rest : List UInt8) : oneL (quoteL s ++ rest) = .tok 3 s 0 (quoteL s).length := by
  unfold quoteL
  show oneL (34 :: ((s.flatMap escL ++ [34]) ++ rest)) = _
  rw [oneL, if_neg (by decide), if_neg (by decide), if_pos (by decide), List.append_assoc]
  unfold textOf
  rw [show [34] ++ rest = 34 :: rest from rfl, textL_quote]
  simp

theorem skip_letter {c : UInt8} (h : rL (c.toNat : Int) = true ∨ rD (c.toNat : Int) = true ∨ c.toNat = 34) (r : List UInt8) : skipN false (c :: r) = 0 := by
  have h2 : (97 ≤ c.toNat ∧ c.toNat ≤ 122) ∨ (48 ≤ c.toNat ∧ c.toNat ≤ 57) ∨ c.toNat = 34 := by
    rcases h with h | h | h
    · unfold rL at h; simp at h; omega
    · unfold rD at h; simp at h; omega
    · omega
  rw [skipN, if_neg (by omega), if_neg]
  unfold isB rB
  simp
  omega

theorem quotes_scan (s : List UInt8) : scanL 0 (97 :: (quoteL s ++ [53])) = .toks [⟨1, [97], 0, 0⟩, ⟨3, s, 0, 1⟩, ⟨2, [53], 5, (1 + (quoteL s).length : Nat)⟩] := by
  have h1 : oneL (97 :: (quoteL s ++ [53])) = .tok 1 [97] 0 1 := by
    unfold quoteL
    show oneL (97 :: 34 :: ((s.flatMap escL ++ [34]) ++ [53])) = _
    have hs : spanN isW (97 :: 34 :: ((s.flatMap escL ++ [34]) ++ [53])) = 1 := by
      rw [spanN, if_pos (by decide), spanN, if_neg (by decide)]
    rw [oneL, if_pos (by decide), hs]
    rfl
  rw [scanL_step (skip_letter (.inl (by decide)) _) h1]
  show SR.cons _ (scanL (0 + 1) (quoteL s ++ [53])) = _
  have h2 : skipN false (quoteL s ++ [53]) = 0 := skip_letter (c := 34) (.inr (.inr rfl)) _
  rw [scanL_step h2 (oneL_quote s [53]), List.drop_left]
  have h3 : oneL [53] = .tok 2 [53] 5 1 := by
    rw [oneL, if_neg (by decide), if_pos (by decide), show spanN isD [53] = 1 from by decide +kernel]
    unfold intOf'
    rw [show numL (List.take 1 ([53] : List UInt8)) = some 5 from by decide +kernel]
    rfl
  rw [scanL_step (skip_letter (.inr (.inl (by decide))) _) h3]
  rw [show List.drop 1 [(53 : UInt8)] = [] from rfl, scanL_nil]
  simp [SR.cons]

/-! a word by itself -/
theorem keys_all : (keyList.all fun l => !isName l && decide (scanL 0 l = .toks [⟨5, l, 0, 0⟩])) = true := by decide +kernel
theorem key_scan {l : List UInt8} (h : isKey l = true) : isName l = false ∧ scanL 0 l = .toks [⟨5, l, 0, 0⟩] := by
  have := List.all_eq_true.1 keys_all l ((isKey_iff l).1 h)
  rw [Bool.and_eq_true] at this
  exact ⟨by simpa using this.1, of_decide_eq_true this.2⟩

theorem isName_parts {l : List UInt8} (h : isName l = true) : ∃ c r, l = c :: r ∧ l.length ≤ 16 ∧ isL c = true ∧ spanN isW l = l.length ∧ isKey l = false := by
  cases l with
  | nil => cases h
  | cons c r =>
    rw [isName_cons, Bool.and_eq_true, Bool.and_eq_true, Bool.and_eq_true] at h
    exact ⟨c, r, rfl, of_decide_eq_true h.1.1.1, h.1.1.2, of_decide_eq_true h.1.2, by simpa using h.2⟩

theorem name_scan {l : List UInt8} (h : isName l = true) : scanL 0 l = .toks [⟨1, l, 0, 0⟩] := by
  obtain ⟨c, r, rfl, h1, h2, h3, h4⟩ := isName_parts h
  have ho : oneL (c :: r) = .tok 1 (c :: r) 0 (c :: r).length := by
    rw [oneL, if_pos h2, h3]
    unfold wordOf
    rw [List.take_length, if_neg (by rw [h4]; exact Bool.false_ne_true), if_neg (by omega)]
  rw [scanL_step (skip_letter (.inl h2) _) ho, List.drop_length, scanL_nil]
  rfl

theorem spanN_take (p : UInt8 → Bool) (l : List UInt8) : spanN p (l.take (spanN p l)) = (l.take (spanN p l)).length := (spanN_full p _).2 (by rw [List.all_eq_true]; exact spanN_all p l)

/-- What a word's token is. -/
theorem word_parts {l : List UInt8} {k : Nat} {t : List UInt8} {n len : Nat} (h : oneL l = .tok k t n len) (hk : k = 1 ∨ k = 5) : (k = 5 ∧ isKey t = true) ∨ (k = 1 ∧ isName t = true) := by
  cases l with
  | nil => cases h
  | cons c r =>
    rw [oneL] at h
    split at h
    · rename_i hc
      have ht := spanN_take isW (c :: r)
      have hle := spanN_le isW (c :: r)
      have h1 := spanN_first (r := r) (isL_W hc)
      unfold wordOf at h
      split at h
      · rename_i hkey; cases h; exact .inl ⟨rfl, hkey⟩
      · rename_i hkey
        split at h
        · cases h
        · rename_i h16
          cases h
          refine .inr ⟨rfl, ?_⟩
          rw [h1, List.take_succ_cons] at ht hkey ⊢
          rw [isName_cons, ht]
          have : (c :: r.take (spanN isW r)).length ≤ 16 := by rw [List.length_cons, List.length_take]; omega
          simp [hc, hkey] at this ⊢
          omega
    · split at h
      · unfold intOf' at h
        split at h
        · cases h
        · cases h; omega
      · split at h
        · unfold textOf at h
          split at h
          · cases h
          · cases h; omega
        · unfold markOne at h
          split at h
          · cases h
          · cases h; omega

theorem one_scan {l : List UInt8} {t : Tk} (h : scanL 0 l = .toks [t]) (ht : t.text = l) (hk : isKey l = false) (hn : isName l = false) : t.kind ≠ 1 ∧ t.kind ≠ 5 := by
  rw [scanL_at] at h
  cases hd : l.drop (skipN false l) with
  | nil => rw [hd] at h; cases h
  | cons c r =>
    rw [hd] at h
    cases ho : oneL (c :: r) with
    | bad e => rw [scanAt_bad ho] at h; cases h
    | tok k t' n len =>
      rw [scanAt_tok ho] at h
      cases hr : scanL (0 + skipN false l + len) ((c :: r).drop len) with
      | bad e a => rw [hr] at h; cases h
      | toks q =>
        rw [hr] at h
        have e := SR.toks.inj h
        obtain ⟨e1, -⟩ := List.cons.inj e
        rw [← e1] at ht ⊢
        have ht' : t' = l := ht
        have key : ¬(k = 1 ∨ k = 5) := fun hk' => by
          rcases word_parts ho hk' with ⟨_, h1⟩ | ⟨_, h1⟩
          · rw [ht', hk] at h1; cases h1
          · rw [ht', hn] at h1; cases h1
        constructor
        · intro e; exact key (.inl (by have : (k : Int) = 1 := e; omega))
        · intro e; exact key (.inr (by have : (k : Int) = 5 := e; omega))

end Go.Proofs.YtemlceicmpcboaaGreatDoor.Lx
namespace Go.Proofs.YtemlceicmpcboaaGreatDoor.Lx

inductive Scans : Nat → List UInt8 → List Tk → Prop
  | done (p : Nat) (l : List UInt8) : l.drop (skipN false l) = [] → Scans p l []
  | more (p : Nat) (l : List UInt8) (c : UInt8) (r : List UInt8) (k : Nat) (t : List UInt8) (n len : Nat) (ts : List Tk) : l.drop (skipN false l) = c :: r → oneL (c :: r) = .tok k t n len →
      Scans (p + skipN false l + len) ((c :: r).drop len) ts → Scans p l (⟨k, t, n, (p + skipN false l : Nat)⟩ :: ts)

theorem scans_of : ∀ (m p : Nat) (l : List UInt8) (ts : List Tk), l.length < m → scanL p l = .toks ts → Scans p l ts
  | 0, _, _, _, h, _ => absurd h (Nat.not_lt_zero _)
  | m + 1, p, l, ts, hm, h => by
    rw [scanL_at] at h
    cases hd : l.drop (skipN false l) with
    | nil =>
      rw [hd] at h
      cases h
      exact .done p l hd
    | cons c r =>
      rw [hd] at h
      cases ho : oneL (c :: r) with
      | bad e => rw [scanAt_bad ho] at h; cases h
      | tok k t n len =>
        rw [scanAt_tok ho] at h
        have hlen := oneL_len _ _ _ _ _ ho
        have hl : (c :: r).length ≤ l.length := by rw [← hd, List.length_drop]; omega
        cases hr : scanL (p + skipN false l + len) ((c :: r).drop len) with
        | bad e a => rw [hr] at h; cases h
        | toks q =>
          rw [hr] at h
          cases h
          exact .more p l c r k t n len q hd ho (scans_of m _ _ _ (by rw [List.length_drop]; omega) hr)
theorem scans_iff {p : Nat} {l : List UInt8} {ts : List Tk} : scanL p l = .toks ts ↔ Scans p l ts := by
  constructor
  · exact scans_of (l.length + 1) p l ts (Nat.lt_succ_self _)
  · intro h
    induction h with
    | done p l hd => rw [scanL_at, hd]; rfl
    | more p l c r k t n len ts hd ho _ ih => rw [scanL_at, hd, scanAt_tok ho, ih]; rfl

theorem scan_bad_at : ∀ (m p : Nat) (l : List UInt8) (e a : Nat), l.length < m → scanL p l = .bad e a → (e = 9 ∨ e = 10) ∧ p ≤ a ∧ a < p + l.length
  | 0, _, _, _, _, h, _ => absurd h (Nat.not_lt_zero _)
  | m + 1, p, l, e, a, hm, h => by
    rw [scanL_at] at h
    have hs := skipN_le false l
    cases hd : l.drop (skipN false l) with
    | nil => rw [hd] at h; cases h
    | cons c r =>
      rw [hd] at h
      have hl := congrArg List.length hd
      rw [List.length_drop, List.length_cons] at hl
      cases ho : oneL (c :: r) with
      | bad e' =>
        rw [scanAt_bad ho] at h
        cases h
        exact ⟨oneL_bad _ _ ho, by omega, by omega⟩
      | tok k t n len =>
        rw [scanAt_tok ho] at h
        have hlen := oneL_len _ _ _ _ _ ho
        rw [List.length_cons] at hlen
        cases hr : scanL (p + skipN false l + len) ((c :: r).drop len) with
        | toks q => rw [hr] at h; cases h
        | bad e' a' =>
          rw [hr] at h
          cases h
          have := scan_bad_at m _ _ _ _ (by rw [List.length_drop, List.length_cons]; omega) hr
          rw [List.length_drop, List.length_cons] at this
          exact ⟨this.1, by omega, by omega⟩

/-! blanks -/
theorem skip_stop {c : UInt8} {r : List UInt8} (h : skipN false (c :: r) = 0) (r' : List UInt8) : skipN false (c :: r') = 0 := by
  rw [skipN] at h ⊢
  split at h
  · omega
  · rename_i h1
    split at h
    · omega
    · rename_i h2
      rw [if_neg h1, if_neg h2]
theorem skip_idem : ∀ (b : Bool) (l : List UInt8), skipN false (l.drop (skipN b l)) = 0
  | b, [] => by cases b <;> rfl
  | true, c :: r => by rw [skipN, List.drop_succ_cons]; exact skip_idem _ r
  | false, c :: r => by
    rw [skipN]
    split
    · rw [List.drop_succ_cons]; exact skip_idem true r
    · split
      · rw [List.drop_succ_cons]; exact skip_idem false r
      · rename_i h1 h2
        rw [List.drop_zero, skipN, if_neg h1, if_neg h2]
theorem skip_lt : ∀ (b : Bool) (l rest : List UInt8), skipN b l < l.length → skipN b (l ++ rest) = skipN b l
  | b, [], _, h => by simp at h
  | true, c :: r, rest, h => by
    rw [skipN] at h
    rw [List.cons_append, skipN, skipN, skip_lt _ r rest (by rw [List.length_cons] at h; omega)]
  | false, c :: r, rest, h => by
    rw [skipN] at h
    rw [List.cons_append, skipN, skipN]
    rw [List.length_cons] at h
    split
    · rename_i h1
      rw [if_pos h1] at h
      rw [skip_lt true r rest (by omega)]
    · rename_i h1
      rw [if_neg h1] at h
      split
      · rename_i h2
        rw [if_pos h2] at h
        rw [skip_lt false r rest (by omega)]
      · rfl
theorem skip_all : ∀ (b : Bool) (l rest : List UInt8), skipN b l = l.length → skipN b (l ++ 10 :: rest) = l.length + 1 + skipN false rest
  | true, [], rest, _ => by rw [List.nil_append, skipN, show decide ((10 : UInt8).toNat ≠ 10) = false from rfl]; simp; omega
  | false, [], rest, _ => by rw [List.nil_append, skipN, if_neg (by decide), if_pos (by decide)]; simp; omega
  | true, c :: r, rest, h => by
    rw [skipN, List.length_cons] at h
    rw [List.cons_append, skipN, skip_all _ r rest (by omega), List.length_cons]; omega
  | false, c :: r, rest, h => by
    rw [skipN, List.length_cons] at h
    rw [List.cons_append, skipN, List.length_cons]
    split
    · rename_i h1
      rw [if_pos h1] at h
      rw [skip_all true r rest (by omega)]; omega
    · rename_i h1
      rw [if_neg h1] at h
      split
      · rename_i h2
        rw [if_pos h2] at h
        rw [skip_all false r rest (by omega)]; omega
      · rename_i h2
        rw [if_neg h2] at h; omega

/-! a token, and what stands behind it -/
theorem spanN_app {p : UInt8 → Bool} {d : UInt8} (hd : p d = false) : ∀ l rest : List UInt8, spanN p (l ++ d :: rest) = spanN p l
  | [], rest => by
    show spanN p (d :: rest) = 0
    rw [spanN, if_neg (by rw [hd]; exact Bool.false_ne_true)]
  | c :: r, rest => by
    rw [List.cons_append, spanN, spanN, spanN_app hd r rest]
theorem textL_app : ∀ (l rest : List UInt8) q, textL l = some q → textL (l ++ rest) = some q
  | [], _, _, h => by cases h
  | [c], rest, q, h => by
    rw [List.cons_append, textL_cons]
    rw [textL_cons] at h
    split
    · rename_i h1; rw [if_pos h1] at h; exact h
    · rename_i h1
      rw [if_neg h1] at h
      split
      · rename_i h2; rw [if_pos h2] at h; cases h
      · rename_i h2
        rw [if_neg h2] at h
        split
        · rename_i h3; rw [if_pos h3] at h; cases h
        · rename_i h3; rw [if_neg h3] at h; cases h
  | c :: d :: r, rest, q, h => by
    rw [List.cons_append, textL_cons]
    rw [textL_cons] at h
    split
    · rename_i h1; rw [if_pos h1] at h; exact h
    · rename_i h1
      rw [if_neg h1] at h
      split
      · rename_i h2; rw [if_pos h2] at h; cases h
      · rename_i h2
        rw [if_neg h2] at h
        split
        · rename_i h3
          rw [if_pos h3] at h
          rw [List.cons_append]
          simp only [textE] at h ⊢
          cases hu : unescN d with
          | none => rw [hu] at h; cases h
          | some e =>
            rw [hu] at h
            dsimp only at h ⊢
            cases ht : textL r with
            | none => rw [ht] at h; cases h
            | some q' => rw [ht] at h; rw [textL_app r rest q' ht]; exact h
        · rename_i h3
          rw [if_neg h3] at h
          cases ht : textL (d :: r) with
          | none => rw [ht] at h; cases h
          | some q' => rw [ht] at h; rw [textL_app (d :: r) rest q' ht]; exact h

theorem markOf_app (c d : UInt8) (r rest : List UInt8) : ∀ ms : List (List UInt8), (∀ m ∈ ms, ∃ x, m = [x] ∨ ∃ y, m = [x, y] ∧ y ≠ d) → markOf ((c :: r) ++ d :: rest) ms = markOf (c :: r) ms
  | [], _ => rfl
  | m :: ms, h => by
    rw [markOf_cons, markOf_cons, markOf_app c d r rest ms (fun m hm => h m (by simp [hm]))]
    obtain ⟨x, rfl | ⟨y, rfl, hy⟩⟩ := h m (by simp)
    · rfl
    · cases r with
      | nil =>
        have : ([x, y] : List UInt8).isPrefixOf ([c] ++ d :: rest) = false := by
          simp [List.isPrefixOf, hy]
        rw [this]
        have : ([x, y] : List UInt8).isPrefixOf [c] = false := by simp [List.isPrefixOf]
        rw [this]
      | cons c2 r2 => simp [List.isPrefixOf]
theorem markList_form (d : UInt8) (h1 : d ≠ 61) (h2 : d ≠ 46) : ∀ m ∈ markList, ∃ x, m = [x] ∨ ∃ y, m = [x, y] ∧ y ≠ d := by
  intro m hm
  simp only [markList, List.mem_cons, List.not_mem_nil, or_false] at hm
  rcases hm with rfl | rfl | rfl | rfl | rfl | rfl | rfl | rfl | rfl | rfl | rfl | rfl | rfl | rfl | rfl | rfl | rfl | rfl | rfl | rfl
  all_goals first
    | exact ⟨_, .inl rfl⟩
    | exact ⟨_, .inr ⟨_, rfl, fun e => h1 e.symm⟩⟩
    | exact ⟨_, .inr ⟨_, rfl, fun e => h2 e.symm⟩⟩

/-- A byte that ends each token. -/
structure Sep (d : UInt8) : Prop where
  w : isW d = false
  n : isD d = false
  e : d ≠ 61
  o : d ≠ 46
theorem sep32 : Sep 32 := ⟨by decide, by decide, by decide, by decide⟩
theorem sep10 : Sep 10 := ⟨by decide, by decide, by decide, by decide⟩

theorem one_app {l : List UInt8} {k : Nat} {t : List UInt8} {n len : Nat} (h : oneL l = .tok k t n len) {d : UInt8} (hd : Sep d) (rest : List UInt8) : oneL (l ++ d :: rest) = .tok k t n len := by
  cases l with
  | nil => cases h
  | cons c r =>
    rw [List.cons_append, oneL]
    rw [oneL] at h
    split
    · rename_i h1
      rw [if_pos h1] at h
      have := spanN_app hd.w (c :: r) rest
      rw [List.cons_append] at this
      rw [this]
      have ht : (c :: (r ++ d :: rest)).take (spanN isW (c :: r)) = (c :: r).take (spanN isW (c :: r)) := by
        rw [← List.cons_append, List.take_append_of_le_length (spanN_le _ _)]
      unfold wordOf at h ⊢
      rw [ht]; exact h
    · rename_i h1
      rw [if_neg h1] at h
      split
      · rename_i h2
        rw [if_pos h2] at h
        have := spanN_app hd.n (c :: r) rest
        rw [List.cons_append] at this
        rw [this]
        have ht : (c :: (r ++ d :: rest)).take (spanN isD (c :: r)) = (c :: r).take (spanN isD (c :: r)) := by
          rw [← List.cons_append, List.take_append_of_le_length (spanN_le _ _)]
        unfold intOf' at h ⊢
        rw [ht]; exact h
      · rename_i h2
        rw [if_neg h2] at h
        split
        · rename_i h3
          rw [if_pos h3] at h
          unfold textOf at h ⊢
          cases ht : textL r with
          | none => rw [ht] at h; cases h
          | some q => rw [ht] at h; rw [textL_app r _ q ht]; exact h
        · rename_i h3
          rw [if_neg h3] at h
          have := markOf_app c d r rest markList (markList_form d hd.e hd.o)
          rw [List.cons_append] at this
          unfold markOne markN at h ⊢
          rw [this]
          have ht : (c :: (r ++ d :: rest)).take (markOf (c :: r) markList) = (c :: r).take (markOf (c :: r) markList) := by
            rw [← List.cons_append, List.take_append_of_le_length (markOf_le _ _)]
          rw [ht]; exact h

/-! texts put together -/
def moved (d : Int) (t : Tk) : Tk := { t with place := t.place + d }
theorem Scans.move {p : Nat} {l : List UInt8} {ts : List Tk} (h : Scans p l ts) : ∀ p' : Nat, Scans p' l (ts.map (moved ((p' : Int) - (p : Int)))) := by
  induction h with
  | done p l hd => exact fun p' => .done p' l hd
  | more p l c r k t n len ts hd ho _ ih =>
    intro p'
    have e : moved ((p' : Int) - (p : Int)) ⟨k, t, n, (p + skipN false l : Nat)⟩ = ⟨k, t, n, (p' + skipN false l : Nat)⟩ := by unfold moved; simp; omega
    rw [List.map_cons, e]
    have := ih (p' + skipN false l + len)
    rw [show ((p' + skipN false l + len : Nat) : Int) - ((p + skipN false l + len : Nat) : Int) = (p' : Int) - (p : Int) by omega] at this
    exact .more p' l c r k t n len _ hd ho this

theorem scans_join {p : Nat} {a : List UInt8} {x : List Tk} (h : Scans p a x) {q : Nat} {b : List UInt8} {y : List Tk} (hb : Scans q b y) : ∃ d, Scans p (a ++ 10 :: b) (x ++ y.map (moved d)) := by
  induction h with
  | done p l hd =>
    have hle := skipN_le false l
    have he : skipN false l = l.length := by
      have := congrArg List.length hd
      rw [List.length_drop] at this
      simp at this
      omega
    refine ⟨((p + l.length + 1 : Nat) : Int) - (q : Int), ?_⟩
    have := scans_iff.2 (hb.move (p + l.length + 1))
    rw [scanL_at] at this
    rw [← scans_iff, scanL_at, skip_all false l b he, List.nil_append, ← this]
    congr 1
    · omega
    · rw [show l.length + 1 + skipN false b = l.length + (1 + skipN false b) by omega, ← List.drop_drop, List.drop_left, Nat.add_comm 1, List.drop_succ_cons]
  | more p l c r k t n len ts hd ho _ ih =>
    obtain ⟨d, ih⟩ := ih
    have hlen := oneL_len _ _ _ _ _ ho
    have hl := congrArg List.length hd
    rw [List.length_drop, List.length_cons] at hl
    have hs := skip_lt false l (10 :: b) (by omega)
    refine ⟨d, ?_⟩
    have hd2 : (l ++ 10 :: b).drop (skipN false (l ++ 10 :: b)) = c :: (r ++ 10 :: b) := by
      rw [hs, List.drop_append_of_le_length (by omega), hd]; rfl
    have := Scans.more p (l ++ 10 :: b) c (r ++ 10 :: b) k t n len (ts ++ y.map (moved d)) hd2 (one_app ho sep10 b) (by
      rw [hs, ← List.cons_append, List.drop_append_of_le_length (by omega)]; exact ih)
    rw [hs] at this
    exact this

theorem Scans.len {p : Nat} {l : List UInt8} {ts : List Tk} (h : Scans p l ts) : ts.length ≤ l.length := by
  induction h with
  | done p l hd => exact Nat.zero_le _
  | more p l c r k t n len ts hd ho _ ih =>
    have hlen := oneL_len _ _ _ _ _ ho
    have hl := congrArg List.length hd
    rw [List.length_drop, List.length_cons] at hl
    rw [List.length_drop, List.length_cons] at ih
    rw [List.length_cons] at hlen ⊢
    omega

/-! each token at its place -/
theorem scans_split {p : Nat} {l : List UInt8} {ts : List Tk} (h : Scans p l ts) : ∀ (pre : List Tk) (t : Tk) (post : List Tk), ts = pre ++ t :: post →
    ∃ (a : Nat) (c : UInt8) (r : List UInt8) (k n len : Nat), t.place = ((p + a : Nat) : Int) ∧ l.drop a = c :: r ∧ skipN false (c :: r) = 0 ∧ oneL (c :: r) = .tok k t.text n len ∧ t.kind = (k : Int) ∧ Scans (p + a) (c :: r) (t :: post) ∧ (∀ u ∈ pre, u.place < t.place) := by
  induction h with
  | done p l hd => intro pre t post e; cases pre <;> cases e
  | more p l c r k t n len ts hd ho hs ih =>
    intro pre u post e
    cases pre with
    | nil =>
      cases e
      have h0 := skip_idem false l
      rw [hd] at h0
      refine ⟨skipN false l, c, r, k, n, len, rfl, hd, h0, ho, rfl, ?_, fun u hu => by cases hu⟩
      have := Scans.more (p + skipN false l) (c :: r) c r k t n len ts (by rw [h0]; rfl) ho (by rw [h0, Nat.add_zero]; exact hs)
      rw [h0, Nat.add_zero] at this
      exact this
    | cons u0 pre =>
      obtain ⟨rfl, e2⟩ := List.cons.inj e
      obtain ⟨a, c', r', k', n', len', h1, h2, h3, h4, h5, h6, h7⟩ := ih pre u post e2
      have hlen := oneL_len _ _ _ _ _ ho
      refine ⟨skipN false l + len + a, c', r', k', n', len', ?_, ?_, h3, h4, h5, ?_, ?_⟩
      · rw [h1]; omega
      · rw [← h2, ← hd, List.drop_drop, List.drop_drop, Nat.add_assoc]
      · rw [show p + (skipN false l + len + a) = p + skipN false l + len + a by omega]; exact h6
      · intro v hv
        rcases List.mem_cons.1 hv with rfl | hv
        · rw [h1]
          show ((p + skipN false l : Nat) : Int) < _
          omega
        · exact h7 v hv

theorem esc_e {d e : UInt8} (_h : unescN d = some e) : (escL e).length ≤ 2 := esc_len e
theorem text_len : ∀ (l : List UInt8) q, textL l = some q → (q.1.flatMap escL).length + 1 ≤ q.2
  | [], _, h => by cases h
  | [c], q, h => by
    rw [textL_cons] at h
    split at h
    · cases h; simp
    · split at h
      · cases h
      · split at h
        · cases h
        · cases h
  | c :: d :: r, q, h => by
    rw [textL_cons] at h
    split at h
    · cases h; simp
    · rename_i h1
      split at h
      · cases h
      · rename_i h2
        split at h
        · simp only [textE] at h
          cases hu : unescN d with
          | none => rw [hu] at h; cases h
          | some e =>
            rw [hu] at h
            dsimp only at h
            cases ht : textL r with
            | none => rw [ht] at h; cases h
            | some q' =>
              rw [ht] at h
              cases h
              have h7 := text_len r q' ht
              have h8 := esc_len e
              show (([] ++ e :: q'.1).flatMap escL).length + 1 ≤ q'.2 + 1 + 1
              rw [List.nil_append, List.flatMap_cons, List.length_append]
              omega
        · rename_i h3
          cases ht : textL (d :: r) with
          | none => rw [ht] at h; cases h
          | some q' =>
            rw [ht] at h
            cases h
            have h7 := text_len (d :: r) q' ht
            show (([c] ++ q'.1).flatMap escL).length + 1 ≤ q'.2 + 1
            rw [List.flatMap_append, List.length_append, List.flatMap_cons, esc_plain h2 h1 h3]
            simp only [List.flatMap_nil, List.append_nil, List.length_singleton]
            omega

/-- What a token's text is of the text that it was found in. -/
theorem one_text {l : List UInt8} {k : Nat} {t : List UInt8} {n len : Nat} (h : oneL l = .tok k t n len) : (k = 3 ∧ ∃ r, l = 34 :: r ∧ (quoteL t).length ≤ len) ∨ (k ≠ 3 ∧ t = l.take len ∧ n < 2 ^ 63) := by
  cases l with
  | nil => cases h
  | cons c r =>
    rw [oneL] at h
    split at h
    · unfold wordOf at h
      split at h
      · cases h; exact .inr ⟨by decide, rfl, by decide⟩
      · split at h
        · cases h
        · cases h; exact .inr ⟨by decide, rfl, by decide⟩
    · split at h
      · unfold intOf' at h
        split at h
        · cases h
        · rename_i v hv
          cases h
          refine .inr ⟨by decide, rfl, ?_⟩
          unfold numL at hv
          split at hv
          · cases hv
          · split at hv
            · cases hv; assumption
            · cases hv
      · split at h
        · rename_i h34
          unfold textOf at h
          split at h
          · cases h
          · rename_i q hq
            cases h
            refine .inl ⟨rfl, r, by rw [byte_eq h34 (by decide)]; rfl, ?_⟩
            have := text_len r q hq
            rw [quoteL_length]; omega
        · unfold markOne at h
          split at h
          · cases h
          · cases h; exact .inr ⟨by decide, rfl, by decide⟩

/-! a token by itself -/
theorem markOf_mem (l : List UInt8) : ∀ ms : List (List UInt8), markOf l ms ≠ 0 → ∃ m ∈ ms, l.take (markOf l ms) = m
  | [], h => absurd rfl h
  | m :: ms, h => by
    rw [markOf_cons] at h ⊢
    split
    · rename_i hp
      obtain ⟨r, rfl⟩ := List.isPrefixOf_iff_prefix.1 hp
      exact ⟨m, by simp, List.take_left⟩
    · rename_i hp
      rw [if_neg hp] at h
      obtain ⟨m', h1, h2⟩ := markOf_mem l ms h
      exact ⟨m', by simp [h1], h2⟩
theorem marks_self : (markList.all fun m => markN m == m.length) = true := by decide +kernel
theorem one_self {l : List UInt8} {k : Nat} {t : List UInt8} {n len : Nat} (h : oneL l = .tok k t n len) (hk : k ≠ 3) : oneL (l.take len) = .tok k t n len := by
  have hlen := oneL_len _ _ _ _ _ h
  cases l with
  | nil => cases h
  | cons c r =>
    obtain ⟨m, rfl⟩ : ∃ m, len = m + 1 := ⟨len - 1, by omega⟩
    rw [List.take_succ_cons, oneL]
    rw [oneL] at h
    split
    · rename_i h1
      rw [if_pos h1] at h
      have hs := spanN_take isW (c :: r)
      have hle := spanN_le isW (c :: r)
      have e : spanN isW (c :: r) = m + 1 := by
        unfold wordOf at h
        split at h
        · exact (One.tok.inj h).2.2.2
        · split at h
          · cases h
          · exact (One.tok.inj h).2.2.2
      rw [e] at hs hle
      rw [List.take_succ_cons] at hs
      rw [hs]
      have hl2 : (c :: r.take m).length = m + 1 := by rw [List.length_cons] at hle ⊢; rw [List.length_take]; omega
      have e3 : (c :: r).take (spanN isW (c :: r)) = c :: r.take m := by rw [e, List.take_succ_cons]
      unfold wordOf at h ⊢
      rw [e3, e] at h
      rw [List.take_length, hl2]
      exact h
    · rename_i h1
      rw [if_neg h1] at h
      split
      · rename_i h2
        rw [if_pos h2] at h
        have hs := spanN_take isD (c :: r)
        have hle := spanN_le isD (c :: r)
        have e : spanN isD (c :: r) = m + 1 := by
          unfold intOf' at h
          split at h
          · cases h
          · exact (One.tok.inj h).2.2.2
        rw [e] at hs hle
        rw [List.take_succ_cons] at hs
        rw [hs]
        have hl2 : (c :: r.take m).length = m + 1 := by rw [List.length_cons] at hle ⊢; rw [List.length_take]; omega
        have e3 : (c :: r).take (spanN isD (c :: r)) = c :: r.take m := by rw [e, List.take_succ_cons]
        unfold intOf' at h ⊢
        rw [e3, e] at h
        rw [List.take_length, hl2]
        exact h
      · rename_i h2
        rw [if_neg h2] at h
        split
        · rename_i h3
          rw [if_pos h3] at h
          unfold textOf at h
          split at h
          · cases h
          · cases h; exact absurd rfl hk
        · rename_i h3
          rw [if_neg h3] at h
          unfold markOne at h
          split at h
          · cases h
          · rename_i hz
            obtain ⟨e1, e2, e3, hm⟩ := One.tok.inj h
            subst e1 e2 e3
            obtain ⟨m', h4, h5⟩ := markOf_mem (c :: r) markList hz
            have e : (c :: r.take m) = m' := by
              rw [← h5]
              show _ = (c :: r).take (markN (c :: r))
              rw [hm, List.take_succ_cons]
            have h6 := List.all_eq_true.1 marks_self m' h4
            have h7 : markN m' = m'.length := by simpa using h6
            rw [e]
            unfold markOne
            have hle := markN_le (c :: r)
            have h8 : m'.length = m + 1 := by rw [← e]; rw [hm, List.length_cons] at hle; rw [List.length_cons, List.length_take]; omega
            rw [h7, h8, if_neg (by omega)]
            rw [← h8, List.take_length, h8]
            have h9 : (c :: r).take (markN (c :: r)) = m' := h5
            rw [h9]

end Go.Proofs.YtemlceicmpcboaaGreatDoor.Lx
namespace Go.Proofs.YtemlceicmpcboaaGreatDoor.Lx

/-- A token that is written as itself. -/
def Good (t : Tk) : Prop := ∃ k n : Nat, t.kind = (k : Int) ∧ t.n = (n : Int) ∧ (written t).length ≠ 0 ∧ (∀ rest, skipN false (written t ++ rest) = 0) ∧
  (∀ rest, oneL (written t ++ 32 :: rest) = .tok k t.text n (written t).length) ∧ oneL (written t) = .tok k t.text n (written t).length

theorem good_of {c : UInt8} {r : List UInt8} {k : Nat} {t : List UInt8} {n len : Nat} (h0 : skipN false (c :: r) = 0) (h : oneL (c :: r) = .tok k t n len) (p : Int) : Good ⟨k, t, n, p⟩ ∧ (written ⟨k, t, n, p⟩).length ≤ len := by
  have hlen := oneL_len _ _ _ _ _ h
  rcases one_text h with ⟨rfl, r', e, hq⟩ | ⟨hk, e, hn⟩
  · have hw : written ⟨(3 : Nat), t, n, p⟩ = quoteL t := if_pos (show ((3 : Nat) : Int) = 3 from rfl)
    have hn0 : n = 0 := by
      rw [e] at h
      rw [oneL, if_neg (by decide), if_neg (by decide), if_pos (by decide)] at h
      unfold textOf at h
      split at h
      · cases h
      · exact (One.tok.inj h).2.2.1.symm
    subst hn0
    refine ⟨⟨3, 0, rfl, rfl, ?_, ?_, ?_, ?_⟩, by rw [hw]; exact hq⟩
    · rw [hw, quoteL_length]; omega
    · intro rest
      rw [hw]
      exact skip_letter (c := 34) (.inr (.inr rfl)) _
    · intro rest; rw [hw]; exact oneL_quote t _
    · rw [hw]
      have := oneL_quote t []
      rwa [List.append_nil] at this
  · have hw : written ⟨(k : Nat), t, n, p⟩ = t := if_neg (show ¬(k : Int) = 3 by omega)
    have hs := one_self h hk
    have ht : t.length = len := by rw [e, List.length_take]; omega
    rw [← e] at hs
    obtain ⟨m, hm⟩ : ∃ m, len = m + 1 := ⟨len - 1, by omega⟩
    have ht2 : t = c :: r.take m := by rw [e, hm, List.take_succ_cons]
    rw [← ht] at hs
    refine ⟨⟨k, n, rfl, rfl, ?_, ?_, ?_, ?_⟩, by rw [hw]; omega⟩
    · rw [hw]; omega
    · intro rest
      rw [hw, ht2]
      exact skip_stop h0 _
    · intro rest; rw [hw]; exact one_app hs sep32 rest
    · rw [hw]; exact hs

theorem scans_good {p : Nat} {l : List UInt8} {ts : List Tk} (h : Scans p l ts) : (∀ t ∈ ts, Good t) ∧ (writeL ts).length + (if ts = [] then 0 else 1) ≤ 2 * l.length := by
  induction h with
  | done p l hd => exact ⟨fun t ht => (by cases ht), by simp [writeL, joinL]⟩
  | more p l c r k t n len ts hd ho hs ih =>
    have h0 := skip_idem false l
    rw [hd] at h0
    obtain ⟨g1, g2⟩ := good_of h0 ho ((p + skipN false l : Nat) : Int)
    have hlen := oneL_len _ _ _ _ _ ho
    have hl := congrArg List.length hd
    rw [List.length_drop, List.length_cons] at hl
    rw [List.length_cons] at hlen
    obtain ⟨i1, i2⟩ := ih
    rw [List.length_drop, List.length_cons] at i2
    refine ⟨fun u hu => ?_, ?_⟩
    · rcases List.mem_cons.1 hu with rfl | hu
      · exact g1
      · exact i1 u hu
    · rw [if_neg (by simp)]
      cases ts with
      | nil =>
        show (written _).length + 1 ≤ _
        omega
      | cons u us =>
        rw [if_neg (by simp)] at i2
        show (written _ ++ 32 :: writeL (u :: us)).length + 1 ≤ _
        rw [List.length_append, List.length_cons]
        omega

/-- Alike but for the places. -/
def key3 (t : Tk) : Int × List UInt8 × Int := (t.kind, t.text, t.n)
def Alike (a b : List Tk) : Prop := a.map key3 = b.map key3

theorem scan_blank (p : Nat) (l : List UInt8) : scanL p (32 :: l) = scanL (p + 1) l := by
  rw [scanL_at, scanL_at]
  have : skipN false (32 :: l) = skipN false l + 1 := by rw [skipN, if_neg (by decide), if_pos (by decide)]
  rw [this, List.drop_succ_cons]
  congr 1
  omega

theorem write_scan : ∀ (ts : List Tk), (∀ t ∈ ts, Good t) → ∀ p, ∃ us, scanL p (writeL ts) = .toks us ∧ Alike us ts
  | [], _, p => ⟨[], rfl, rfl⟩
  | [t], h, p => by
    obtain ⟨k, n, hk, hn, h0, h1, h2, h3⟩ := h t (by simp)
    have h1' := h1 []
    rw [List.append_nil] at h1'
    refine ⟨[⟨k, t.text, n, p⟩], ?_, ?_⟩
    · show scanL p (written t) = _
      rw [scanL_step h1' h3, List.drop_length, scanL_nil]; rfl
    · unfold Alike key3
      simp [hk, hn]
  | t :: u :: ts, h, p => by
    obtain ⟨k, n, hk, hn, h0, h1, h2, h3⟩ := h t (by simp)
    obtain ⟨us, i1, i2⟩ := write_scan (u :: ts) (fun x hx => h x (by simp [hx])) (p + (written t).length + 1)
    refine ⟨⟨k, t.text, n, p⟩ :: us, ?_, ?_⟩
    · show scanL p (written t ++ 32 :: writeL (u :: ts)) = _
      rw [scanL_step (h1 _) (h2 _), List.drop_left, scan_blank, i1]; rfl
    · unfold Alike at i2 ⊢
      rw [List.map_cons, i2]
      unfold key3
      simp [hk, hn]

theorem written_key {a b : Tk} (h : key3 a = key3 b) : written a = written b := by
  unfold key3 at h
  obtain ⟨h1, h2⟩ := Prod.mk.inj h
  obtain ⟨h3, h4⟩ := Prod.mk.inj h2
  unfold written
  rw [h1, h3]
theorem map_written : ∀ (a b : List Tk), Alike a b → a.map written = b.map written
  | [], [], _ => rfl
  | [], _ :: _, h => by unfold Alike at h; simp at h
  | _ :: _, [], h => by unfold Alike at h; simp at h
  | x :: a, y :: b, h => by
    unfold Alike at h
    rw [List.map_cons, List.map_cons] at h
    obtain ⟨h1, h2⟩ := List.cons.inj h
    rw [List.map_cons, List.map_cons, written_key h1, map_written a b h2]
theorem write_alike {a b : List Tk} (h : Alike a b) : writeL a = writeL b := by unfold writeL; rw [map_written a b h]

end Go.Proofs.YtemlceicmpcboaaGreatDoor.Lx
namespace Go.Proofs.YtemlceicmpcboaaGreatDoor.Lx
open Go.RowKit Dk

/-- A slice of tokens, wherever it lies. -/
def Toks (W : World) (v : Value) (ts : List Tk) : Prop := ∃ p c, v = .slice p ts.length c ∧ ts.length ≤ c ∧ (ts = [] ∨ ∃ g o, p = some ⟨g, o, none⟩ ∧ g < W.heap.size ∧ W.rangeAt g o (tcells ts))

theorem Toks.later {W W' : World} {v : Value} {ts : List Tk} (h : Toks W v ts) (hb : Below W.heap.size W W') : Toks W' v ts := by
  obtain ⟨p, c, rfl, hc, h | ⟨g, o, rfl, hg, hr⟩⟩ := h
  · exact ⟨p, c, rfl, hc, .inl h⟩
  · exact ⟨_, c, rfl, hc, .inr ⟨g, o, rfl, Nat.lt_of_lt_of_le hg hb.size, rangeAt_block hr (hb.block g hg)⟩⟩

theorem TR.toks {w W : World} {v : Value} {ts : List Tk} (h : TR w W v ts) : Toks W v ts := by
  rcases h.row.2 with ⟨hv, h0⟩ | ⟨g, cap, cur, hv, hbg, hg, h3, h4, h5, h6⟩
  · exact ⟨none, 0, by rw [hv, h0], by omega, .inl (List.eq_nil_of_length_eq_zero h0)⟩
  · have hrow := h.row
    rw [hv] at hrow
    refine ⟨_, cap, hv, h3, .inr ⟨g, 0, rfl, ?_, ?_⟩⟩
    · rcases Nat.lt_or_ge g W.heap.size with h | h
      · exact h
      · rw [Array.getElem?_eq_none h] at hg; cases hg
    · exact ownsRow_range hrow

theorem tcells_at {ts : List Tk} {i : Nat} (h : i < ts.length) (j : Nat) (hj : j < 4) : (tcells ts)[i * 4 + j]? = (ts[i]).cells[j]? := by
  induction ts generalizing i with
  | nil => simp at h
  | cons t ts ih =>
    rw [tcells_cons]
    cases i with
    | zero => rw [Nat.zero_mul, Nat.zero_add, List.getElem?_append_left (by show j < 4; exact hj)]; rfl
    | succ i =>
      rw [List.getElem?_append_right (by show 4 ≤ _; omega)]
      rw [show (i + 1) * 4 + j - t.cells.length = i * 4 + j by show (i + 1) * 4 + j - 4 = _; omega]
      exact ih (by simpa using h)

/-- Alike; with their places, if asked for. -/
def AlikeP (b : Bool) (x y : List Tk) : Prop := x.length = y.length ∧ ∀ i (h : i < x.length) (h' : i < y.length), x[i].kind = y[i].kind ∧ x[i].text = y[i].text ∧ x[i].n = y[i].n ∧ (b = true → x[i].place = y[i].place)

theorem alikeP_of {x y : List Tk} (h : Alike x y) : AlikeP false x y := by
  have hl : x.length = y.length := by have := congrArg List.length h; simpa using this
  refine ⟨hl, fun i h1 h2 => ?_⟩
  have e : (x.map key3)[i]? = (y.map key3)[i]? := by rw [h]
  rw [List.getElem?_map, List.getElem?_map, List.getElem?_eq_getElem h1, List.getElem?_eq_getElem h2] at e
  have e2 : key3 x[i] = key3 y[i] := Option.some.inj e
  unfold key3 at e2
  obtain ⟨h3, h4⟩ := Prod.mk.inj e2
  obtain ⟨h5, h6⟩ := Prod.mk.inj h4
  exact ⟨h3, h5, h6, fun h => by cases h⟩
theorem alikeP_refl (b : Bool) (x : List Tk) : AlikeP b x x := ⟨rfl, fun _ _ _ => ⟨rfl, rfl, rfl, fun _ => rfl⟩⟩

theorem ws_region {P : Program} {id : Nat} {Q : Exit → Act → World → Prop} {a : Act} {w : World} {l : List Oper} (hm : P.follows .mixedOrders = true) (hB : Region.lexB .any l.toArray = true)
    (w1 : World) (hw : w.drew = w1) (h : WS P l.toArray w1 (fun a' => Q .normal a' w1) l a) : (Code.region id l.toArray true).wp P Q a w :=
  region_still hm hB w1 hw h.out

end Go.Proofs.YtemlceicmpcboaaGreatDoor.Lx
