/- The walk of lex.Name: its contract. The walks of what image.Right asks of elements, and of protos: their contracts. No condition but those that each states. -/
import Derived.Test.YtmloljfnnkfkjaaDoorMgAF
import Derived.Test.YtmloljfnnkfkjaaDoorMgAE
namespace Go.Proofs.YtmloljfnnkfkjaaDoor.Lx
open Go.RowKit Dk
theorem spanN_full (p : UInt8 → Bool) : ∀ l : List UInt8, spanN p l = l.length ↔ l.all p = true
  | [] => by simp [spanN]
  | c :: r => by
    have h := spanN_full p r
    have hle := spanN_le p r
    unfold spanN
    by_cases hc : p c = true
    · rw [if_pos hc, List.length_cons, List.all_cons, hc, Bool.true_and, ← h]; omega
    · rw [if_neg hc, List.length_cons, List.all_cons]; simp [hc]
theorem isName_cons (c : UInt8) (r : List UInt8) : isName (c :: r) = (decide ((c :: r).length ≤ 16) && isL c && decide (spanN isW (c :: r) = (c :: r).length) && !isKey (c :: r)) := by
  unfold isName
  have h : (c :: r).all isW = decide (spanN isW (c :: r) = (c :: r).length) := by
    cases h : (c :: r).all isW with
    | true => exact (decide_eq_true ((spanN_full _ _).2 h)).symm
    | false => exact (decide_eq_false (fun e => by rw [(spanN_full _ _).1 e] at h; cases h)).symm
  rw [h]
  simp
theorem i32_byte (c : UInt8) : IntKind.i32.wrap (c.toNat : Int) = (c.toNat : Int) := by
  have := c.toNat_lt
  simp [IntKind.wrap, IntKind.bits, IntKind.signed]; omega
set_option maxHeartbeats 400000 in
theorem name_nil (w : World) : Calls Tryd.prog 27 #[.string ⟨#[]⟩] w fun e w' => e = .returned (.bool (isName [])) ∧ Below w.heap.size w w' := by
  go_enter Tryd.func27, Tryd.ntmps27
  go_wp2
  go_ret
  exact ⟨rfl, Below.refl _ _⟩
set_option maxHeartbeats 1000000 in
theorem name_cons (c : UInt8) (r : List UInt8) (w : World) (hs : (c :: r).length ≤ 2 ^ 40) : Calls Tryd.prog 27 #[.string (strOf (c :: r))] w fun e w' => e = .returned (.bool (isName (c :: r))) ∧ Below w.heap.size w w' := by
  have hsz := strOf_size (c :: r)
  have hne : ((strOf (c :: r)).toList == []) = false := by rw [strOf_tl]; rfl
  have hne2 : ((strOf (c :: r)).toList != []) = true := by rw [strOf_tl]; rfl
  have hpos : 0 < (strOf (c :: r)).size := by rw [hsz]; simp
  have hidx : ∀ W : World, (Instr.index 9 (.string (strOf (c :: r))) (.int .i64 0)).run Tryd.prog W = .ok (.int .u8 (c.toNat : Int)) W := fun W => by
    have h1 : ((strOf (c :: r))[0]'hpos) = c := rfl
    rw [← h1]
    go_simp
  have hcv := i32_byte c
  have CL := Lib.hid (fun W => letter_any (c.toNat : Int) W)
  have CW : Hid (∀ W, Calls Tryd.prog 57 #[.string (strOf (c :: r)), .int .i64 0] W fun e w' => e = .returned (.int .i64 (spanN isW (c :: r) : Nat)) ∧ Below W.heap.size W w') := Lib.hid (fun W => by
    have := wordEnd_any (strOf (c :: r)) 0 W (Nat.zero_le _) (by omega)
    rw [show from' (strOf (c :: r)) 0 = c :: r by simp [from', strOf], Nat.zero_add] at this
    exact this)
  have CK := Lib.hid (fun W => key_any (c :: r) W)
  have HN := Lib.hid (isName_cons c r)
  generalize isName (c :: r) = N at *
  generalize (c :: r).length = m at *
  generalize spanN isW (c :: r) = n at *
  generalize isKey (c :: r) = K at *
  generalize strOf (c :: r) = s at *
  by_cases h16 : m ≤ 16
  · cases hl : isL c with
    | false =>
      have k1 : rL (c.toNat : Int) = false := hl
      rw [k1] at CL
      have HF : Hid (N = false) := Lib.hid (by rw [HN.out, hl]; simp)
      clear k1 hl
      go_enter Tryd.func27, Tryd.ntmps27
      go_wp2_with (go_at_call 56; refine (CL.out _).mono ?_; rintro e w' ⟨rfl, rfl⟩)
      go_ret
      exact ⟨by rw [HF.out]; rfl, Below.refl _ _⟩
    | true =>
      have k1 : rL (c.toNat : Int) = true := hl
      rw [k1] at CL
      by_cases hn : n = m
      · have HF : Hid (N = !K) := Lib.hid (by rw [HN.out, hl]; simp [h16, hn])
        subst hn
        clear k1 hl
        cases K
        all_goals
          go_enter Tryd.func27, Tryd.ntmps27
          go_wp2_with (first
            | (go_at_call 56; refine (CL.out _).mono ?_; rintro e w' ⟨rfl, rfl⟩)
            | (go_at_call 57; refine (CW.out _).mono ?_; rintro e w' ⟨rfl, hb⟩; have HB := Lib.hid hb; clear hb)
            | (go_at_call 58; refine (CK.out _).mono ?_; rintro e w' ⟨rfl, rfl⟩))
          go_ret
          exact ⟨by rw [HF.out]; rfl, HB.out⟩
      · have HF : Hid (N = false) := Lib.hid (by rw [HN.out, hl]; simp [hn])
        have hnm : ((n : Int) == (m : Int)) = false := by simp; omega
        clear k1 hl
        go_enter Tryd.func27, Tryd.ntmps27
        go_wp2_with (first
          | (go_at_call 56; refine (CL.out _).mono ?_; rintro e w' ⟨rfl, rfl⟩)
          | (go_at_call 57; refine (CW.out _).mono ?_; rintro e w' ⟨rfl, hb⟩; have HB := Lib.hid hb; clear hb))
        go_ret
        exact ⟨by rw [HF.out]; rfl, HB.out⟩
  · have HF : Hid (N = false) := Lib.hid (by rw [HN.out]; simp [h16])
    go_enter Tryd.func27, Tryd.ntmps27
    go_wp2
    go_ret
    exact ⟨by rw [HF.out]; rfl, Below.refl _ _⟩
theorem name_any (l : List UInt8) (w : World) (hs : l.length ≤ 2 ^ 40) : Calls Tryd.prog 27 #[.string (strOf l)] w fun e w' => e = .returned (.bool (isName l)) ∧ Below w.heap.size w w' := by
  cases l with
  | nil => exact name_nil w
  | cons c r => exact name_cons c r w hs
end Go.Proofs.YtmloljfnnkfkjaaDoor.Lx

namespace Go.Proofs.YtmloljfnnkfkjaaDoor.Im
open Go.RowKit Dk In

/-- A block that holds these cells. -/
structure El (W : World) (b : Nat) (cs : List Value) : Prop where
  cells : W.rangeAt b 0 cs
  lt : b < W.heap.size
theorem El.later {W W' : World} {b : Nat} {cs : List Value} (h : El W b cs) (k : Below W.heap.size W W') : El W' b cs := ⟨rangeAt_block h.cells (k.block b h.lt), Nat.lt_of_lt_of_le h.lt k.size⟩
theorem El.at {W : World} {b : Nat} {cs : List Value} (h : El W b cs) (i : Nat) (u : Value) (hu : cs[i]? = some u) : W.cell? ⟨b, i, none⟩ = some u := by have := h.cells i u hu; rwa [Nat.zero_add] at this
theorem el_new (w : World) (cs : List Value) (t : TypeId) : El (w.alloc (.cells cs.toArray t)) w.heap.size cs := ⟨range_new w cs t, by simp⟩
variable {X : Nat → Prop}
theorem all_p {α : Type} (f : α → Bool) (m : Nat) (l : List α) : allB f m l = (decide ((l.length : Int) ≤ (m : Int)) && (List.range l.length).all fun i => ((l[i]?).map f).getD false) := by
  rw [Bool.eq_iff_iff, allB_iff, Bool.and_eq_true, decide_eq_true_eq, List.all_eq_true]
  constructor
  · rintro ⟨h1, h2⟩
    refine ⟨by omega, fun i hi => ?_⟩
    have hi' := List.mem_range.1 hi
    rw [List.getElem?_eq_getElem hi']
    exact h2 _ (List.getElem_mem hi')
  · rintro ⟨h1, h2⟩
    refine ⟨by omega, fun x hx => ?_⟩
    obtain ⟨i, hi, rfl⟩ := List.getElem_of_mem hx
    have := h2 i (List.mem_range.2 hi)
    rwa [List.getElem?_eq_getElem hi] at this
theorem Row.ps {W : World} {p : Option Addr} {c k : Nat} {css : List (List Value)} (h : Row X W (.slice p css.length c) css) (hk : ∀ c ∈ css, c.length = k) : ∀ i, i < css.length → ∃ g o, p = some ⟨g, o, none⟩ ∧ g < W.heap.size ∧ W.rangeAt g (o + i * k) (css.getD i []) := by
  intro i hi
  obtain ⟨g, o, hp, hg, hr⟩ := h.at hk i hi
  refine ⟨g, o, hp, hg.2, ?_⟩
  rw [List.getD_eq_getElem?_getD, List.getElem?_eq_getElem hi]
  exact hr
theorem getD_mem {css : List (List Value)} {i : Nat} (h : i < css.length) : css.getD i [] ∈ css := by
  rw [List.getD_eq_getElem?_getD, List.getElem?_eq_getElem h]; exact List.getElem_mem h
def Ones (css : List (List Value)) : Prop := ∀ c ∈ css, ∀ u ∈ c, u.oneCell' = true
theorem us_ones (l : List Us) : Ones (l.map Us.cells) := by
  intro c hc u hu
  obtain ⟨x, _, rfl⟩ := List.mem_map.1 hc
  simp [Us.cells] at hu
  rcases hu with rfl | rfl | rfl <;> rfl
theorem cp_ones (l : List Cp) : Ones (l.map Cp.cells) := by
  intro c hc u hu
  obtain ⟨x, _, rfl⟩ := List.mem_map.1 hc
  simp [Cp.cells] at hu
  rcases hu with rfl | rfl <;> rfl
theorem vl_ones (l : List Vl) : Ones (l.map Vl.cells) := by
  intro c hc u hu
  obtain ⟨x, _, rfl⟩ := List.mem_map.1 hc
  simp [Vl.cells] at hu
  rcases hu with rfl | rfl | rfl <;> rfl
theorem ix_ones (l : List Ix) : Ones (l.map Ix.cells) := by
  intro c hc u hu
  obtain ⟨x, _, rfl⟩ := List.mem_map.1 hc
  exact i_ones x u hu
theorem pc_ones {W : World} {cs : List Value} {p : Pr} (h : PC X W cs p) : ∀ u ∈ cs, u.oneCell' = true := by
  obtain ⟨a, b, c, rfl, h1, h2, h3⟩ := h
  obtain ⟨p1, c1, rfl⟩ := Row.form h1
  obtain ⟨p2, c2, rfl⟩ := Row.form h2
  obtain ⟨p3, c3, rfl⟩ := Row.form h3
  intro u hu
  simp at hu
  rcases hu with rfl | rfl | rfl | rfl | rfl | rfl <;> rfl
theorem Each.ones {W : World} {css : List (List Value)} {l : List Pr} (h : Each X W css l) : Ones css := by
  intro c hc
  obtain ⟨i, hi, rfl⟩ := List.getElem_of_mem hc
  exact pc_ones (h.at' i _ _ (List.getElem?_eq_getElem hi) (List.getElem?_eq_getElem (by rw [← h.len]; exact hi)))
theorem map_at {α : Type} {c : α → List Value} {l : List α} {i : Nat} {cs : List Value} {x : α} (h1 : (l.map c)[i]? = some cs) (h2 : l[i]? = some x) : cs = c x := by
  rw [List.getElem?_map, h2] at h1
  simpa using h1.symm

theorem row_us {l : List Us} (f : Us → Bool) (m : Nat) (lim : Int) (hm : lim = (m : Int)) {F : FuncId} (hF : Enters F) {v : Value} {W : World} {css : List (List Value)} (h : Row X W v css) (hk : ∀ c ∈ css, c.length = 3) (h1 : Ones css) (hlen : css.length = l.length) (hl : l.length ≤ 1099511627776)
    (hcl : ∀ (i : Nat) (cs : List Value) (x : Us), css[i]? = some cs → l[i]? = some x → ∀ W', Below W.heap.size W W' → Calls Tryd.prog F #[.agg cs.toArray] W' fun e W2 => e = .returned (.bool (f x)) ∧ Below W'.heap.size W' W2) :
    Calls Tryd.prog 29 #[v, .int .i64 lim, .func (.func F) #[] #[]] W fun e W' => e = .returned (.bool (allB f m l)) ∧ Below W.heap.size W W' := by
  obtain ⟨p, c, rfl⟩ := h.form
  subst hm
  refine alls_us (fun i => css.getD i []) (fun i => ((l[i]?).map f).getD false) _ _ p c F hF W (h.ps hk) (fun i hi => hk _ (getD_mem hi)) (fun i hi => h1 _ (getD_mem hi)) (fun i hi W' hb => ?_) (by omega) (by rw [hlen]; exact all_p f m l)
  have e1 : css[i]? = some (css.getD i []) := by rw [List.getD_eq_getElem?_getD, List.getElem?_eq_getElem hi]; rfl
  have e2 : l[i]? = some (l[i]'(by omega)) := List.getElem?_eq_getElem (by omega)
  rw [e2]
  exact hcl i _ _ e1 e2 W' hb

theorem row_pr {l : List Pr} (f : Pr → Bool) (m : Nat) (lim : Int) (hm : lim = (m : Int)) {F : FuncId} (hF : Enters F) {v : Value} {W : World} {css : List (List Value)} (h : Row X W v css) (hk : ∀ c ∈ css, c.length = 6) (h1 : Ones css) (hlen : css.length = l.length) (hl : l.length ≤ 1099511627776)
    (hcl : ∀ (i : Nat) (cs : List Value) (x : Pr), css[i]? = some cs → l[i]? = some x → ∀ W', Below W.heap.size W W' → Calls Tryd.prog F #[.agg cs.toArray] W' fun e W2 => e = .returned (.bool (f x)) ∧ Below W'.heap.size W' W2) :
    Calls Tryd.prog 31 #[v, .int .i64 lim, .func (.func F) #[] #[]] W fun e W' => e = .returned (.bool (allB f m l)) ∧ Below W.heap.size W W' := by
  obtain ⟨p, c, rfl⟩ := h.form
  subst hm
  refine alls_pr (fun i => css.getD i []) (fun i => ((l[i]?).map f).getD false) _ _ p c F hF W (h.ps hk) (fun i hi => hk _ (getD_mem hi)) (fun i hi => h1 _ (getD_mem hi)) (fun i hi W' hb => ?_) (by omega) (by rw [hlen]; exact all_p f m l)
  have e1 : css[i]? = some (css.getD i []) := by rw [List.getD_eq_getElem?_getD, List.getElem?_eq_getElem hi]; rfl
  have e2 : l[i]? = some (l[i]'(by omega)) := List.getElem?_eq_getElem (by omega)
  rw [e2]
  exact hcl i _ _ e1 e2 W' hb

theorem row_cp {l : List Cp} (f : Cp → Bool) (m : Nat) (lim : Int) (hm : lim = (m : Int)) {F : FuncId} (hF : Enters F) {v : Value} {W : World} {css : List (List Value)} (h : Row X W v css) (hk : ∀ c ∈ css, c.length = 2) (h1 : Ones css) (hlen : css.length = l.length) (hl : l.length ≤ 1099511627776)
    (hcl : ∀ (i : Nat) (cs : List Value) (x : Cp), css[i]? = some cs → l[i]? = some x → ∀ W', Below W.heap.size W W' → Calls Tryd.prog F #[.agg cs.toArray] W' fun e W2 => e = .returned (.bool (f x)) ∧ Below W'.heap.size W' W2) :
    Calls Tryd.prog 63 #[v, .int .i64 lim, .func (.func F) #[] #[]] W fun e W' => e = .returned (.bool (allB f m l)) ∧ Below W.heap.size W W' := by
  obtain ⟨p, c, rfl⟩ := h.form
  subst hm
  refine alls_cp (fun i => css.getD i []) (fun i => ((l[i]?).map f).getD false) _ _ p c F hF W (h.ps hk) (fun i hi => hk _ (getD_mem hi)) (fun i hi => h1 _ (getD_mem hi)) (fun i hi W' hb => ?_) (by omega) (by rw [hlen]; exact all_p f m l)
  have e1 : css[i]? = some (css.getD i []) := by rw [List.getD_eq_getElem?_getD, List.getElem?_eq_getElem hi]; rfl
  have e2 : l[i]? = some (l[i]'(by omega)) := List.getElem?_eq_getElem (by omega)
  rw [e2]
  exact hcl i _ _ e1 e2 W' hb

theorem row_vl {l : List Vl} (f : Vl → Bool) (m : Nat) (lim : Int) (hm : lim = (m : Int)) {F : FuncId} (hF : Enters F) {v : Value} {W : World} {css : List (List Value)} (h : Row X W v css) (hk : ∀ c ∈ css, c.length = 3) (h1 : Ones css) (hlen : css.length = l.length) (hl : l.length ≤ 1099511627776)
    (hcl : ∀ (i : Nat) (cs : List Value) (x : Vl), css[i]? = some cs → l[i]? = some x → ∀ W', Below W.heap.size W W' → Calls Tryd.prog F #[.agg cs.toArray] W' fun e W2 => e = .returned (.bool (f x)) ∧ Below W'.heap.size W' W2) :
    Calls Tryd.prog 59 #[v, .int .i64 lim, .func (.func F) #[] #[]] W fun e W' => e = .returned (.bool (allB f m l)) ∧ Below W.heap.size W W' := by
  obtain ⟨p, c, rfl⟩ := h.form
  subst hm
  refine alls_vl (fun i => css.getD i []) (fun i => ((l[i]?).map f).getD false) _ _ p c F hF W (h.ps hk) (fun i hi => hk _ (getD_mem hi)) (fun i hi => h1 _ (getD_mem hi)) (fun i hi W' hb => ?_) (by omega) (by rw [hlen]; exact all_p f m l)
  have e1 : css[i]? = some (css.getD i []) := by rw [List.getD_eq_getElem?_getD, List.getElem?_eq_getElem hi]; rfl
  have e2 : l[i]? = some (l[i]'(by omega)) := List.getElem?_eq_getElem (by omega)
  rw [e2]
  exact hcl i _ _ e1 e2 W' hb

theorem row_ix {l : List Ix} (f : Ix → Bool) (m : Nat) (lim : Int) (hm : lim = (m : Int)) {F : FuncId} (hF : Enters F) {v : Value} {W : World} {css : List (List Value)} (h : Row X W v css) (hk : ∀ c ∈ css, c.length = 4) (h1 : Ones css) (hlen : css.length = l.length) (hl : l.length ≤ 1099511627776)
    (hcl : ∀ (i : Nat) (cs : List Value) (x : Ix), css[i]? = some cs → l[i]? = some x → ∀ W', Below W.heap.size W W' → Calls Tryd.prog F #[.agg cs.toArray] W' fun e W2 => e = .returned (.bool (f x)) ∧ Below W'.heap.size W' W2) :
    Calls Tryd.prog 61 #[v, .int .i64 lim, .func (.func F) #[] #[]] W fun e W' => e = .returned (.bool (allB f m l)) ∧ Below W.heap.size W W' := by
  obtain ⟨p, c, rfl⟩ := h.form
  subst hm
  refine alls_ix (fun i => css.getD i []) (fun i => ((l[i]?).map f).getD false) _ _ p c F hF W (h.ps hk) (fun i hi => hk _ (getD_mem hi)) (fun i hi => h1 _ (getD_mem hi)) (fun i hi W' hb => ?_) (by omega) (by rw [hlen]; exact all_p f m l)
  have e1 : css[i]? = some (css.getD i []) := by rw [List.getD_eq_getElem?_getD, List.getElem?_eq_getElem hi]; rfl
  have e2 : l[i]? = some (l[i]'(by omega)) := List.getElem?_eq_getElem (by omega)
  rw [e2]
  exact hcl i _ _ e1 e2 W' hb

set_option maxHeartbeats 1000000 in
set_option maxRecDepth 100000 in
theorem rightUse_any (x : Us) (w : World) (h1 : x.md.length ≤ 1099511627776) (h2 : x.nm.length ≤ 1099511627776) : Calls Tryd.prog 30 #[.agg x.cells.toArray] w fun e w' => e = .returned (.bool (useB x)) ∧ Below w.heap.size w w' := by
  have NM_a := Lib.hid (fun W => Lx.name_any x.md W h1)
  have NM_b := Lib.hid (fun W => Lx.name_any x.nm W h2)
  have WT := Lib.hid (fun W => within_any x.ps 0 8 W)
  obtain ⟨W1, hW1⟩ : ∃ W1, W1 = w.alloc (.cells x.cells.toArray 43) := ⟨_, rfl⟩
  have HB1 : Hid (Below w.heap.size w W1) := Lib.hid (by rw [hW1]; exact (Below.refl _ _).alloc (Nat.le_refl _) _)
  have HX1 : Hid (El W1 w.heap.size x.cells) := Lib.hid (by rw [hW1]; exact el_new w _ _)
  obtain ⟨md, nm, ps⟩ := x
  replace HX1 : Hid (El W1 w.heap.size [.string (strOf md), .string (strOf nm), .int .i64 ps]) := HX1
  have hW2 : w.alloc (.cells #[.string (strOf md), .string (strOf nm), .int .i64 ps] 43) = W1 := hW1.symm
  show Calls _ _ #[.agg #[.string (strOf md), .string (strOf nm), .int .i64 ps]] w fun e w' => e = .returned (.bool (Lx.isName md && Lx.isName nm && inB ps 0 8)) ∧ Below w.heap.size w w'
  have c0_1 : W1.cell? ⟨w.heap.size, 0, none⟩ = some (.string (strOf md)) := HX1.out.at 0 _ rfl
  replace NM_a : Hid (∀ W, Calls Tryd.prog 27 #[.string (strOf md)] W fun e w' => e = .returned (.bool (Lx.isName md)) ∧ Below W.heap.size W w') := NM_a
  replace NM_b : Hid (∀ W, Calls Tryd.prog 27 #[.string (strOf nm)] W fun e w' => e = .returned (.bool (Lx.isName nm)) ∧ Below W.heap.size W w') := NM_b
  replace WT : Hid (∀ W, Calls Tryd.prog 28 #[.int .i64 ps, .int .i64 0, .int .i64 8] W fun e w' => e = .returned (.bool (inB ps 0 8)) ∧ W = w') := WT
  generalize Lx.isName md = A at *
  generalize Lx.isName nm = B at *
  generalize inB ps 0 8 = C at *
  generalize strOf md = sm at *
  generalize strOf nm = sn at *
  clear hW1 h1 h2
  cases A with
  | false =>
    go_enter Tryd.func30, Tryd.ntmps30
    go_wp2_with fail
    refine (NM_a.out _).mono ?_
    rintro e W2 ⟨rfl, hb⟩
    have HX2 := Lib.hid (HX1.out.later hb)
    have HB2 := Lib.hid (chain2 HB1.out hb)
    have c0_2 : W2.cell? ⟨w.heap.size, 0, none⟩ = some (.string sm) := HX2.out.at 0 _ rfl
    have c1_2 : W2.cell? ⟨w.heap.size, 1, none⟩ = some (.string sn) := HX2.out.at 1 _ rfl
    have c2_2 : W2.cell? ⟨w.heap.size, 2, none⟩ = some (.int .i64 ps) := HX2.out.at 2 _ rfl
    clear hb
    go_wp2
    go_ret
    exact ⟨rfl, HB2.out⟩
  | true =>
    cases B with
    | false =>
      go_enter Tryd.func30, Tryd.ntmps30
      go_wp2_with fail
      refine (NM_a.out _).mono ?_
      rintro e W2 ⟨rfl, hb⟩
      have HX2 := Lib.hid (HX1.out.later hb)
      have HB2 := Lib.hid (chain2 HB1.out hb)
      have c0_2 : W2.cell? ⟨w.heap.size, 0, none⟩ = some (.string sm) := HX2.out.at 0 _ rfl
      have c1_2 : W2.cell? ⟨w.heap.size, 1, none⟩ = some (.string sn) := HX2.out.at 1 _ rfl
      have c2_2 : W2.cell? ⟨w.heap.size, 2, none⟩ = some (.int .i64 ps) := HX2.out.at 2 _ rfl
      clear hb
      go_wp2_with fail
      refine (NM_b.out _).mono ?_
      rintro e W3 ⟨rfl, hb⟩
      have HX3 := Lib.hid (HX2.out.later hb)
      have HB3 := Lib.hid (chain2 HB2.out hb)
      have c0_3 : W3.cell? ⟨w.heap.size, 0, none⟩ = some (.string sm) := HX3.out.at 0 _ rfl
      have c1_3 : W3.cell? ⟨w.heap.size, 1, none⟩ = some (.string sn) := HX3.out.at 1 _ rfl
      have c2_3 : W3.cell? ⟨w.heap.size, 2, none⟩ = some (.int .i64 ps) := HX3.out.at 2 _ rfl
      clear hb
      go_wp2
      go_ret
      exact ⟨rfl, HB3.out⟩
    | true =>
      go_enter Tryd.func30, Tryd.ntmps30
      go_wp2_with fail
      refine (NM_a.out _).mono ?_
      rintro e W2 ⟨rfl, hb⟩
      have HX2 := Lib.hid (HX1.out.later hb)
      have HB2 := Lib.hid (chain2 HB1.out hb)
      have c0_2 : W2.cell? ⟨w.heap.size, 0, none⟩ = some (.string sm) := HX2.out.at 0 _ rfl
      have c1_2 : W2.cell? ⟨w.heap.size, 1, none⟩ = some (.string sn) := HX2.out.at 1 _ rfl
      have c2_2 : W2.cell? ⟨w.heap.size, 2, none⟩ = some (.int .i64 ps) := HX2.out.at 2 _ rfl
      clear hb
      go_wp2_with fail
      refine (NM_b.out _).mono ?_
      rintro e W3 ⟨rfl, hb⟩
      have HX3 := Lib.hid (HX2.out.later hb)
      have HB3 := Lib.hid (chain2 HB2.out hb)
      have c0_3 : W3.cell? ⟨w.heap.size, 0, none⟩ = some (.string sm) := HX3.out.at 0 _ rfl
      have c1_3 : W3.cell? ⟨w.heap.size, 1, none⟩ = some (.string sn) := HX3.out.at 1 _ rfl
      have c2_3 : W3.cell? ⟨w.heap.size, 2, none⟩ = some (.int .i64 ps) := HX3.out.at 2 _ rfl
      clear hb
      go_wp2_with fail
      refine (WT.out _).mono ?_
      rintro e W4 ⟨rfl, rfl⟩
      go_wp2
      go_ret
      exact ⟨rfl, HB3.out⟩

set_option maxHeartbeats 1000000 in
set_option maxRecDepth 100000 in
theorem rightCap_any (x : Cp) (w : World) : Calls Tryd.prog 64 #[.agg x.cells.toArray] w fun e w' => e = .returned (.bool (capB x)) ∧ Below w.heap.size w w' := by
  have WT := Lib.hid (fun W => within_any x.ix 0 255 W)
  obtain ⟨W1, hW1⟩ : ∃ W1, W1 = w.alloc (.cells x.cells.toArray 83) := ⟨_, rfl⟩
  have HB1 : Hid (Below w.heap.size w W1) := Lib.hid (by rw [hW1]; exact (Below.refl _ _).alloc (Nat.le_refl _) _)
  have HX1 : Hid (El W1 w.heap.size x.cells) := Lib.hid (by rw [hW1]; exact el_new w _ _)
  obtain ⟨up, ix⟩ := x
  replace HX1 : Hid (El W1 w.heap.size [.bool up, .int .i64 ix]) := HX1
  have hW2 : w.alloc (.cells #[.bool up, .int .i64 ix] 83) = W1 := hW1.symm
  show Calls _ _ #[.agg #[.bool up, .int .i64 ix]] w fun e w' => e = .returned (.bool (inB ix 0 255)) ∧ Below w.heap.size w w'
  have c1_1 : W1.cell? ⟨w.heap.size, 1, none⟩ = some (.int .i64 ix) := HX1.out.at 1 _ rfl
  replace WT : Hid (∀ W, Calls Tryd.prog 28 #[.int .i64 ix, .int .i64 0, .int .i64 255] W fun e w' => e = .returned (.bool (inB ix 0 255)) ∧ W = w') := WT
  generalize inB ix 0 255 = C at *
  clear hW1
  go_enter Tryd.func64, Tryd.ntmps64
  go_wp2_with fail
  refine (WT.out _).mono ?_
  rintro e W2 ⟨rfl, rfl⟩
  go_wp2
  go_ret
  exact ⟨rfl, HB1.out⟩

set_option maxHeartbeats 1000000 in
set_option maxRecDepth 100000 in
theorem rightConst_any (x : Vl) (w : World) : Calls Tryd.prog 60 #[.agg x.cells.toArray] w fun e w' => e = .returned (.bool (valB x)) ∧ Below w.heap.size w w' := by
  obtain ⟨W1, hW1⟩ : ∃ W1, W1 = w.alloc (.cells x.cells.toArray 45) := ⟨_, rfl⟩
  have HB1 : Hid (Below w.heap.size w W1) := Lib.hid (by rw [hW1]; exact (Below.refl _ _).alloc (Nat.le_refl _) _)
  have HX1 : Hid (El W1 w.heap.size x.cells) := Lib.hid (by rw [hW1]; exact el_new w _ _)
  obtain ⟨k, n, s⟩ := x
  replace HX1 : Hid (El W1 w.heap.size [.int .i64 k, .int .i64 n, .string (strOf s)]) := HX1
  have hW2 : w.alloc (.cells #[.int .i64 k, .int .i64 n, .string (strOf s)] 45) = W1 := hW1.symm
  show Calls _ _ #[.agg #[.int .i64 k, .int .i64 n, .string (strOf s)]] w fun e w' => e = .returned (.bool (valB ⟨k, n, s⟩)) ∧ Below w.heap.size w w'
  have c0 : W1.cell? ⟨w.heap.size, 0, none⟩ = some (.int .i64 k) := HX1.out.at 0 _ rfl
  have c1 : W1.cell? ⟨w.heap.size, 1, none⟩ = some (.int .i64 n) := HX1.out.at 1 _ rfl
  have c2 : W1.cell? ⟨w.heap.size, 2, none⟩ = some (.string (strOf s)) := HX1.out.at 2 _ rfl
  have es : (strOf s).toList.isEmpty = decide (s = []) := by
    rw [strOf_tl]
    cases s <;> rfl
  have esz : ((strOf s).size : Int) = (s.length : Int) := by rw [strOf_size]
  have HV : Hid (valB ⟨k, n, s⟩ = if k = 0 then decide (n = 0) && decide (s = []) else if k = 1 then decide (s = []) else if k = 2 then decide (n = 0) && decide (s.length ≤ 1024) else false) := Lib.hid rfl
  have e3 : decide (s.length ≤ 1024) = decide ((s.length : Int) ≤ 1024) := by rw [decide_eq_decide]; omega
  rw [e3, ← esz, ← es] at HV
  generalize valB ⟨k, n, s⟩ = R at *
  generalize strOf s = q at *
  clear hW1 es esz e3
  by_cases h0 : k = 0
  · have hv := HV.out
    rw [if_pos h0] at hv
    have z0 : (k == 0) = true := by simp [h0]
    clear HV
    have HH := Lib.hid h0
    clear h0
    by_cases h1 : n = 0
    · rw [decide_eq_true h1, Bool.true_and] at hv
      have z1 : (n == 0) = true := by simp [h1]
      subst hv
      have HH1 := Lib.hid h1
      clear h1
      go_enter Tryd.func60, Tryd.ntmps60
      go_wp2
      go_ret
      exact ⟨rfl, HB1.out⟩
    · rw [decide_eq_false h1, Bool.false_and] at hv
      have z1 : (n == 0) = false := by simp [h1]
      subst hv
      clear h1
      go_enter Tryd.func60, Tryd.ntmps60
      go_wp2
      go_ret
      exact ⟨rfl, HB1.out⟩
  · rw [if_neg h0] at HV
    have z0 : (k == 0) = false := by simp [h0]
    clear h0
    by_cases h0 : k = 1
    · have hv := HV.out
      rw [if_pos h0] at hv
      have z2 : (k == 1) = true := by simp [h0]
      clear HV h0
      subst hv
      go_enter Tryd.func60, Tryd.ntmps60
      go_wp2
      go_ret
      exact ⟨rfl, HB1.out⟩
    · rw [if_neg h0] at HV
      have z2 : (k == 1) = false := by simp [h0]
      clear h0
      by_cases h0 : k = 2
      · have hv := HV.out
        rw [if_pos h0] at hv
        have z3 : (k == 2) = true := by simp [h0]
        clear HV h0
        by_cases h1 : n = 0
        · rw [decide_eq_true h1, Bool.true_and] at hv
          have z1 : (n == 0) = true := by simp [h1]
          subst hv
          clear h1
          go_enter Tryd.func60, Tryd.ntmps60
          go_wp2
          go_ret
          exact ⟨rfl, HB1.out⟩
        · rw [decide_eq_false h1, Bool.false_and] at hv
          have z1 : (n == 0) = false := by simp [h1]
          subst hv
          clear h1
          go_enter Tryd.func60, Tryd.ntmps60
          go_wp2
          go_ret
          exact ⟨rfl, HB1.out⟩
      · have hv := HV.out
        rw [if_neg h0] at hv
        have z3 : (k == 2) = false := by simp [h0]
        clear HV h0
        subst hv
        go_enter Tryd.func60, Tryd.ntmps60
        go_wp2
        go_ret
        exact ⟨rfl, HB1.out⟩

end Go.Proofs.YtmloljfnnkfkjaaDoor.Im

