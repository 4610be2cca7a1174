/- The walks of the document's bare, op and fields: their contracts. A name for a text that stands elsewhere. What a module's tree that is right says of each of its nodes: plain facts. Whether kids' kinds are as the document's kids, exprs and function ask it, as groups take them: plain facts. The walks of the document's exprs, function and kids: their contracts. No condition but those that each states. -/
import Derived.Test.YtemlceicmpcboaaGreatDoorMgJ
import Derived.Test.YtemlceicmpcboaaGreatDoorMgU
import Derived.Deep.Cut
import Derived.Test.YtemlceicmpcboaaGreatDoorMgN
namespace Go.Proofs.YtemlceicmpcboaaGreatDoor.Tr
open Go.RowKit Dk Lx

theorem wpList_load_want {P : Program} {ops : Array Oper} {rest : List Oper} {op : Oper} {a : Act} {w : World} {Q : Exit → Act → World → Prop} (hw : Region.wanted op (yielded ops a.tmps) = true) (ty : TypeId) (x : Operand) (ho : op.op = .load ty x)
    (b o : Nat) (hx : a.eval x = .pointer (some ⟨b, o, none⟩)) (cs : List Value) (d : TypeDesc) (hc : w.rangeAt b o cs)
    (hu : P.underlying ty = some d) (hd : d.isRow = true) (hi : (P.info? ty).map (·.size) = some cs.length)
    (h : wpList P ops Q rest (a.put op.dst (.agg cs.toArray)) w) : wpList P ops Q (op :: rest) a w :=
  BigFrame.wpList_want hw fun _ hK => wp_load_mid ty x ho b o hx cs d hc hu hd hi (hK _ _ h)

/-- A cell of a node's block is put anew; another block's is not turned. -/
theorem nb_cell {W : World} {B j : Nat} {x y : Nd} {v : Value} (h : NB W B x) (hj : j < 5) (hc : ∀ i u, y.cells[i]? = some u → if i = j then u = v else x.cells[i]? = some u) : NB (W.setCell ⟨B, j, none⟩ v) B y := by
  obtain ⟨u0, hu0⟩ : ∃ u0, x.cells[j]? = some u0 := ⟨_, List.getElem?_eq_getElem (show j < x.cells.length from hj)⟩
  have hj0 : W.cell? ⟨B, 0 + j, none⟩ = some u0 := h.cells j u0 hu0
  rw [Nat.zero_add] at hj0
  refine ⟨fun i u hu => ?_, fun i hi => ?_, by simpa using h.lt⟩
  · have := hc i u hu
    rw [Nat.zero_add]
    by_cases hij : i = j
    · subst hij
      rw [if_pos rfl] at this
      subst this
      exact World.cell?_setCell_same _ _ _ hj0
    · rw [if_neg hij] at this
      rw [World.cell?_setCell_other _ _ _ _ (by intro e; simp at e <;> omega)]
      have h2 := h.cells i u this
      rwa [Nat.zero_add] at h2
  · obtain ⟨h1, h2⟩ := h.room i hi
    rw [Nat.zero_add] at h1 h2 ⊢
    by_cases hij : i = j
    · subst hij
      exact ⟨by rw [World.cell?_setCell_same _ _ _ hj0]; rfl, by simpa using h2⟩
    · exact ⟨by rw [World.cell?_setCell_other _ _ _ _ (by intro e; simp at e <;> omega)]; exact h1, by simpa using h2⟩
theorem nb_far {W : World} {B B' j : Nat} {x : Nd} {v : Value} (h : NB W B x) (hb : B' ≠ B) : NB (W.setCell ⟨B', j, none⟩ v) B x :=
  h.of_block (Below.heap_setCell _ _ _ _ (by simpa using fun e => hb e.symm)) (by simp)
theorem nb_free {W : World} {B : Nat} {x : Nd} (h : NB W B x) (j : Nat) (hj : j < 5) : W.frozen? ⟨B, j, none⟩ = false := by
  have := (h.room j hj).2
  rwa [Nat.zero_add] at this

theorem str_nil : strOf [] = ⟨#[]⟩ := rfl

set_option maxHeartbeats 2000000 in
theorem bare_bytes (k d z : Int) (Q S : ByteArray) (a b : Bool) (ha : (Q.toList == []) = a) (hb : (S.toList == []) = b) (w : World) :
    Calls Tryz.prog 138 #[.agg #[.int .i64 k, .int .i64 d, .string Q, .int .i64 z, .string S]] w fun e w' => e = .returned (.bool (a && b && decide (z = 0))) ∧ Below w.heap.size w w' := by
  have HB : Hid (Below w.heap.size w (w.alloc (.cells #[.int .i64 k, .int .i64 d, .string Q, .int .i64 z, .string S] 29))) := Lib.hid ((Below.refl _ _).alloc (Nat.le_refl _) _)
  cases a with
  | false =>
    have HF : Hid ((false && b && decide (z = 0)) = false) := Lib.hid (by simp)
    rw [HF.out]
    clear HF
    go_enter Tryz.func138, Tryz.ntmps138
    go_wp2
    go_ret
    exact ⟨rfl, HB.out⟩
  | true =>
    cases b with
    | false =>
      have HF : Hid ((true && false && decide (z = 0)) = false) := Lib.hid (by simp)
      rw [HF.out]
      clear HF
      go_enter Tryz.func138, Tryz.ntmps138
      go_wp2
      go_ret
      exact ⟨rfl, HB.out⟩
    | true =>
      by_cases hz : z = 0
      · subst hz
        have HF : Hid ((true && true && decide ((0 : Int) = 0)) = true) := Lib.hid (by simp)
        rw [HF.out]
        clear HF
        go_enter Tryz.func138, Tryz.ntmps138
        go_wp2
        go_ret
        exact ⟨rfl, HB.out⟩
      · have v1 : (z == 0) = false := by simpa using hz
        have HF : Hid ((true && true && decide (z = 0)) = false) := Lib.hid (by simp [hz])
        rw [HF.out]
        clear HF hz
        go_enter Tryz.func138, Tryz.ntmps138
        go_wp2
        go_ret
        exact ⟨rfl, HB.out⟩

theorem bare_any (x : Nd) (w : World) : Calls Tryz.prog 138 #[.agg x.cells.toArray] w fun e w' => e = .returned (.bool ((x.name == []) && (x.text == []) && decide (x.n = 0))) ∧ Below w.heap.size w w' :=
  bare_bytes x.kind x.kids x.n (strOf x.name) (strOf x.text) _ _ (by rw [strOf_tl]) (by rw [strOf_tl]) w

set_option maxHeartbeats 1000000 in
theorem op_any (l : List UInt8) (w : World) : Calls Tryz.prog 139 #[.string (strOf l)] w fun e w' => e = .returned (.bool (isBin l)) ∧ Below w.heap.size w w' := by
  have HB : Hid (Below w.heap.size w (w.alloc (.cells (binList.map fun l => Value.string (strOf l)).toArray 9))) := Lib.hid ((Below.refl _ _).alloc (Nat.le_refl _) _)
  have HC := Lib.hid (fun j k h => row_strings w binList 9 j k h)
  have HK := Lib.hid (isBin_iff l)
  go_enter Tryz.func139, Tryz.ntmps139
  go_wp2
  obtain ⟨W1, hW⟩ : ∃ W1, W1 = w.alloc (.cells (binList.map fun l => Value.string (strOf l)).toArray 9) := ⟨_, rfl⟩
  rw [← hW] at HB HC
  go_loopw [4] (fun vi wr => ∃ j : Nat, j ≤ 12 ∧ vi = .int .i64 (j : Int) ∧ wr = W1 ∧ Hid (l ∉ binList.take j)) (fun vi _ => 12 - (intOf vi).toNat)
  case atStart => exact ⟨0, Nat.zero_le _, rfl, hW.symm, Lib.hid (by simp)⟩
  case round =>
    obtain ⟨j, hj, rfl, rfl, hn⟩ := hrel
    by_cases hlt : j < 12
    · obtain ⟨k, hk⟩ : ∃ k, binList[j]? = some k := ⟨_, List.getElem?_eq_getElem (by show j < 12; exact hlt)⟩
      have c := HC.out j k hk
      have hb := str_beq k l
      have z0 : (0 : Int) ≤ (j : Int) := by omega
      have z1 : (j : Int) < 12 := by omega
      by_cases he : k = l
      · have HT : Hid (isBin l = true) := Lib.hid (HK.out.2 (by rw [← he]; exact List.mem_of_getElem? hk))
        rw [decide_eq_true he] at hb
        generalize strOf k = y at *
        generalize strOf l = z at *
        clear he hk hW
        go_wp2
        go_ret
        exact ⟨by rw [HT.out]; rfl, HB.out⟩
      · have HN : Hid (l ∉ binList.take (j + 1)) := Lib.hid (by
          have e := List.getElem?_eq_some_iff.1 hk
          obtain ⟨h1, h2⟩ := e
          rw [List.take_succ_eq_append_getElem h1, List.mem_append]
          rintro (h | h)
          · exact hn.out h
          · rw [List.mem_singleton, h2] at h; exact he h.symm)
        rw [decide_eq_false he] at hb
        generalize strOf k = y at *
        generalize strOf l = z at *
        clear he hk hW hn
        go_wp2
        go_roundw
        case rel => exact ⟨j + 1, by omega, by go_num, by trivial, HN⟩
        case measure => simp [intOf]; omega
    · obtain rfl : j = 12 := by omega
      have HF : Hid (isBin l = false) := Lib.hid (by
        cases h : isBin l with
        | false => rfl
        | true => exact absurd (HK.out.1 h) hn.out)
      clear hW hn
      go_wp2
      go_ret
      exact ⟨by rw [HF.out]; rfl, HB.out⟩

end Go.Proofs.YtemlceicmpcboaaGreatDoor.Tr
namespace Go.Proofs.YtemlceicmpcboaaGreatDoor.Tr
open Go.RowKit Dk Lx

/-- A node within a tree is a kid of one that is ahead of it. -/
theorem parent {ks : List Int} {i : Nat} : ∀ (f p n : Nat), i - p ≤ f → p < i → endW 1 (ks.drop p) = some n → i < p + n → ∃ (a c m j : Nat), a < i ∧ endW 1 (ks.drop a) = some m ∧ ks[a]? = some (c : Int) ∧ j < c ∧ pos ks (a + 1) j = i
  | 0, p, n, hf, hp, _, _ => by omega
  | f + 1, p, n, hf, hp, h, hi => by
    obtain ⟨k, hk, hk0, hF, hn1⟩ := endW_node h
    obtain ⟨c, rfl⟩ : ∃ c : Nat, k = (c : Int) := ⟨k.toNat, by omega⟩
    rw [Int.toNat_natCast] at hF
    have hend : pos ks (p + 1) c = p + n := by rw [pos_end hF]; omega
    -- the kid in whose tree it lies
    have key : ∀ t, t ≤ c → i < pos ks (p + 1) t → ∃ j, j < t ∧ pos ks (p + 1) j ≤ i ∧ i < pos ks (p + 1) (j + 1) := by
      intro t
      induction t with
      | zero => intro _ h0; have : pos ks (p + 1) 0 = p + 1 := rfl; omega
      | succ t ih =>
        intro ht hlt
        by_cases hle : pos ks (p + 1) t ≤ i
        · exact ⟨t, by omega, hle, hlt⟩
        · obtain ⟨j, h1, h2, h3⟩ := ih (by omega) (by omega)
          exact ⟨j, by omega, h2, h3⟩
    obtain ⟨j, hj, h1, h2⟩ := key c (Nat.le_refl _) (by omega)
    by_cases he : pos ks (p + 1) j = i
    · exact ⟨p, c, n, j, hp, h, hk, hj, he⟩
    · obtain ⟨m, t1, t2, t3, t4⟩ := pos_tree hF hj
      have hge := (pos_at hF j (by omega)).2.2
      exact parent f _ m (by omega) (by omega) t1 (by omega)

theorem cntG_pr (pr : Int → Bool) : ∀ (h : Nat) (l : List Int) (x : Int), x ∈ l.take (cntG pr h l) → pr x = true
  | 0, l, x, hx => by rw [cntG_zero] at hx; simp at hx
  | h + 1, [], x, hx => by simp at hx
  | h + 1, y :: r, x, hx => by
    rw [cntG] at hx
    split at hx
    · rename_i hy
      rw [List.take_succ_cons] at hx
      rcases List.mem_cons.1 hx with rfl | hx
      · exact hy
      · exact cntG_pr pr h r x hx
    · simp at hx

theorem matchG_mem : ∀ (gs : List Gp) (K : List Int), matchG gs K = true → ∀ x ∈ K, ∃ g ∈ gs, g.f.pr x = true
  | [], K, h, x, hx => by
    have h' : decide (K.length = 0) = true := h
    have := of_decide_eq_true h'
    rw [List.eq_nil_of_length_eq_zero this] at hx
    cases hx
  | g :: gs, K, h, x, hx => by
    rw [matchG_cons] at h
    split at h
    · cases h
    · rw [← List.take_append_drop (cntG g.f.pr g.hi.toNat K) K] at hx
      rcases List.mem_append.1 hx with hx | hx
      · exact ⟨g, by simp, cntG_pr _ _ _ _ hx⟩
      · obtain ⟨g', h1, h2⟩ := matchG_mem gs _ h x hx
        exact ⟨g', by simp [h1], h2⟩

theorem pr_range {f : FK} {x : Int} (hf : f = .e ∨ f = .s ∨ ∃ c, f = .k c ∧ 2 ≤ c ∧ c ≤ 5) (h : f.pr x = true) : 2 ≤ x ∧ x ≤ 30 := by
  rcases hf with rfl | rfl | ⟨c, rfl, h1, h2⟩
  · have h' : isExpr x = true := h
    unfold isExpr at h'; simp at h'; omega
  · have h' : isStmt x = true := h
    unfold isStmt at h'; simp at h'; omega
  · have h' : (x == c) = true := h
    have := eq_of_beq h'
    omega

theorem groups_range (k : Int) : ∀ g ∈ groupsL k, g.f = .e ∨ g.f = .s ∨ ∃ c, g.f = .k c ∧ 2 ≤ c ∧ c ≤ 5 := by
  intro g hg
  unfold groupsL at hg
  repeat' split at hg
  all_goals
    simp only [List.mem_cons, List.not_mem_nil, or_false] at hg
  all_goals
    first
    | exact hg.elim
    | (rcases hg with rfl | rfl <;> first | exact .inl rfl | exact .inr (.inl rfl) | exact .inr (.inr ⟨_, rfl, by decide, by decide⟩))
    | (subst hg; first | exact .inl rfl | exact .inr (.inl rfl) | exact .inr (.inr ⟨_, rfl, by decide, by decide⟩))

/-- What Check's yes says. -/
theorem check_ok {ts : List Nd} (h : (checkL ts).1 = 0) : ts.length ≤ 2000 ∧ 0 < ts.length ∧ endW 1 ((kidsOf ts).drop 0) = some ts.length ∧ kindAt ts 0 = 1 ∧ ∀ i, i < ts.length → goodAt ts i = true := by
  unfold checkL at h
  split at h
  · cases h
  · rename_i h1
    split at h
    · cases h
    · rename_i h2
      split at h
      · cases h
      · split at h
        · cases h
        · rename_i h4
          split at h
          · cases h
          · rename_i h5
            have h2' : endI (kidsOf ts) 0 = (ts.length : Int) := Decidable.of_not_not h2
            have hw : ∃ n, endW 1 ((kidsOf ts).drop 0) = some n ∧ 1 ≤ n ∧ n = ts.length := by
              rcases endI_cases (kidsOf ts) 0 with e | ⟨k, n, e0, e1, e2, e3, e4⟩
              · omega
              · obtain rfl : k = 0 := by omega
                exact ⟨n, e1, e2, by omega⟩
            obtain ⟨n, e1, e2, e3⟩ := hw
            exact ⟨by omega, by omega, by rw [e1, e3], Decidable.of_not_not h4, fun i hi => scanG_none _ _ _ h5 i (Nat.zero_le _) (by omega)⟩

theorem whole_all {ks : List Int} (h : endW 1 (ks.drop 0) = some ks.length) : ∀ j, j < ks.length → ∃ n, endW 1 (ks.drop j) = some n := by
  intro j hj
  rw [List.drop_zero] at h
  obtain ⟨d, -, hd, -⟩ := tree_depth h
  cases hq : endW 1 (ks.drop j) with
  | none => exact absurd hq ((depP_some _ _ _ _ hd).2 j hj)
  | some n => exact ⟨n, rfl⟩

theorem right_node {ts : List Nd} (h : (checkL ts).1 = 0) {i : Nat} (hi : i < ts.length) : ∃ n : Nat, endI (kidsOf ts) (i : Int) = (i : Int) + n ∧ (i = 0 → ts[i].kind = 1) ∧ (0 < i → 2 ≤ ts[i].kind ∧ ts[i].kind ≤ 30) := by
  obtain ⟨h1, h2, h3, h4, h5⟩ := check_ok h
  have h3' := h3
  rw [← kidsOf_len] at h3'
  obtain ⟨n, hn⟩ := whole_all h3' i (by rw [kidsOf_len]; exact hi)
  refine ⟨n, endI_some hn, fun h0 => ?_, fun h0 => ?_⟩
  · subst h0
    unfold kindAt at h4
    simpa [hi] using h4
  · obtain ⟨a, c, m, j, ha, hm, hc, hj, hp⟩ := parent (ks := kidsOf ts) (i := i) i 0 ts.length (by omega) h0 h3 (by omega)
    have hal : a < ts.length := by omega
    have hg := h5 a hal
    unfold goodAt at hg
    rw [Bool.and_eq_true] at hg
    have hK : ts[i].kind ∈ kindsL ts (a : Int) := by
      unfold kindsL
      rw [kidsZ_some hm hc, Int.toNat_natCast]
      refine List.mem_map.2 ⟨(i : Int), ?_, ?_⟩
      · unfold posZ
        exact List.mem_map.2 ⟨i, List.mem_map.2 ⟨j, List.mem_range.2 hj, hp⟩, rfl⟩
      · unfold kindAt; simp [hi]
    obtain ⟨g, hg1, hg2⟩ := matchG_mem _ _ hg.2 _ hK
    exact pr_range (groups_range _ g hg1) hg2

/-- A node less, or one more, makes it wrong. -/
theorem check_less {ts : List Nd} (h : (checkL ts).1 = 0) : (checkL (ts.take (ts.length - 1))).1 ≠ 0 := by
  obtain ⟨h1, h2, h3, h4, h5⟩ := check_ok h
  intro h0
  obtain ⟨g1, g2, g3, -, -⟩ := check_ok h0
  rw [List.drop_zero] at h3 g3
  have hl : (ts.take (ts.length - 1)).length = ts.length - 1 := by rw [List.length_take]; omega
  rw [hl] at g3
  have := endW_cut h3 (m := ts.length - 1) (by omega) (by rw [kidsOf_len]; omega)
  have e : kidsOf (ts.take (ts.length - 1)) = (kidsOf ts).take (ts.length - 1) := by unfold kidsOf; rw [List.map_take]
  rw [e, this] at g3
  cases g3
theorem check_more {ts : List Nd} (h : (checkL ts).1 = 0) (x : Nd) : (checkL (ts ++ [x])).1 ≠ 0 := by
  obtain ⟨h1, h2, h3, h4, h5⟩ := check_ok h
  intro h0
  obtain ⟨g1, g2, g3, -, -⟩ := check_ok h0
  rw [List.drop_zero] at h3 g3
  have e : kidsOf (ts ++ [x]) = kidsOf ts ++ kidsOf [x] := by unfold kidsOf; rw [List.map_append]
  have := endW_app _ (kidsOf [x]) _ _ h3
  rw [e, this, List.length_append] at g3
  have := Option.some.inj g3
  simp at this

end Go.Proofs.YtemlceicmpcboaaGreatDoor.Tr
namespace Go.Proofs.YtemlceicmpcboaaGreatDoor.Tr
open Go.RowKit Dk Lx

/-- Whether a node has just what its row names, its kind as well. -/
def fieldsR (x : Nd) : Bool := fieldsP x && (decide (1 ≤ x.kind) && decide (x.kind ≤ 30))

/-- Kinds are parameters and a block. -/
def funR (K : List Int) : Bool := match K with
  | [] => false
  | x :: r => if r = [] then x == 5 else x == 4 && decide (r.length ≤ 8) && funR r

/-- Uses, then functions. -/
def modR (K : List Int) : Bool := match K with
  | [] => true
  | x :: r => if x = 2 then modR r else (x :: r).all (· == 3)

def kidsR (k : Int) (K : List Int) : Bool :=
  if k = 1 then modR K
  else if k = 3 ∨ k = 24 then funR K
  else if k = 5 then K.all isStmt
  else if k = 8 then K.all isExpr && decide (K.length = 3)
  else if k = 9 then (match K with
    | [a, b] => isExpr a && b == 5
    | [a, b, c] => isExpr a && b == 5 && c == 5
    | _ => false)
  else if k = 10 then (match K with
    | [a, b] => isExpr a && b == 5
    | _ => false)
  else if k = 6 ∨ k = 7 ∨ k = 13 ∨ k = 14 ∨ k = 15 ∨ k = 17 ∨ k = 28 ∨ k = 30 then K.all isExpr && decide (K.length = 1)
  else if k = 22 then K.all isExpr && decide (1 ≤ K.length) && decide (K.length ≤ 9)
  else if k = 23 then K.all isExpr && decide (K.length ≤ 8)
  else if k = 26 ∨ k = 27 then K.all isExpr && decide (K.length = 2)
  else decide (K.length = 0)

/-- One group alone takes all: so many of a kind. -/
theorem cntG_full (pr : Int → Bool) : ∀ (h : Nat) (K : List Int), cntG pr h K = K.length ↔ K.all pr = true ∧ K.length ≤ h
  | 0, K => by
    rw [cntG_zero]
    constructor
    · intro h; have := List.eq_nil_of_length_eq_zero h.symm; subst this; simp
    · rintro ⟨_, h⟩; omega
  | h + 1, [] => by simp [cntG]
  | h + 1, x :: r => by
    have ih := cntG_full pr h r
    have hle := cntG_le pr h r
    rw [cntG, List.all_cons, List.length_cons]
    by_cases hx : pr x = true
    · rw [if_pos hx, hx, Bool.true_and]
      constructor
      · intro h1; have := ih.1 (by omega); exact ⟨this.1, by omega⟩
      · rintro ⟨h1, h2⟩; have := ih.2 ⟨h1, by omega⟩; omega
    · rw [if_neg hx]
      constructor
      · intro h1; omega
      · rintro ⟨h1, -⟩; simp [hx] at h1

theorem one_group (f : FK) (lo hi : Nat) (K : List Int) : matchG [⟨f, lo, hi⟩] K = (K.all f.pr && decide (lo ≤ K.length) && decide (K.length ≤ hi)) := by
  rw [matchG_cons]
  show (if ((cntG f.pr ((hi : Int)).toNat K : Nat) : Int) < (lo : Int) then false else matchG [] (K.drop (cntG f.pr ((hi : Int)).toNat K))) = _
  rw [Int.toNat_natCast]
  have h1 := cntG_le f.pr hi K
  have h2 := cntG_full f.pr hi K
  by_cases hf : cntG f.pr hi K = K.length
  · obtain ⟨h3, h4⟩ := h2.1 hf
    rw [hf, h3, decide_eq_true h4]
    by_cases hl : lo ≤ K.length
    · rw [if_neg (by omega), decide_eq_true hl]
      show decide ((K.drop K.length).length = 0) = _
      simp
    · rw [if_pos (by omega), decide_eq_false hl]; rfl
  · have h3 : (K.all f.pr && decide (K.length ≤ hi)) = false := by
      cases h : (K.all f.pr && decide (K.length ≤ hi)) with
      | false => rfl
      | true =>
        rw [Bool.and_eq_true] at h
        exact absurd (h2.2 ⟨h.1, of_decide_eq_true h.2⟩) hf
    rw [Bool.and_assoc, Bool.and_comm (decide (lo ≤ K.length)), ← Bool.and_assoc, h3, Bool.false_and]
    split
    · rfl
    · show decide ((K.drop (cntG f.pr hi K)).length = 0) = false
      rw [List.length_drop]
      exact decide_eq_false (by omega)

theorem exact_one (c : Int) (K : List Int) : matchG [⟨.k c, 1, 1⟩] K = match K with
    | [x] => x == c
    | _ => false := by
  have := one_group (.k c) 1 1 K
  rw [show ((1 : Nat) : Int) = 1 from rfl] at this
  rw [this]
  match K with
  | [] => rfl
  | [x] => simp [FK.pr]
  | x :: y :: r => simp

theorem fun_group : ∀ (h : Nat) (K : List Int), h ≤ 8 → (if ((cntG (FK.k 4).pr h K : Nat) : Int) < 0 then false else matchG [⟨.k 5, 1, 1⟩] (K.drop (cntG (FK.k 4).pr h K))) = (funR K && decide (K.length ≤ h + 1))
  | 0, K, _ => by
    rw [cntG_zero, if_neg (by decide), List.drop_zero, exact_one]
    match K with
    | [] => rfl
    | [x] => simp [funR]
    | x :: y :: r => simp
  | h + 1, [], _ => by rw [cntG_nil, if_neg (by decide), List.drop_zero, exact_one]; rfl
  | h + 1, x :: r, hh => by
    have ih := fun_group h r (by omega)
    rw [if_neg (by omega)] at ih ⊢
    rw [cntG]
    by_cases hx : x = 4
    · have hp : (FK.k 4).pr x = true := by subst hx; rfl
      rw [if_pos hp, List.drop_succ_cons, ih]
      subst hx
      rw [funR]
      by_cases hr : r = []
      · subst hr; rfl
      · rw [if_neg hr]
        by_cases hl : r.length ≤ h + 1
        · have h8 : r.length ≤ 8 ∨ ¬r.length ≤ 8 := Decidable.em _
          rcases h8 with h8 | h8
          · simp [hl, h8]
          · have : r.length = 9 := by omega
            omega
        · simp [hl]
    · have hp : (FK.k 4).pr x = false := beq_false_of_ne hx
      rw [hp, if_neg Bool.false_ne_true, List.drop_zero, exact_one]
      match r with
      | [] => simp [funR]
      | y :: r => rw [funR]; simp [hx]

theorem fun_match (K : List Int) : matchG [⟨.k 4, 0, 8⟩, ⟨.k 5, 1, 1⟩] K = funR K := by
  rw [matchG_cons]
  show (if ((cntG (FK.k 4).pr 8 K : Nat) : Int) < 0 then false else matchG [⟨.k 5, 1, 1⟩] (K.drop (cntG (FK.k 4).pr 8 K))) = _
  rw [fun_group 8 K (Nat.le_refl _)]
  match K with
  | [] => rfl
  | x :: r =>
    by_cases hr : r = []
    · subst hr; simp [funR]
    · have e : funR (x :: r) = (x == 4 && decide (r.length ≤ 8) && funR r) := by rw [funR, if_neg hr]
      rw [e]
      by_cases h8 : r.length ≤ 8
      · simp [h8]
      · simp [h8]

theorem mod_group : ∀ (h : Nat) (K : List Int), K.length ≤ h → matchG [⟨.k 3, 0, 2000⟩] (K.drop (cntG (FK.k 2).pr h K)) = (modR K && decide ((K.drop (cntG (FK.k 2).pr h K)).length ≤ 2000))
  | h, [], _ => by
    rw [cntG_nil, List.drop_zero]
    have := one_group (.k 3) 0 2000 []
    exact this
  | 0, x :: r, hl => by simp at hl
  | h + 1, x :: r, hl => by
    rw [cntG]
    by_cases hx : x = 2
    · have hp : (FK.k 2).pr x = true := by subst hx; rfl
      rw [if_pos hp, List.drop_succ_cons, mod_group h r (by simpa using hl), modR, if_pos hx]
    · have hp : (FK.k 2).pr x = false := beq_false_of_ne hx
      rw [hp, if_neg Bool.false_ne_true, List.drop_zero, modR, if_neg hx]
      have := one_group (.k 3) 0 2000 (x :: r)
      rw [show (((0 : Nat) : Int)) = 0 from rfl, show (((2000 : Nat) : Int)) = 2000 from rfl] at this
      rw [this]
      have e : (x :: r).all (FK.k 3).pr = (x :: r).all (· == 3) := rfl
      rw [e]
      simp

theorem mod_match (K : List Int) (hl : K.length ≤ 2000) : matchG [⟨.k 2, 0, 2000⟩, ⟨.k 3, 0, 2000⟩] K = modR K := by
  rw [matchG_cons]
  show (if ((cntG (FK.k 2).pr 2000 K : Nat) : Int) < 0 then false else matchG [⟨.k 3, 0, 2000⟩] (K.drop (cntG (FK.k 2).pr 2000 K))) = _
  rw [if_neg (by omega), mod_group 2000 K hl, decide_eq_true (by rw [List.length_drop]; omega), Bool.and_true]

theorem e_first (_hi : Nat) (gs : List Gp) (x : Int) (r : List Int) : matchG (⟨.e, 1, 1⟩ :: gs) (x :: r) = (isExpr x && matchG gs r) := by
  rw [matchG_cons]
  show (if ((cntG isExpr 1 (x :: r) : Nat) : Int) < 1 then false else matchG gs ((x :: r).drop (cntG isExpr 1 (x :: r)))) = _
  rw [cntG, cntG_zero]
  cases h : isExpr x with
  | true => rw [if_pos rfl, if_neg (by decide)]; rfl
  | false => rw [if_neg Bool.false_ne_true, if_pos (by decide)]; rfl

theorem kids_match (k : Int) (K : List Int) (hl : K.length ≤ 2000) : matchG (groupsL k) K = kidsR k K := by
  unfold groupsL kidsR
  have o := fun f lo hi => one_group f lo hi K
  by_cases a1 : k = 1
  · rw [if_pos a1, if_pos a1, mod_match K hl]
  rw [if_neg a1, if_neg a1]
  by_cases a2 : k = 3 ∨ k = 24
  · rw [if_pos a2, if_pos a2, fun_match]
  rw [if_neg a2, if_neg a2]
  by_cases a3 : k = 5
  · rw [if_pos a3, if_pos a3]
    have := o .s 0 2000
    rw [show (((0 : Nat) : Int)) = 0 from rfl, show (((2000 : Nat) : Int)) = 2000 from rfl] at this
    rw [this, decide_eq_true hl]
    simp []
    rfl
  rw [if_neg a3, if_neg a3]
  by_cases a4 : k = 6 ∨ k = 7 ∨ k = 13 ∨ k = 14 ∨ k = 15 ∨ k = 17 ∨ k = 28 ∨ k = 30
  · rw [if_pos a4, if_neg (by omega), if_neg (by omega), if_neg (by omega), if_pos a4]
    have := o .e 1 1
    rw [show (((1 : Nat) : Int)) = 1 from rfl] at this
    rw [this, Bool.and_assoc]
    congr 1
    rw [← Bool.decide_and]
    exact decide_eq_decide.2 (by omega)
  rw [if_neg a4]
  by_cases a5 : k = 26 ∨ k = 27
  · rw [if_pos a5, if_neg (by omega), if_neg (by omega), if_neg (by omega), if_neg a4, if_neg (by omega), if_neg (by omega), if_pos a5]
    have := o .e 2 2
    rw [show (((2 : Nat) : Int)) = 2 from rfl] at this
    rw [this, Bool.and_assoc]
    congr 1
    rw [← Bool.decide_and]
    exact decide_eq_decide.2 (by omega)
  rw [if_neg a5]
  by_cases a6 : k = 8
  · rw [if_pos a6, if_pos a6]
    have := o .e 3 3
    rw [show (((3 : Nat) : Int)) = 3 from rfl] at this
    rw [this, Bool.and_assoc]
    congr 1
    rw [← Bool.decide_and]
    exact decide_eq_decide.2 (by omega)
  rw [if_neg a6, if_neg a6]
  by_cases a7 : k = 9
  · rw [if_pos a7, if_pos a7]
    match K with
    | [] => rfl
    | [x] => rw [e_first 1]; simp [matchG, cntG]
    | [x, y] =>
      rw [e_first 1]
      have := one_group (.k 5) 1 2 [y]
      rw [show (((1 : Nat) : Int)) = 1 from rfl, show (((2 : Nat) : Int)) = 2 from rfl] at this
      rw [this]; simp [FK.pr]
    | [x, y, z] =>
      rw [e_first 1]
      have := one_group (.k 5) 1 2 [y, z]
      rw [show (((1 : Nat) : Int)) = 1 from rfl, show (((2 : Nat) : Int)) = 2 from rfl] at this
      rw [this]; simp [FK.pr, Bool.and_assoc]
    | x :: y :: z :: t :: r =>
      rw [e_first 1]
      have := one_group (.k 5) 1 2 (y :: z :: t :: r)
      rw [show (((1 : Nat) : Int)) = 1 from rfl, show (((2 : Nat) : Int)) = 2 from rfl] at this
      rw [this]; simp
  rw [if_neg a7, if_neg a7]
  by_cases a8 : k = 10
  · rw [if_pos a8, if_pos a8]
    match K with
    | [] => rfl
    | [x] => rw [e_first 1]; simp [matchG, cntG]
    | [x, y] => rw [e_first 1, exact_one]
    | x :: y :: z :: r => rw [e_first 1, exact_one]; simp
  rw [if_neg a8, if_neg a8, if_neg a4]
  by_cases a9 : k = 22
  · rw [if_pos a9, if_pos a9]
    have := o .e 1 9
    rw [show (((1 : Nat) : Int)) = 1 from rfl, show (((9 : Nat) : Int)) = 9 from rfl] at this
    exact this
  rw [if_neg a9, if_neg a9]
  by_cases b1 : k = 23
  · rw [if_pos b1, if_pos b1]
    have := o .e 0 8
    rw [show (((0 : Nat) : Int)) = 0 from rfl, show (((8 : Nat) : Int)) = 8 from rfl] at this
    rw [this]
    simp []
    rfl
  rw [if_neg b1, if_neg b1, if_neg a5]
  rfl

end Go.Proofs.YtemlceicmpcboaaGreatDoor.Tr
namespace Go.Proofs.YtemlceicmpcboaaGreatDoor.Tr
open Go.RowKit Dk Lx

set_option maxHeartbeats 1000000 in
theorem exprs_any (K : List Int) (v : Value) (lo hi : Nat) (w : World) (h : Ins w v K) (hl : K.length ≤ 4000) :
    Calls Tryz.prog 141 #[v, .int .i64 (lo : Int), .int .i64 (hi : Int)] w fun e w' => e = .returned (.bool (K.all isExpr && decide (lo ≤ K.length) && decide (K.length ≤ hi))) ∧ w = w' := by
  obtain ⟨p, c, rfl, -⟩ := id h
  have HK := Lib.hid h
  obtain ⟨n, hn⟩ : ∃ n, n = K.length := ⟨_, rfl⟩
  rw [← hn] at HK hl
  obtain ⟨R, hR⟩ : ∃ R, R = (K.all isExpr && decide (lo ≤ K.length) && decide (K.length ≤ hi)) := ⟨_, rfl⟩
  rw [← hR, ← hn]
  have HR := Lib.hid hR
  have HN := Lib.hid hn
  clear h hn hR
  go_enter Tryz.func141, Tryz.ntmps141
  go_wp2
  go_loopw [7] (fun vi wr => ∃ i : Nat, i ≤ n ∧ vi = .int .i64 (i : Int) ∧ wr = w ∧ Hid (∀ x ∈ K.take i, isExpr x = true)) (fun vi _ => n - (intOf vi).toNat)
  case atStart => exact ⟨0, Nat.zero_le _, rfl, rfl, Lib.hid (fun x hx => by simp at hx)⟩
  case round =>
    obtain ⟨i, hi', rfl, rfl, hA⟩ := hrel
    by_cases hlt : i < n
    · have h1 : i < K.length := by rw [← HN.out]; exact hlt
      obtain ⟨g1, o1, rfl, -, c1⟩ := HK.out.int i h1
      have z0 : (0 : Int) ≤ (i : Int) := by omega
      have z1 : (i : Int) < (n : Int) := by omega
      have C := Lib.hid (rexpr_any K[i] wr)
      cases hx : isExpr K[i] with
      | true =>
        have HA : Hid (∀ x ∈ K.take (i + 1), isExpr x = true) := Lib.hid (fun x hm => by
          rw [List.take_succ_eq_append_getElem h1] at hm
          rcases List.mem_append.1 hm with hm | hm
          · exact hA.out x hm
          · rw [List.mem_singleton.1 hm]; exact hx)
        rw [hx] at C
        generalize K[i] = x at *
        clear hx hA h1
        go_wp2_with fail
        refine C.out.mono ?_
        rintro e w1 ⟨rfl, rfl⟩
        go_wp2
        go_roundw
        case rel => exact ⟨i + 1, by omega, by go_num, by trivial, HA⟩
        case measure => simp [intOf]; omega
      | false =>
        have HF : Hid (R = false) := Lib.hid (by
          have : K.all isExpr = false := by
            cases h : K.all isExpr with
            | false => rfl
            | true => have := List.all_eq_true.1 h _ (List.getElem_mem h1); rw [hx] at this; cases this
          rw [HR.out, this]; rfl)
        rw [hx] at C
        generalize K[i] = x at *
        clear hx hA h1
        go_wp2_with fail
        refine C.out.mono ?_
        rintro e w1 ⟨rfl, rfl⟩
        go_wp2
        go_ret
        exact ⟨by rw [HF.out]; rfl, rfl⟩
    · obtain rfl : i = n := by omega
      have HT : Hid (R = (decide (lo ≤ i) && decide (i ≤ hi))) := Lib.hid (by
        have : K.all isExpr = true := List.all_eq_true.2 (by have := hA.out; rwa [List.take_of_length_le (by rw [← HN.out]; exact Nat.le_refl _)] at this)
        rw [HR.out, this, ← HN.out]; rfl)
      clear hA
      by_cases q1 : lo ≤ i
      · have v1 : (i : Int) ≥ (lo : Int) := by omega
        by_cases q2 : i ≤ hi
        · have v2 : (i : Int) ≤ (hi : Int) := by omega
          have HF : Hid (R = true) := Lib.hid (by rw [HT.out]; simp [q1, q2])
          clear q1 q2
          go_wp2
          go_ret
          exact ⟨by rw [HF.out]; rfl, rfl⟩
        · have v2 : ¬(i : Int) ≤ (hi : Int) := by omega
          have HF : Hid (R = false) := Lib.hid (by rw [HT.out]; simp [q2])
          clear q1 q2
          go_wp2
          go_ret
          exact ⟨by rw [HF.out]; rfl, rfl⟩
      · have v1 : ¬(i : Int) ≥ (lo : Int) := by omega
        have HF : Hid (R = false) := Lib.hid (by rw [HT.out]; simp [q1])
        clear q1
        go_wp2
        go_ret
        exact ⟨by rw [HF.out]; rfl, rfl⟩

/-- Parameters and a block, by their places. -/
theorem fun_iff : ∀ K : List Int, funR K = true ↔ 1 ≤ K.length ∧ K.length ≤ 9 ∧ K[K.length - 1]? = some 5 ∧ ∀ i, i + 1 < K.length → K[i]? = some 4
  | [] => by simp [funR]
  | x :: r => by
    have ih := fun_iff r
    rw [funR]
    by_cases hr : r = []
    · subst hr; simp
    · have hpos : 0 < r.length := List.length_pos_iff.2 hr
      rw [if_neg hr, Bool.and_eq_true, Bool.and_eq_true, ih]
      constructor
      · rintro ⟨⟨h1, h2⟩, h3, h4, h5, h6⟩
        have h1' : x = 4 := eq_of_beq h1
        have h2' := of_decide_eq_true h2
        refine ⟨by simp, by simp; omega, ?_, fun i hi => ?_⟩
        · rw [List.length_cons, show r.length + 1 - 1 = (r.length - 1) + 1 by omega, List.getElem?_cons_succ]; exact h5
        · cases i with
          | zero => rw [List.getElem?_cons_zero, h1']
          | succ i => rw [List.getElem?_cons_succ]; exact h6 i (by simp at hi; omega)
      · rintro ⟨h1, h2, h3, h4⟩
        rw [List.length_cons] at h2 h3
        refine ⟨⟨?_, decide_eq_true (by omega)⟩, by omega, by omega, ?_, fun i hi => ?_⟩
        · have := h4 0 (by simp; omega)
          rw [List.getElem?_cons_zero] at this
          rw [Option.some.inj this]; rfl
        · rw [show r.length + 1 - 1 = (r.length - 1) + 1 by omega, List.getElem?_cons_succ] at h3; exact h3
        · have := h4 (i + 1) (by simp; omega)
          rwa [List.getElem?_cons_succ] at this

set_option maxHeartbeats 1000000 in
theorem function_any (K : List Int) (v : Value) (w : World) (h : Ins w v K) (hl : K.length ≤ 4000) :
    Calls Tryz.prog 140 #[v] w fun e w' => e = .returned (.bool (funR K)) ∧ w = w' := by
  obtain ⟨p, c, rfl, -⟩ := id h
  have HK := Lib.hid h
  have HI := Lib.hid (fun_iff K)
  obtain ⟨n, hn⟩ : ∃ n, n = K.length := ⟨_, rfl⟩
  rw [← hn] at HK hl HI
  obtain ⟨R, hR⟩ : ∃ R, R = funR K := ⟨_, rfl⟩
  rw [← hR, ← hn]
  rw [← hR] at HI
  have HN := Lib.hid hn
  clear h hn hR
  by_cases q1 : 1 ≤ n
  case neg =>
    have HF : Hid (R = false) := Lib.hid (by cases h : R with
      | false => rfl
      | true => exact absurd (HI.out.1 h).1 q1)
    have v1 : (n : Int) < 1 := by omega
    clear q1
    go_enter Tryz.func140, Tryz.ntmps140
    go_wp2
    go_ret
    exact ⟨by rw [HF.out]; rfl, rfl⟩
  have v1 : ¬(n : Int) < 1 := by omega
  by_cases q2 : n ≤ 9
  case neg =>
    have HF : Hid (R = false) := Lib.hid (by cases h : R with
      | false => rfl
      | true => exact absurd (HI.out.1 h).2.1 q2)
    have v2 : (n : Int) > 9 := by omega
    clear q1 q2
    go_enter Tryz.func140, Tryz.ntmps140
    go_wp2
    go_ret
    exact ⟨by rw [HF.out]; rfl, rfl⟩
  have v2 : ¬(n : Int) > 9 := by omega
  obtain ⟨m, rfl⟩ : ∃ m, n = m + 1 := ⟨n - 1, by omega⟩
  have hmK : m < K.length := by rw [← HN.out]; omega
  obtain ⟨g, o, rfl, -, c0⟩ := HK.out.int m hmK
  have e1 : IntKind.i64.wrap (((m + 1 : Nat) : Int) - 1) = (m : Int) := by rw [wrap_in _ (by omega)]; omega
  have e2 : IntKind.i64.wrap ((m : Int) + 1 - 1) = (m : Int) := by rw [wrap_in _ (by omega)]; omega
  have z0 : (0 : Int) ≤ (m : Int) := by omega
  have z1 : (m : Int) < ((m + 1 : Nat) : Int) := by omega
  have HL : Hid (K[m]? = some K[m]) := Lib.hid (List.getElem?_eq_getElem hmK)
  generalize K[m] = x at *
  by_cases q3 : x = 5
  case neg =>
    have HF : Hid (R = false) := Lib.hid (by cases h : R with
      | false => rfl
      | true =>
        have := (HI.out.1 h).2.2.1
        rw [Nat.add_sub_cancel, HL.out] at this
        exact absurd (Option.some.inj this) q3)
    have v3 : (x == 5) = false := by simpa using q3
    have v4 : (x != 5) = true := by simpa using q3
    clear q1 q2 q3 hmK
    go_enter Tryz.func140, Tryz.ntmps140
    go_wp2
    go_ret
    exact ⟨by rw [HF.out]; rfl, rfl⟩
  subst q3
  clear q1 hmK
  go_enter Tryz.func140, Tryz.ntmps140
  go_wp2
  go_loopw [4] (fun vi wr => ∃ i : Nat, i ≤ m ∧ vi = .int .i64 (i : Int) ∧ wr = w ∧ Hid (∀ j, j < i → K[j]? = some 4)) (fun vi _ => m - (intOf vi).toNat)
  case atStart => exact ⟨0, Nat.zero_le _, rfl, rfl, Lib.hid (fun j hj => absurd hj (Nat.not_lt_zero j))⟩
  case round =>
    obtain ⟨i, hi', rfl, rfl, hA⟩ := hrel
    by_cases hlt : i < m
    · have h1 : i < K.length := by rw [← HN.out]; omega
      obtain ⟨g1, o1, hp, -, c1⟩ := HK.out.int i h1
      cases hp
      have y0 : (0 : Int) ≤ (i : Int) := by omega
      have y1 : (i : Int) < (m : Int) := by omega
      have y2 : (i : Int) < ((m + 1 : Nat) : Int) := by omega
      have HL2 : Hid (K[i]? = some K[i]) := Lib.hid (List.getElem?_eq_getElem h1)
      generalize K[i] = y at *
      by_cases q4 : y = 4
      · subst q4
        have HA : Hid (∀ j, j < i + 1 → K[j]? = some 4) := Lib.hid (fun j hj => by
          by_cases hji : j = i
          · subst hji; exact HL2.out
          · exact hA.out j (by omega))
        clear hA h1
        go_wp2
        go_roundw
        case rel => exact ⟨i + 1, by omega, by go_num, by trivial, HA⟩
        case measure => simp [intOf]; omega
      · have HF : Hid (R = false) := Lib.hid (by cases h : R with
          | false => rfl
          | true =>
            have := (HI.out.1 h).2.2.2 i (by omega)
            rw [HL2.out] at this
            exact absurd (Option.some.inj this) q4)
        have v3 : (y == 4) = false := by simpa using q4
        have v4 : (y != 4) = true := by simpa using q4
        clear hA h1 q4
        go_wp2
        go_ret
        exact ⟨by rw [HF.out]; rfl, rfl⟩
    · obtain rfl : i = m := by omega
      have HF : Hid (R = true) := Lib.hid (HI.out.2 ⟨by omega, q2, by rw [Nat.add_sub_cancel]; exact HL.out, fun j hj => hA.out j (by omega)⟩)
      have y1 : ¬(i : Int) < (i : Int) := by omega
      clear hA
      go_wp2
      go_ret
      exact ⟨by rw [HF.out]; rfl, rfl⟩

end Go.Proofs.YtemlceicmpcboaaGreatDoor.Tr
