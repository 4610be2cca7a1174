/- The walks of the document's bare, op and fields: their contracts. No condition but those that each states. -/
import Derived.Test.YtcfgngaabledpaaTrV
import Derived.Test.YtcfgngaabledpaaTnRB
import Derived.Deep.Cut
namespace Go.Proofs.Ytcfgngaabledpaa.Tr
open Go.RowKit Dk Lx

theorem wpList_load_want {P : Program} {ops : Array Oper} {rest : List Oper} {op : Oper} {a : Act} {w : World} {Q : Exit → Act → World → Prop} (hw : Region.wanted op (yielded ops a.tmps) = true) (ty : TypeId) (x : Operand) (ho : op.op = .load ty x)
    (b o : Nat) (hx : a.eval x = .pointer (some ⟨b, o, none⟩)) (cs : List Value) (d : TypeDesc) (hc : w.rangeAt b o cs)
    (hu : P.underlying ty = some d) (hd : d.isRow = true) (hi : (P.info? ty).map (·.size) = some cs.length)
    (h : wpList P ops Q rest (a.put op.dst (.agg cs.toArray)) w) : wpList P ops Q (op :: rest) a w :=
  BigFrame.wpList_want hw fun _ hK => wp_load_mid ty x ho b o hx cs d hc hu hd hi (hK _ _ h)

/-- A cell of a node's block is put anew; another block's is not turned. -/
theorem nb_cell {W : World} {B j : Nat} {x y : Nd} {v : Value} (h : NB W B x) (hj : j < 5) (hc : ∀ i u, y.cells[i]? = some u → if i = j then u = v else x.cells[i]? = some u) : NB (W.setCell ⟨B, j, none⟩ v) B y := by
  obtain ⟨u0, hu0⟩ : ∃ u0, x.cells[j]? = some u0 := ⟨_, List.getElem?_eq_getElem (show j < x.cells.length from hj)⟩
  have hj0 : W.cell? ⟨B, 0 + j, none⟩ = some u0 := h.cells j u0 hu0
  rw [Nat.zero_add] at hj0
  refine ⟨fun i u hu => ?_, fun i hi => ?_, by simpa using h.lt⟩
  · have := hc i u hu
    rw [Nat.zero_add]
    by_cases hij : i = j
    · subst hij
      rw [if_pos rfl] at this
      subst this
      exact World.cell?_setCell_same _ _ _ hj0
    · rw [if_neg hij] at this
      rw [World.cell?_setCell_other _ _ _ _ (by intro e; simp at e <;> omega)]
      have h2 := h.cells i u this
      rwa [Nat.zero_add] at h2
  · obtain ⟨h1, h2⟩ := h.room i hi
    rw [Nat.zero_add] at h1 h2 ⊢
    by_cases hij : i = j
    · subst hij
      exact ⟨by rw [World.cell?_setCell_same _ _ _ hj0]; rfl, by simpa using h2⟩
    · exact ⟨by rw [World.cell?_setCell_other _ _ _ _ (by intro e; simp at e <;> omega)]; exact h1, by simpa using h2⟩
theorem nb_far {W : World} {B B' j : Nat} {x : Nd} {v : Value} (h : NB W B x) (hb : B' ≠ B) : NB (W.setCell ⟨B', j, none⟩ v) B x :=
  h.of_block (Below.heap_setCell _ _ _ _ (by simpa using fun e => hb e.symm)) (by simp)
theorem nb_free {W : World} {B : Nat} {x : Nd} (h : NB W B x) (j : Nat) (hj : j < 5) : W.frozen? ⟨B, j, none⟩ = false := by
  have := (h.room j hj).2
  rwa [Nat.zero_add] at this

theorem str_nil : strOf [] = ⟨#[]⟩ := rfl

set_option maxHeartbeats 2000000 in
theorem bare_bytes (k d z : Int) (Q S : ByteArray) (a b : Bool) (ha : (Q.toList == []) = a) (hb : (S.toList == []) = b) (w : World) :
    Calls Try.prog 39 #[.agg #[.int .i64 k, .int .i64 d, .string Q, .int .i64 z, .string S]] w fun e w' => e = .returned (.bool (a && b && decide (z = 0))) ∧ Below w.heap.size w w' := by
  have HB : Hid (Below w.heap.size w (w.alloc (.cells #[.int .i64 k, .int .i64 d, .string Q, .int .i64 z, .string S] 36))) := Lib.hid ((Below.refl _ _).alloc (Nat.le_refl _) _)
  cases a with
  | false =>
    have HF : Hid ((false && b && decide (z = 0)) = false) := Lib.hid (by simp)
    rw [HF.out]
    clear HF
    go_enter Try.func39, Try.ntmps39
    go_wp2
    go_ret
    exact ⟨rfl, HB.out⟩
  | true =>
    cases b with
    | false =>
      have HF : Hid ((true && false && decide (z = 0)) = false) := Lib.hid (by simp)
      rw [HF.out]
      clear HF
      go_enter Try.func39, Try.ntmps39
      go_wp2
      go_ret
      exact ⟨rfl, HB.out⟩
    | true =>
      by_cases hz : z = 0
      · subst hz
        have HF : Hid ((true && true && decide ((0 : Int) = 0)) = true) := Lib.hid (by simp)
        rw [HF.out]
        clear HF
        go_enter Try.func39, Try.ntmps39
        go_wp2
        go_ret
        exact ⟨rfl, HB.out⟩
      · have v1 : (z == 0) = false := by simpa using hz
        have HF : Hid ((true && true && decide (z = 0)) = false) := Lib.hid (by simp [hz])
        rw [HF.out]
        clear HF hz
        go_enter Try.func39, Try.ntmps39
        go_wp2
        go_ret
        exact ⟨rfl, HB.out⟩

theorem bare_any (x : Nd) (w : World) : Calls Try.prog 39 #[.agg x.cells.toArray] w fun e w' => e = .returned (.bool ((x.name == []) && (x.text == []) && decide (x.n = 0))) ∧ Below w.heap.size w w' :=
  bare_bytes x.kind x.kids x.n (strOf x.name) (strOf x.text) _ _ (by rw [strOf_tl]) (by rw [strOf_tl]) w

set_option maxHeartbeats 1000000 in
theorem op_any (l : List UInt8) (w : World) : Calls Try.prog 40 #[.string (strOf l)] w fun e w' => e = .returned (.bool (isBin l)) ∧ Below w.heap.size w w' := by
  have HB : Hid (Below w.heap.size w (w.alloc (.cells (binList.map fun l => Value.string (strOf l)).toArray 9))) := Lib.hid ((Below.refl _ _).alloc (Nat.le_refl _) _)
  have HC := Lib.hid (fun j k h => row_strings w binList 9 j k h)
  have HK := Lib.hid (isBin_iff l)
  go_enter Try.func40, Try.ntmps40
  go_wp2
  obtain ⟨W1, hW⟩ : ∃ W1, W1 = w.alloc (.cells (binList.map fun l => Value.string (strOf l)).toArray 9) := ⟨_, rfl⟩
  rw [← hW] at HB HC
  go_loopw [4] (fun vi wr => ∃ j : Nat, j ≤ 12 ∧ vi = .int .i64 (j : Int) ∧ wr = W1 ∧ Hid (l ∉ binList.take j)) (fun vi _ => 12 - (intOf vi).toNat)
  case atStart => exact ⟨0, Nat.zero_le _, rfl, hW.symm, Lib.hid (by simp)⟩
  case round =>
    obtain ⟨j, hj, rfl, rfl, hn⟩ := hrel
    by_cases hlt : j < 12
    · obtain ⟨k, hk⟩ : ∃ k, binList[j]? = some k := ⟨_, List.getElem?_eq_getElem (by show j < 12; exact hlt)⟩
      have c := HC.out j k hk
      have hb := str_beq k l
      have z0 : (0 : Int) ≤ (j : Int) := by omega
      have z1 : (j : Int) < 12 := by omega
      by_cases he : k = l
      · have HT : Hid (isBin l = true) := Lib.hid (HK.out.2 (by rw [← he]; exact List.mem_of_getElem? hk))
        rw [decide_eq_true he] at hb
        generalize strOf k = y at *
        generalize strOf l = z at *
        clear he hk hW
        go_wp2
        go_ret
        exact ⟨by rw [HT.out]; rfl, HB.out⟩
      · have HN : Hid (l ∉ binList.take (j + 1)) := Lib.hid (by
          have e := List.getElem?_eq_some_iff.1 hk
          obtain ⟨h1, h2⟩ := e
          rw [List.take_succ_eq_append_getElem h1, List.mem_append]
          rintro (h | h)
          · exact hn.out h
          · rw [List.mem_singleton, h2] at h; exact he h.symm)
        rw [decide_eq_false he] at hb
        generalize strOf k = y at *
        generalize strOf l = z at *
        clear he hk hW hn
        go_wp2
        go_roundw
        case rel => exact ⟨j + 1, by omega, by go_num, by trivial, HN⟩
        case measure => simp [intOf]; omega
    · obtain rfl : j = 12 := by omega
      have HF : Hid (isBin l = false) := Lib.hid (by
        cases h : isBin l with
        | false => rfl
        | true => exact absurd (HK.out.1 h) hn.out)
      clear hW hn
      go_wp2
      go_ret
      exact ⟨by rw [HF.out]; rfl, HB.out⟩

end Go.Proofs.Ytcfgngaabledpaa.Tr
