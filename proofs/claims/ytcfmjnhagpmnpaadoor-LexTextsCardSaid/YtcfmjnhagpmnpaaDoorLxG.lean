/- The walks of lex.next and lex.Scan: their contracts. No condition but those that each states. -/
import Derived.Test.YtcfmjnhagpmnpaaDoorLxF
import Derived.Test.YtcfmjnhagpmnpaaDoorLxJ
namespace Go.Proofs.YtcfmjnhagpmnpaaDoor.Lx
open Go.RowKit Dk

def tkOf (p : Nat) : One → Tk
  | .bad _ => Tk.zero
  | .tok k t n _ => ⟨k, t, n, p⟩
def endOf (p : Nat) : One → Int
  | .bad _ => 0
  | .tok _ _ _ len => (p : Int) + (len : Int)
def errOf : One → Int
  | .bad e => (e : Int)
  | .tok _ _ _ _ => 0
theorem oneV_eq (p : Nat) (o : One) : oneV p o = .tuple #[.agg (tkOf p o).cells.toArray, .int .i64 (endOf p o), .int .i64 (errOf o)] := by cases o <;> rfl

theorem byte_at {P : Program} (s : ByteArray) (a : Nat) (c : UInt8) (r : List UInt8) (hl : from' s a = c :: r) (t : TypeId) (ht : P.underlying t = some .string) (W : World) : (Instr.index t (.string s) (.int .i64 (a : Int))).run P W = .ok (.int .u8 (c.toNat : Int)) W := by
  have hlen := from_length s a
  rw [hl] at hlen
  simp at hlen
  have ha : a < s.size := by omega
  have h1 : s[a]'ha = c := by
    have h2 : s.data.toList[a]'(by simpa using ha) = c := by
      have := List.drop_eq_getElem_cons (i := a) (l := s.data.toList) (by simpa using ha)
      unfold from' at hl
      rw [hl] at this
      exact ((List.cons.inj this).1).symm
    rw [← h2]; rfl
  have g1 : (0 : Int) ≤ (a : Int) := by omega
  have g2 : (a : Int) < (s.size : Int) := by omega
  rw [← h1]
  go_simp

set_option maxHeartbeats 4000000 in
theorem next_any (s : ByteArray) (a : Nat) (c : UInt8) (r : List UInt8) (w : World) (hl : from' s a = c :: r) (hs : s.size ≤ 2 ^ 40) (HE : HasE w) :
    Calls Tryd.prog 23 #[.string s, .int .i64 (a : Int)] w fun e w' => e = .returned (oneV a (oneL (c :: r))) ∧ Below w.heap.size w w' := by
  have hlen := from_length s a
  rw [hl] at hlen
  simp at hlen
  have hix := fun W => byte_at (P := Tryd.prog) s a c r hl 9 Tryd.underlying9 W
  have hcv := i32_byte c
  have CL := Lib.hid (fun W => letter_any (c.toNat : Int) W)
  have CD := Lib.hid (fun W => digit_any (c.toNat : Int) W)
  have NW := Lib.hid (fun W => nextWord_any s a W (by omega) hs)
  have NI := Lib.hid (fun hc W h => nextInt_any s a c r W hl hc hs h)
  have NT := Lib.hid (fun W => nextText_any s a c r W hl hs)
  have NM := Lib.hid (fun W => nextMark_any s a c r W hl hs)
  rw [hl] at NW NI NM
  obtain ⟨R, hR⟩ : ∃ R, R = oneL (c :: r) := ⟨_, rfl⟩
  rw [← hR, oneV_eq]
  have HRR := Lib.hid hR
  rw [oneL] at hR
  have HZ := Lib.hid (tw_new w)
  have HHE := Lib.hid HE
  clear HE hl hlen
  cases h1 : isL c with
  | true =>
    rw [h1, if_pos rfl] at hR
    rw [← hR, oneV_eq] at NW
    have k1 : rL (c.toNat : Int) = true := h1
    rw [k1] at CL
    clear h1 k1 hR NI NT NM
    generalize tkOf a R = tk at *
    generalize endOf a R = en at *
    generalize errOf R = er at *
    go_enter Tryd.func23, Tryd.ntmps23
    go_wp2_with (first
      | (go_at_call 28; refine (CL.out _).mono ?_; rintro e w' ⟨rfl, rfl⟩)
      | (go_at_call 33; refine (CD.out _).mono ?_; rintro e w' ⟨rfl, rfl⟩)
      | (go_at_call 32; refine (NW.out _).mono ?_; rintro e W3 ⟨rfl, hb3⟩; have HW := Lib.hid (HZ.out.later hb3); clear hb3)
      | (refine wpList_store_mid rfl 29 _ _ rfl w.heap.size 0 tk.cells.toArray rfl rfl HW.out.1.room (t_infoA _) (t_all _) ?_; have HR := Lib.hid (HW.out.put tk); generalize World.setCells _ _ _ _ = W8 at HR ⊢))
    refine bodyPost_ret (results_cell3 rfl _ _ rfl HR.out.1.cells Tryd.underlying29 rfl (t_info _)) rfl ?_
    exact ⟨rfl, HR.out.2⟩
  | false =>
    have k1 : rL (c.toNat : Int) = false := h1
    rw [h1, if_neg Bool.false_ne_true] at hR
    rw [k1] at CL
    clear h1 k1
    cases h2 : isD c with
    | true =>
      rw [h2, if_pos rfl] at hR
      have NI2 := Lib.hid (fun W h => NI.out h2 W h)
      rw [← hR, oneV_eq] at NI2
      have k2 : rD (c.toNat : Int) = true := h2
      rw [k2] at CD
      clear h2 k2 hR NW NT NM NI
      generalize tkOf a R = tk at *
      generalize endOf a R = en at *
      generalize errOf R = er at *
      go_enter Tryd.func23, Tryd.ntmps23
      go_wp2_with (first
        | (go_at_call 28; refine (CL.out _).mono ?_; rintro e w' ⟨rfl, rfl⟩)
        | (go_at_call 33; refine (CD.out _).mono ?_; rintro e w' ⟨rfl, rfl⟩)
        | (go_at_call 34; refine (NI2.out _ (HHE.out.later HZ.out.2)).mono ?_; rintro e W3 ⟨rfl, hb3⟩; have HW := Lib.hid (HZ.out.later hb3); clear hb3)
        | (refine wpList_store_mid rfl 29 _ _ rfl w.heap.size 0 tk.cells.toArray rfl rfl HW.out.1.room (t_infoA _) (t_all _) ?_; have HR := Lib.hid (HW.out.put tk); generalize World.setCells _ _ _ _ = W8 at HR ⊢))
      refine bodyPost_ret (results_cell3 rfl _ _ rfl HR.out.1.cells Tryd.underlying29 rfl (t_info _)) rfl ?_
      exact ⟨rfl, HR.out.2⟩
    | false =>
      have k2 : rD (c.toNat : Int) = false := h2
      rw [h2, if_neg Bool.false_ne_true] at hR
      rw [k2] at CD
      clear h2 k2
      by_cases h3 : c.toNat = 34
      · have k3 : ((c.toNat : Int) == 34) = true := by rw [h3]; rfl
        rw [if_pos h3] at hR
        rw [← hR, oneV_eq] at NT
        clear h3 hR NW NI NM
        generalize tkOf a R = tk at *
        generalize endOf a R = en at *
        generalize errOf R = er at *
        go_enter Tryd.func23, Tryd.ntmps23
        go_wp2_with (first
          | (go_at_call 28; refine (CL.out _).mono ?_; rintro e w' ⟨rfl, rfl⟩)
          | (go_at_call 33; refine (CD.out _).mono ?_; rintro e w' ⟨rfl, rfl⟩)
          | (go_at_call 35; refine (NT.out _).mono ?_; rintro e W3 ⟨rfl, hb3⟩; have HW := Lib.hid (HZ.out.later hb3); clear hb3)
          | (refine wpList_store_mid rfl 29 _ _ rfl w.heap.size 0 tk.cells.toArray rfl rfl HW.out.1.room (t_infoA _) (t_all _) ?_; have HR := Lib.hid (HW.out.put tk); generalize World.setCells _ _ _ _ = W8 at HR ⊢))
        refine bodyPost_ret (results_cell3 rfl _ _ rfl HR.out.1.cells Tryd.underlying29 rfl (t_info _)) rfl ?_
        exact ⟨rfl, HR.out.2⟩
      · have k3 : ((c.toNat : Int) == 34) = false := by simp; omega
        rw [if_neg h3] at hR
        rw [← hR, oneV_eq] at NM
        clear h3 hR NW NI NT
        generalize tkOf a R = tk at *
        generalize endOf a R = en at *
        generalize errOf R = er at *
        go_enter Tryd.func23, Tryd.ntmps23
        go_wp2_with (first
          | (go_at_call 28; refine (CL.out _).mono ?_; rintro e w' ⟨rfl, rfl⟩)
          | (go_at_call 33; refine (CD.out _).mono ?_; rintro e w' ⟨rfl, rfl⟩)
          | (go_at_call 36; refine (NM.out _).mono ?_; rintro e W3 ⟨rfl, hb3⟩; have HW := Lib.hid (HZ.out.later hb3); clear hb3)
          | (refine wpList_store_mid rfl 29 _ _ rfl w.heap.size 0 tk.cells.toArray rfl rfl HW.out.1.room (t_infoA _) (t_all _) ?_; have HR := Lib.hid (HW.out.put tk); generalize World.setCells _ _ _ _ = W8 at HR ⊢))
        refine bodyPost_ret (results_cell3 rfl _ _ rfl HR.out.1.cells Tryd.underlying29 rfl (t_info _)) rfl ?_
        exact ⟨rfl, HR.out.2⟩

end Go.Proofs.YtcfmjnhagpmnpaaDoor.Lx
