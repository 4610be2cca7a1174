/- The walk of chrysalisref08.mark: its contract. No condition but those that each states. -/
import Derived.Test.YtcfmjnhagpmnpaaDoorLxRD
namespace Go.Proofs.YtcfmjnhagpmnpaaDoor.Lx
open Go.RowKit Dk

theorem ws_region2 {P : Program} {id : Nat} {Q : Exit → Act → World → Prop} {a : Act} {w : World} {l : List Oper} (hm : P.follows .mixedOrders = true) (hB : Region.lexB .any l.toArray = true)
    (w1 : World) (hw : w.drew = w1) (h : WS P l.toArray w1 (fun a' => Q .normal a' w1) l a) : (Code.region id l.toArray true).wp P Q a w :=
  region_still hm hB w1 hw h.out

theorem prefix_take (m L : List UInt8) : m.isPrefixOf L = decide (m.length ≤ L.length ∧ L.take m.length = m) := by
  cases h : m.isPrefixOf L with
  | true =>
    obtain ⟨r, rfl⟩ := List.isPrefixOf_iff_prefix.1 h
    exact (decide_eq_true ⟨by simp, List.take_left⟩).symm
  | false =>
    refine (decide_eq_false ?_).symm
    rintro ⟨_, h2⟩
    rw [List.isPrefixOf_iff_prefix.2 (by rw [← h2]; exact List.take_prefix _ _)] at h
    cases h

set_option maxHeartbeats 4000000 in
set_option maxRecDepth 100000 in
theorem mark_any (s : ByteArray) (a : Nat) (w : World) (ha : a ≤ s.size) (hs : s.size ≤ 2 ^ 40) :
    Calls Tryd.prog 42 #[.string s, .int .i64 (a : Int)] w fun e w' => e = .returned (.int .i64 ((markN (from' s a) : Nat) : Int)) ∧ Below w.heap.size w w' := by
  have hfl := from_length s a
  have HB : Hid (Below w.heap.size w (w.alloc (.cells (markList.map fun l => Value.string (strOf l)).toArray 9))) := Lib.hid ((Below.refl _ _).alloc (Nat.le_refl _) _)
  have HC := Lib.hid (fun j k h => row_strings w markList 9 j k h)
  have HMID := Lib.hid (fun n h W => run_mid (P := Tryd.prog) s a n h 9 Tryd.underlying9 W)
  have H0 : Hid (markN (from' s a) = markOf (from' s a) (markList.drop 0)) := Lib.hid rfl
  have HF := Lib.hid hfl
  have v0 : IntKind.i64.wrap ((s.size : Int) - (a : Int)) = (s.size : Int) - (a : Int) := IntWalk.i64_in _ (by omega)
  generalize from' s a = L at *
  clear hfl
  go_enter Tryd.func42, Tryd.ntmps42
  go_wp2
  obtain ⟨W1, hW⟩ : ∃ W1, W1 = w.alloc (.cells (markList.map fun l => Value.string (strOf l)).toArray 9) := ⟨_, rfl⟩
  rw [← hW] at HB HC
  go_loopw [6] (fun vi wr => ∃ j : Nat, j ≤ 20 ∧ vi = .int .i64 (j : Int) ∧ Hid (Below w.heap.size w wr ∧ wr.heap = W1.heap) ∧ Hid (markN L = markOf L (markList.drop j))) (fun vi _ => 20 - (intOf vi).toNat)
  case atStart => exact ⟨0, Nat.zero_le _, rfl, Lib.hid (by rw [hW] at HB ⊢; exact ⟨HB.out, rfl⟩), H0⟩
  case round =>
    clear hW H0
    obtain ⟨j, hj, rfl, hI, hM⟩ := hrel
    by_cases hlt : j < 20
    · obtain ⟨m, hm⟩ : ∃ m, markList[j]? = some m := ⟨_, List.getElem?_eq_getElem (by show j < 20; exact hlt)⟩
      have hdr : markList.drop j = m :: markList.drop (j + 1) := by
        obtain ⟨h1, h2⟩ := List.getElem?_eq_some_iff.1 hm
        rw [List.drop_eq_getElem_cons h1, h2]
      have hM' := hM.out
      rw [hdr, markOf_cons] at hM'
      have c0 : wr.cell? ⟨w.heap.size, j, none⟩ = some (.string (strOf m)) := (World.cell?_of_block (a := ⟨w.heap.size, j, none⟩) (by rw [hI.out.2])).trans (HC.out j m hm)
      obtain ⟨W2, hW2⟩ : ∃ W2, wr.drew = W2 := ⟨_, rfl⟩
      have HW2 := Lib.hid hW2
      have HD : Hid (Below w.heap.size w W2 ∧ W2.heap = W1.heap) := Lib.hid (by rw [← hW2]; exact ⟨hI.out.1.drew, hI.out.2⟩)
      have d0 : W2.cell? ⟨w.heap.size, j, none⟩ = some (.string (strOf m)) := by rw [← hW2]; exact c0
      have z0 : (0 : Int) ≤ (j : Int) := by omega
      have z1 : (j : Int) < 20 := by omega
      have hms := strOf_size m
      have hml : m.length ≤ 2 := by
        have : (markList.all fun m => decide (m.length ≤ 2)) = true := by decide
        have := List.all_eq_true.1 this m (List.mem_of_getElem? hm)
        exact of_decide_eq_true this
      have hpt := prefix_take m L
      clear hW2 hI c0 hM hdr hm
      by_cases hge : m.length ≤ L.length
      · have g1 : (s.size : Int) - (a : Int) ≥ ((strOf m).size : Int) := by have := HF.out; omega
        have g2 : decide (((strOf m).size : Int) ≤ (s.size : Int) - (a : Int)) = true := decide_eq_true (by have := HF.out; omega)
        have hmid := fun W => HMID.out m.length (by have := HF.out; omega) W
        have v1 : IntKind.i64.wrap ((a : Int) + ((strOf m).size : Int)) = (a : Int) + ((strOf m).size : Int) := IntWalk.i64_in _ (by omega)
        rw [← hms] at hmid
        have hb := str_beq (L.take (strOf m).size) m
        by_cases he : L.take m.length = m
        · rw [decide_eq_true ⟨hge, he⟩] at hpt
          rw [hpt, if_pos rfl] at hM'
          have HT : Hid (markN L = (strOf m).size) := Lib.hid (by rw [hM', hms])
          rw [hms, decide_eq_true he] at hb
          rw [← hms] at hb
          generalize strOf (L.take (strOf m).size) = y at *
          generalize strOf m = z at *
          clear hM' hpt he hge hml hms
          go_wp2_with fail
          refine ws_region2 (by kernel_rfl) (by kernel_rfl) W2 HW2.out ?_
          iterate 27 (refine ws_step (fun K hK => ?_); go_simp; refine hK _ ?_; clear hK K)
          refine ws_nil ?_
          go_wp2
          go_ret
          exact ⟨by rw [HT.out]; rfl, HD.out.1⟩
        · rw [decide_eq_false (fun h => he h.2)] at hpt
          rw [hpt, if_neg Bool.false_ne_true] at hM'
          have HN := Lib.hid hM'
          rw [hms, decide_eq_false he] at hb
          rw [← hms] at hb
          generalize strOf (L.take (strOf m).size) = y at *
          generalize strOf m = z at *
          clear hM' hpt he hge hml hms
          go_wp2_with fail
          refine ws_region2 (by kernel_rfl) (by kernel_rfl) W2 HW2.out ?_
          iterate 27 (refine ws_step (fun K hK => ?_); go_simp; refine hK _ ?_; clear hK K)
          refine ws_nil ?_
          go_wp2
          go_roundw
          case rel => exact ⟨j + 1, by omega, by go_num, HD, HN⟩
          case measure => simp [intOf]; omega
      · have g2 : decide (((strOf m).size : Int) ≤ (s.size : Int) - (a : Int)) = false := decide_eq_false (by have := HF.out; omega)
        rw [decide_eq_false (fun h => hge h.1)] at hpt
        rw [hpt, if_neg Bool.false_ne_true] at hM'
        have HN := Lib.hid hM'
        generalize strOf m = z at *
        clear hM' hpt hge hml hms
        go_wp2_with fail
        refine ws_region2 (by kernel_rfl) (by kernel_rfl) W2 HW2.out ?_
        iterate 11 (refine ws_step (fun K hK => ?_); go_simp; refine hK _ ?_; clear hK K)
        iterate 15 (refine ws_skip (by kernel_rfl) ?_)
        refine ws_step (fun K hK => ?_)
        go_simp
        refine hK _ ?_
        clear hK K
        refine ws_nil ?_
        go_wp2
        go_roundw
        case rel => exact ⟨j + 1, by omega, by go_num, HD, HN⟩
        case measure => simp [intOf]; omega
    · obtain rfl : j = 20 := by omega
      have HN : Hid (markN L = 0) := Lib.hid (by rw [hM.out]; rfl)
      clear hM
      go_wp2
      go_ret
      exact ⟨by rw [HN.out]; rfl, hI.out.1⟩

end Go.Proofs.YtcfmjnhagpmnpaaDoor.Lx
