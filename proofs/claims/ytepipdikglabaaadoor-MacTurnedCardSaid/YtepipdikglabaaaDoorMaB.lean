/- The walk of Key and of the document's Key: their contracts. No condition but those that each states. -/
import Derived.Test.YtepipdikglabaaaDoorMaA
import Derived.Test.YtepipdikglabaaaDoorDgO
namespace Go.Proofs.YtepipdikglabaaaDoor
open Go.RowKit

theorem slice_all (b : Nat) (w : World) : (Instr.sliceAt 25 (.pointer (some ⟨b, 0, none⟩)) none none none).run Tryd.prog w = .ok (.slice (some ⟨b, 0, none⟩) 64 64) w := by
  have hz : (sizeOf 5).run Tryd.prog w = .ok 1 w := by kernel_rfl
  simp [Instr.sliceAt, Instr.sureAddr, run_underlying Tryd.underlying25, Instr.sliceBounds, hz, Addr.add_mid]

theorem key_laid (W W2 : World) (t : TypeId) (X : ByteArray) (hX : X.size ≤ 64) (h : (W.alloc (.cells (bv (List.replicate 64 0)).toArray t)).setCells W.heap.size 0 (bv (X.data.toList.take X.size)) = W2) :
    W2.rangeAt W.heap.size 0 (bv (X.data.toList ++ List.replicate (64 - X.size) 0)) ∧ Below W.heap.size W W2 := by
  have hl : X.data.toList.length = X.size := by simp
  have ht : X.data.toList.take X.size = X.data.toList := List.take_of_length_le (by omega)
  rw [ht] at h
  subst h
  refine ⟨?_, below_setCells (Below.refl _ W) _ (Nat.le_refl _) _ _ _ ((Below.refl _ _).alloc (Nat.le_refl _) _)⟩
  have h1 := rangeAt_laidIn (q := 0) (x := X.data.toList) (range_new W (bv (List.replicate 64 0)) t) (by simp; omega) (fun j hj => by
    have := there_new W (bv (List.replicate 64 0)).toArray t j (by simp [bv]; omega)
    simpa using this)
  have e : laidIn (List.replicate 64 0) X.data.toList 0 = X.data.toList ++ List.replicate (64 - X.size) 0 := by
    unfold laidIn
    rw [List.take_zero, List.nil_append, List.drop_replicate, hl, Nat.zero_add]
  rw [e, Nat.add_zero] at h1
  exact h1

theorem keyL_of (l : List UInt8) (X : ByteArray) (h : X.data.toList = short l) : X.data.toList ++ List.replicate (64 - X.size) 0 = keyL l := by
  have hl : X.size = (short l).length := by rw [← h]; simp
  unfold keyL
  rw [hl, h]

set_option maxHeartbeats 1000000 in
set_option maxRecDepth 100000 in
theorem key_any (s : ByteArray) (w : World) (HK : HasK w) (hs : s.size ≤ 900000) :
    Calls Tryd.prog 17 #[.string s] w fun e w' => e = .returned (.string ⟨(keyL s.data.toList).toArray⟩) ∧ Below w.heap.size w w' := by
  have K0 := Lib.hid HK
  have hll0 : s.data.toList.length = s.size := by simp
  have HL0 := Lib.hid hll0
  clear HK hll0
  by_cases hbig : 64 < s.size
  · go_enter Tryd.func17, Tryd.ntmps17
    go_wp2_with fail
    refine (of_any s w K0.out hs).mono ?_
    rintro e w1 ⟨rfl, hb1⟩
    have B1 := Lib.hid hb1
    clear hb1
    obtain ⟨X, hXe⟩ : ∃ X : ByteArray, X = ⟨(sha s.data.toList).toArray⟩ := ⟨_, rfl⟩
    rw [← hXe]
    have hX32 : X.size = 32 := by rw [hXe]; rfl
    have HXS : Hid (X.data.toList = short s.data.toList) := Lib.hid (by unfold short; rw [if_pos (by have := HL0.out; omega), hXe])
    have HX32 := Lib.hid hX32
    clear hXe hX32
    have hsl := slice_all
    have hX : X.size ≤ 64 := by have := HX32.out; omega
    have hll : X.data.toList.length = X.size := by simp
    have HCP : Hid (∀ (Z : Array Value) (t : TypeId), Z.size = 64 → (Builtin.copy_ #[41, 9] 3 #[.slice (some ⟨w1.heap.size, 0, none⟩) 64 64, .string X]).run Tryd.prog (w1.alloc (.cells Z t)) = .ok (goInt X.size) ((w1.alloc (.cells Z t)).setCells w1.heap.size 0 (bv (X.data.toList.take X.size)))) := Lib.hid (fun Z t hZ =>
      run_copy_string (P := Tryd.prog) _ 41 9 3 5 w1.heap.size 0 64 64 X.size X Tryd.underlying41 (by kernel_rfl) (Nat.min_eq_left hX).symm (fun j hj => there_new w1 Z t j (by omega)))
    have HX := Lib.hid hX
    have HLL := Lib.hid hll
    clear hX hll
    go_wp2_with (refine Lib.wpList_copy_run _ rfl _ _ 41 9 rfl _ _ rfl rfl (HCP.out _ _ rfl) ?_; generalize hW2 : World.setCells (World.alloc w1 (Obj.cells _ _)) _ _ _ = W2; obtain ⟨hr, hbw⟩ := key_laid w1 W2 25 X HX.out hW2; have hcv := convert_range (P := Tryd.prog) (w := W2) (src := 41) (dst := 9) w1.heap.size 64 64 _ Tryd.underlying41 Tryd.underlying5 Tryd.underlying9 (by have := HX.out; have := HLL.out; simp; omega) hr; have HBW := Lib.hid hbw; clear hW2 hr hbw)
    go_ret
    exact ⟨by rw [keyL_of _ X HXS.out]; rfl, chain2 B1.out HBW.out⟩

  · obtain ⟨X, hXe⟩ : ∃ X : ByteArray, X = s := ⟨_, rfl⟩
    have HXS : Hid (X.data.toList = short s.data.toList) := Lib.hid (by unfold short; rw [if_neg (by have := HL0.out; omega), hXe])
    have t0 : decide (64 < X.size) = false := decide_eq_false (by rw [hXe]; exact hbig)
    have hX64 : X.size ≤ 64 := by rw [hXe]; omega
    rw [← hXe]
    have HXS2 : Hid (X.data.toList = short X.data.toList) := Lib.hid (by have := HXS.out; rw [hXe] at this ⊢; exact this)
    clear hXe HXS HL0 hbig hs
    go_enter Tryd.func17, Tryd.ntmps17
    have hsl := slice_all
    have hX : X.size ≤ 64 := by exact hX64
    have hll : X.data.toList.length = X.size := by simp
    have HCP : Hid (∀ (Z : Array Value) (t : TypeId), Z.size = 64 → (Builtin.copy_ #[41, 9] 3 #[.slice (some ⟨w.heap.size, 0, none⟩) 64 64, .string X]).run Tryd.prog (w.alloc (.cells Z t)) = .ok (goInt X.size) ((w.alloc (.cells Z t)).setCells w.heap.size 0 (bv (X.data.toList.take X.size)))) := Lib.hid (fun Z t hZ =>
      run_copy_string (P := Tryd.prog) _ 41 9 3 5 w.heap.size 0 64 64 X.size X Tryd.underlying41 (by kernel_rfl) (Nat.min_eq_left hX).symm (fun j hj => there_new w Z t j (by omega)))
    have HX := Lib.hid hX
    have HLL := Lib.hid hll
    clear hX hll
    go_wp2_with (refine Lib.wpList_copy_run _ rfl _ _ 41 9 rfl _ _ rfl rfl (HCP.out _ _ rfl) ?_; generalize hW2 : World.setCells (World.alloc w (Obj.cells _ _)) _ _ _ = W2; obtain ⟨hr, hbw⟩ := key_laid w W2 25 X HX.out hW2; have hcv := convert_range (P := Tryd.prog) (w := W2) (src := 41) (dst := 9) w.heap.size 64 64 _ Tryd.underlying41 Tryd.underlying5 Tryd.underlying9 (by have := HX.out; have := HLL.out; simp; omega) hr; have HBW := Lib.hid hbw; clear hW2 hr hbw)
    go_ret
    exact ⟨by rw [keyL_of _ X HXS2.out]; rfl, HBW.out⟩

def kz (X : ByteArray) (j : Nat) : ByteArray := ⟨(X.data.toList ++ List.replicate j 0).toArray⟩

theorem kz_size (X : ByteArray) (j : Nat) : (kz X j).size = X.size + j := by
  have : X.data.toList.length = X.size := by simp
  show (X.data.toList ++ List.replicate j 0).toArray.size = X.size + j
  rw [List.size_toArray, List.length_append, List.length_replicate, this]

theorem kz_zero (X : ByteArray) : kz X 0 = X := by
  apply ByteArray.ext; simp [kz]

theorem kz_app (X : ByteArray) (j : Nat) : kz X j ++ (⟨#[0]⟩ : ByteArray) = kz X (j + 1) := by
  apply ByteArray.ext
  simp [ByteArray.data_append, kz, List.replicate_succ']

theorem kz_add (X : ByteArray) (j : Nat) (h : X.size + j ≤ 100000) (W : World) : (Op.stringOp .add (kz X j) ⟨#[0]⟩).run Tryd.prog W = .ok (.string (kz X (j + 1))) W := by
  have h1 : (⟨#[0]⟩ : ByteArray).size = 1 := rfl
  have h2 := kz_size X j
  rw [run_string_add_sum (P := Tryd.prog) (w := W) _ _ (by omega)]
  rw [kz_app]

set_option maxHeartbeats 1000000 in
set_option maxRecDepth 100000 in
theorem rkey_any (s : ByteArray) (w : World) (hs : s.size ≤ 3000) :
    Calls Tryd.prog 18 #[.string s] w fun e w' => e = .returned (.string ⟨(keyL s.data.toList).toArray⟩) ∧ Below w.heap.size w w' := by
  have hll0 : s.data.toList.length = s.size := by simp
  have HL0 := Lib.hid hll0
  clear hll0
  by_cases hbig : 64 < s.size
  · go_enter Tryd.func18, Tryd.ntmps18
    go_wp2_with fail
    refine (rof_any s w hs).mono ?_
    rintro e w1 ⟨rfl, hb1⟩
    have B1 := Lib.hid hb1
    clear hb1
    obtain ⟨X, hXe⟩ : ∃ X : ByteArray, X = ⟨(sha s.data.toList).toArray⟩ := ⟨_, rfl⟩
    rw [← hXe]
    have hX64 : X.size ≤ 64 := by rw [hXe]; show 32 ≤ 64; decide
    have HXS : Hid (X.data.toList = short s.data.toList) := Lib.hid (by unfold short; rw [if_pos (by have := HL0.out; omega), hXe])
    clear hXe
    go_wp2
    go_loop [0] (fun vk => ∃ j : Nat, X.size + j ≤ 64 ∧ vk = .string (kz X j)) (fun vk => 64 - strSize vk)
    case atStart => exact ⟨0, hX64, by rw [kz_zero]⟩
    case round =>
      obtain ⟨j, hj, rfl⟩ := hrel
      have hsz := kz_size X j
      have had := fun W => kz_add X j (by omega) W
      by_cases hlt : X.size + j < 64
      · have t1 : ((kz X j).size : Int) < 64 := by omega
        have had2 := kz_app X j
        have t2 : (kz X (j + 1)).size = X.size + (j + 1) := kz_size X (j + 1)
        have HM : Hid (64 - strSize (.string (kz X (j + 1))) < 64 - strSize (.string (kz X j))) := Lib.hid (by show 64 - (kz X (j + 1)).size < 64 - (kz X j).size; omega)
        clear hsz t2
        go_wp2
        go_round
        case rel => exact ⟨j + 1, by omega, rfl⟩
        case measure => exact HM.out
      · have t1 : decide (((kz X j).size : Int) < 64) = false := decide_eq_false (by omega)
        have HF : Hid (kz X j = ⟨(keyL s.data.toList).toArray⟩) := Lib.hid (by rw [← keyL_of _ X HXS.out, show 64 - X.size = j by omega]; rfl)
        clear hsz had
        go_wp2
        go_ret
        exact ⟨by rw [HF.out]; rfl, B1.out⟩
  · obtain ⟨X, hXe⟩ : ∃ X : ByteArray, X = s := ⟨_, rfl⟩
    have HXS : Hid (X.data.toList = short s.data.toList) := Lib.hid (by unfold short; rw [if_neg (by have := HL0.out; omega), hXe])
    have t0 : decide (64 < X.size) = false := decide_eq_false (by rw [hXe]; exact hbig)
    have hX64 : X.size ≤ 64 := by rw [hXe]; omega
    have HXS2 : Hid (X.data.toList = short X.data.toList) := Lib.hid (by have := HXS.out; rw [hXe] at this ⊢; exact this)
    rw [← hXe]
    clear hXe HXS HL0 hbig hs
    go_enter Tryd.func18, Tryd.ntmps18
    go_wp2
    go_loop [0] (fun vk => ∃ j : Nat, X.size + j ≤ 64 ∧ vk = .string (kz X j)) (fun vk => 64 - strSize vk)
    case atStart => exact ⟨0, hX64, by rw [kz_zero]⟩
    case round =>
      obtain ⟨j, hj, rfl⟩ := hrel
      have hsz := kz_size X j
      have had := fun W => kz_add X j (by omega) W
      by_cases hlt : X.size + j < 64
      · have t1 : ((kz X j).size : Int) < 64 := by omega
        have had2 := kz_app X j
        have t2 : (kz X (j + 1)).size = X.size + (j + 1) := kz_size X (j + 1)
        have HM : Hid (64 - strSize (.string (kz X (j + 1))) < 64 - strSize (.string (kz X j))) := Lib.hid (by show 64 - (kz X (j + 1)).size < 64 - (kz X j).size; omega)
        clear hsz t2
        go_wp2
        go_round
        case rel => exact ⟨j + 1, by omega, rfl⟩
        case measure => exact HM.out
      · have t1 : decide (((kz X j).size : Int) < 64) = false := decide_eq_false (by omega)
        have HF : Hid (kz X j = ⟨(keyL X.data.toList).toArray⟩) := Lib.hid (by rw [← keyL_of _ X HXS2.out, show 64 - X.size = j by omega]; rfl)
        clear hsz had
        go_wp2
        go_ret
        exact ⟨by rw [HF.out]; rfl, Below.refl _ _⟩

end Go.Proofs.YtepipdikglabaaaDoor
