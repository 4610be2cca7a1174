/- The walk of DiskSurvives: it returns true. No condition but those that each states. -/
import Derived.Test.YtepipdikglabaaaDkCuW
import Derived.ChangeSlices
namespace Go.Proofs.Ytepipdikglabaaa.Dk
open Go.RowKit

theorem step_none {S : DS} (h : S.next = none) : S.step = (S.tick, true) := by unfold DS.step; rw [h]
theorem write_none {S : DS} (h : S.next = none) (a : Nat) (s : Bytes) : S.write a s = ((S.put a s).tick, true) := step_none (S := S.put a s) h

theorem stl_app (m : Nat) (W V : List (Nat × Bytes)) (L : List Bytes) : ∀ k, k ≤ W.length → stl m (W ++ V) L k = stl m W L k
  | 0, _ => rfl
  | k + 1, hk => by
    unfold stl
    rw [wAt_app_lt (by omega), stl_app m W V L k (by omega)]

theorem stl_put (m : Nat) (W : List (Nat × Bytes)) (L : List Bytes) (a : Nat) (s : Bytes) : stl m (W ++ [(a, s)]) L (W.length + 1) = if bit m W.length then (stl m W L W.length).set a s else stl m W L W.length := by
  show (if bit m W.length then (stl m (W ++ [(a, s)]) L W.length).set (wAt (W ++ [(a, s)]) W.length).1 (wAt (W ++ [(a, s)]) W.length).2 else stl m (W ++ [(a, s)]) L W.length) = _
  rw [wAt_app_eq, stl_app m W _ L _ (Nat.le_refl _)]

/-- Sixteen texts in block A. -/
structure ArrAt (w : World) (A : Nat) (f : Nat → Bytes) : Prop where
  cell : ∀ i, i < 16 → w.cell? ⟨A, i, none⟩ = some (.string (strOf (f i)))
  free : ∀ i, i < 16 → w.frozen? ⟨A, i, none⟩ = false
  lt : A < w.heap.size

theorem ArrAt.of_block {w w' : World} {A : Nat} {f : Nat → Bytes} (h : ArrAt w A f) (hb : w'.heap[A]? = w.heap[A]?) (hs : w.heap.size ≤ w'.heap.size) : ArrAt w' A f :=
  ⟨fun i hi => (World.cell?_of_block (a := ⟨A, i, none⟩) hb).trans (h.cell i hi), fun i hi => (World.frozen?_of_block (a := ⟨A, i, none⟩) hb).trans (h.free i hi), Nat.lt_of_lt_of_le h.lt hs⟩
theorem ArrAt.below {w w' : World} {A : Nat} {f : Nat → Bytes} (h : ArrAt w A f) (k : Below w.heap.size w w') : ArrAt w' A f := h.of_block (k.block A h.lt) k.size
theorem ArrAt.only {w w' : World} {F : Nat → Prop} {A : Nat} {f : Nat → Bytes} (h : ArrAt w A f) (k : Only F w w') (hA : ¬F A) : ArrAt w' A f := h.of_block (k.block A h.lt hA) k.size
theorem ArrAt.congr {w : World} {A : Nat} {f f' : Nat → Bytes} (h : ArrAt w A f) (e : ∀ i, i < 16 → f' i = f i) : ArrAt w A f' := ⟨fun i hi => by rw [e i hi]; exact h.cell i hi, h.free, h.lt⟩

theorem ArrAt.put {w : World} {A : Nat} {f : Nat → Bytes} (h : ArrAt w A f) (k : Nat) (s : Bytes) : ArrAt (w.setCell ⟨A, k, none⟩ (.string (strOf s))) A (fun i => if i = k then s else f i) := by
  refine ⟨fun i hi => ?_, fun i hi => by simpa using h.free i hi, by simpa using h.lt⟩
  by_cases e : i = k
  · subst e; rw [World.cell?_setCell_same _ _ _ (h.cell i hi), if_pos rfl]
  · rw [World.cell?_setCell_other _ _ _ _ (by intro e'; simp at e'; first | done | exact e e'.symm), if_neg e]; exact h.cell i hi

/-- All blocks since w but A. -/
def NotA (w : World) (A : Nat) : Nat → Prop := fun k => w.heap.size ≤ k ∧ k ≠ A

theorem Dk.setA {w w' : World} {A g k : Nat} {S : DS} (h : Dk w w' (NotA w A) g S) (hA : w.heap.size ≤ A) (v : Value) : Dk w (w'.setCell ⟨A, k, none⟩ v) (NotA w A) g S :=
  ⟨h.here.kept (G := fun i => i = A) ((Only.refl (fun i => i = A) w').setCell ⟨A, k, none⟩ rfl v) (fun i h1 h2 => h1.2 h2), h.below.setCell hA v, h.lo, fun i hi => h.new i (by simpa using hi)⟩

/-- The array is laid behind a new disk. -/
theorem Dk.array {w w1 : World} {g : Nat} {S : DS} (h : Dk w w1 (fun k => w.heap.size ≤ k) g S) (o : Obj) : Dk w (w1.alloc o) (NotA w w1.heap.size) g S := by
  have ht := h.here.tight
  refine ⟨(ht.mono (G := NotA w w1.heap.size) (fun k hk => ⟨hk.1, by have := hk.2; omega⟩)).below ((Below.refl _ _).alloc (Nat.le_refl _) _), chain2 h.below ((Below.refl _ _).alloc (Nat.le_refl _) _), fun k hk => hk.1, fun k hk => ?_⟩
  simp at hk
  have := h.below.size
  exact ⟨by omega, by omega⟩

/-- Behind i writes. -/
structure SurvW (w wr : World) (A g m i : Nat) (S : DS) : Prop where
  lo : w.heap.size ≤ A
  dk : Dk w wr (NotA w A) g S
  on : S.on = true
  next : S.next = none
  L : S.L = List.replicate 16 zeroB
  W : S.W.length = i
  ops : S.ops = i
  c : S.c = i
  arr : ArrAt wr A (fun k => bAt (stl m S.W S.L i) k)

theorem zero_array (W : World) : (zeroValue 43).run Try.prog W = .ok (.agg (List.replicate 16 (Value.string ByteArray.empty)).toArray) W := by kernel_rfl

theorem arr_new (w : World) (t : TypeId) : ArrAt (w.alloc (.cells (List.replicate 16 (Value.string ByteArray.empty)).toArray t)) w.heap.size (fun _ => []) := by
  refine ⟨fun i hi => ?_, fun i hi => ?_, by simp⟩
  · have := range_new w (List.replicate 16 (Value.string ByteArray.empty)) t i (.string ByteArray.empty) (by rw [List.getElem?_replicate, if_pos hi])
    rw [Nat.zero_add] at this
    rw [this]; rfl
  · have := (there_new w (List.replicate 16 (Value.string ByteArray.empty)).toArray t i (by simpa using hi)).2
    rwa [Nat.zero_add] at this

theorem bAt_rep (n : Nat) (x : Bytes) {k : Nat} (h : k < n) : bAt (List.replicate n x) k = x := by
  unfold bAt; rw [List.getD_eq_getElem?_getD, List.getElem?_replicate, if_pos h]; rfl

theorem survW_zero {w wr : World} {A g : Nat} (m : Nat) {f : Nat → Bytes} (hlo : w.heap.size ≤ A) (hD : Dk w wr (NotA w A) g (new 16)) (hA : ArrAt wr A f) (hf : ∀ i, i < 16 → f i = zeroB) : SurvW w wr A g m 0 (new 16) :=
  ⟨hlo, hD, rfl, rfl, rfl, rfl, rfl, rfl, hA.congr (fun i hi => by rw [hf i hi]; exact bAt_rep 16 zeroB hi)⟩

/-- A write of the round; the array is not written yet. -/
theorem survW_write {w wr : World} {A g m i : Nat} {S : DS} (h : SurvW w wr A g m i S) (hi : i ≤ 1000) (k : Nat) (hk : k < 16) (s : Bytes) (hs : s.length = 64) (w' : World) (hb : Below wr.heap.size wr w') :
    Calls Try.prog 18 #[.pointer (some ⟨g, 0, none⟩), .int .i64 (k : Int), .string (strOf s)] w' fun e w'' => e = .returned (.int .i64 0) ∧
      (bit m i = false → SurvW w w'' A g m (i + 1) (S.put k s).tick) ∧ (bit m i = true → ArrAt w'' A (fun q => bAt (stl m S.W S.L i) q) ∧ SurvW w (w''.setCell ⟨A, k, none⟩ (.string (strOf s))) A g m (i + 1) (S.put k s).tick) := by
  have hL : S.L.length = 16 := by rw [h.L, List.length_replicate]
  have hc := h.c
  have ho := h.ops
  refine (dk_write k s w' (h.dk.later hb) h.on (by rw [hL]; exact hk) hs (by omega) (by omega)).mono fun e w'' ⟨he, hd, ho⟩ => ?_
  rw [write_none h.next] at he hd
  have ha := (h.arr.below hb).only ho (fun h => h.2 rfl)
  have hst : stl m (S.W ++ [(k, s)]) S.L (i + 1) = if bit m i then (stl m S.W S.L i).set k s else stl m S.W S.L i := by
    have := stl_put m S.W S.L k s
    rwa [h.W] at this
  refine ⟨he, fun hbit => ?_, fun hbit => ⟨ha, ?_⟩⟩
  · refine ⟨h.lo, hd, h.on, h.next, h.L, ?_, ?_, ?_, ha.congr (fun q _ => ?_)⟩
    · show (S.W ++ [(k, s)]).length = i + 1; rw [List.length_append, h.W]; rfl
    · show S.ops + 1 = i + 1; omega
    · show S.c + 1 = i + 1; omega
    · show bAt (stl m (S.W ++ [(k, s)]) S.L (i + 1)) q = _
      rw [hst, if_neg (by rw [hbit]; decide)]
  · refine ⟨h.lo, hd.setA h.lo _, h.on, h.next, h.L, ?_, ?_, ?_, (ha.put k s).congr (fun q hq => ?_)⟩
    · show (S.W ++ [(k, s)]).length = i + 1; rw [List.length_append, h.W]; rfl
    · show S.ops + 1 = i + 1; omega
    · show S.c + 1 = i + 1; omega
    · show bAt (stl m (S.W ++ [(k, s)]) S.L (i + 1)) q = _
      rw [hst, if_pos hbit, bAt_set]
      have : (stl m S.W S.L i).length = 16 := by rw [stl_length, hL]
      by_cases e : q = k
      · rw [if_pos ⟨e, by omega⟩, if_pos e]
      · rw [if_neg (fun h => e h.1), if_neg e]

theorem surv_read {w wr : World} {A g m i : Nat} {S : DS} (h : SurvW w wr A g m i S) (q : Nat) : (S.fail m).start.read q = bAt (stl m S.W S.L i) q := by
  have e : S.fail m = S.lose m := by unfold DS.fail; rw [h.on]; rfl
  rw [e]
  show bAt (stl m S.W S.L S.W.length) q = _
  rw [h.W]

theorem surv_facts {w wr : World} {A g m i : Nat} {S : DS} (h : SurvW w wr A g m i S) : (S.fail m).start.on = true ∧ (S.fail m).start.L.length = 16 ∧ (S.fail m).start.W.length = 0 ∧ (S.fail m).start.c = i := by
  have e : S.fail m = S.lose m := by unfold DS.fail; rw [h.on]; rfl
  rw [e]
  refine ⟨rfl, ?_, rfl, h.c⟩
  show (S.lose m).L.length = 16
  rw [lose_len, h.L, List.length_replicate]

set_option maxHeartbeats 1000000 in
set_option maxRecDepth 100000 in
theorem survives_any (b off len cap m : Nat) (hm : m < 2 ^ 64) (B : Nat → Nat) (w : World) (hl : len ≤ maxLen) (hb : b < w.heap.size) (hB : ∀ j, j < len → B j < 256) (hc : ∀ j, j < len → w.cell? ⟨b, off + j, none⟩ = some (.int .u8 (B j : Int))) :
    Calls Try.prog 7 #[.slice (some ⟨b, off, none⟩) len cap, .int .u64 (m : Int)] w fun e w' => e = .returned (.bool true) ∧ Below w.heap.size w w' := by
  have HC := Lib.hid hc
  have HBB := Lib.hid hB
  clear hc hB
  unfold maxLen at hl
  have hz := zero_array
  have CA : ∀ W, Calls Try.prog 17 #[.int .u8 0] W fun e w' => e = .returned (.string (strOf zeroB)) ∧ Below W.heap.size W w' := full_any 0
  have ca := Lib.hid CA
  clear CA
  go_enter Try.func7, Try.ntmps7
  go_wp2_with fail
  refine (new_dk 16 (by decide) (by decide) w).mono ?_
  rintro e w1 ⟨rfl, hb1⟩
  have HD2 := Lib.hid (hb1.array (.cells (List.replicate 16 (Value.string ByteArray.empty)).toArray 43))
  have HA2 := Lib.hid (arr_new w1 43)
  have hA : w.heap.size ≤ w1.heap.size := hb1.below.size
  generalize (List.replicate 16 (Value.string ByteArray.empty)).toArray = Z at hz HD2 HA2
  clear hb1
  go_wp2_with fail
  generalize w1.alloc (Obj.cells Z 43) = w2 at *
  generalize w1.heap.size = A at *
  clear hz
  go_loopw [8] (fun vi wr => ∃ (j : Nat) (f : Nat → Bytes), j ≤ 16 ∧ vi = .int .i64 j ∧ Hid (Dk w wr (NotA w A) (w.heap.size + 2) (new 16) ∧ ArrAt wr A f ∧ ∀ i, i < j → f i = zeroB)) (fun vi _ => 16 - (intOf vi).toNat)
  case atStart => exact ⟨0, _, Nat.zero_le _, rfl, HD2.out, HA2.out, fun i hi => absurd hi (Nat.not_lt_zero i)⟩
  case round =>
    clear HD2 HA2
    obtain ⟨j, f, hj, rfl, hI⟩ := hrel
    by_cases hlt : j < 16
    · have z0 : (0 : Int) ≤ (j : Int) := by omega
      have z1 : (j : Int) < 16 := by omega
      go_wp2_with fail
      refine (ca.out wr).mono ?_
      rintro e w3 ⟨rfl, hb⟩
      have hA3 := hI.out.2.1.below hb
      have ck := hA3.cell j hlt
      have fk := hA3.free j hlt
      have HN : Hid (Dk w (w3.setCell ⟨A, j, none⟩ (.string (strOf zeroB))) (NotA w A) (w.heap.size + 2) (new 16) ∧ ArrAt (w3.setCell ⟨A, j, none⟩ (.string (strOf zeroB))) A (fun i => if i = j then zeroB else f i) ∧ ∀ i, i < j + 1 → (if i = j then zeroB else f i) = zeroB) := Lib.hid ⟨(hI.out.1.later hb).setA hA _, hA3.put j zeroB, fun i hi => by
        by_cases e : i = j
        · rw [if_pos e]
        · rw [if_neg e]; exact hI.out.2.2 i (by omega)⟩
      clear hb hA3
      go_wp2
      clear ck fk
      go_roundw
      case rel => exact ⟨j + 1, _, by omega, by go_num, HN⟩
      case measure => simp [intOf]; omega
    · obtain rfl : j = 16 := by omega
      have HS := Lib.hid (survW_zero m hA hI.out.1 hI.out.2.1 hI.out.2.2)
      clear hI hlt hj ca
      rw [show ((16 : Nat) : Int) = 16 from rfl]
      go_wp2
      go_loopw [9] (fun vi wr => ∃ (i : Nat) (S : DS), i ≤ 64 ∧ vi = .int .i64 i ∧ Hid (SurvW w wr A (w.heap.size + 2) m i S)) (fun vi _ => 64 - (intOf vi).toNat)
      case atStart => exact ⟨0, _, Nat.zero_le _, rfl, HS⟩
      case round =>
        clear HS
        obtain ⟨i, S, hi, rfl, hI⟩ := hrel
        have z0 : (0 : Int) ≤ (i : Int) := by omega
        by_cases hlen : i < len
        · by_cases h64 : i < 64
          · have cb := (hI.out.dk.below.cell (p := ⟨b, off + i, none⟩) hb).trans (HC.out i hlen)
            have z1 : (i : Int) < (len : Int) := by omega
            have z2 : (i : Int) < 64 := by omega
            have hB := HBB.out i hlen
            have z3 : (B i : Int) < 256 := by omega
            have ec : (((UInt8.ofNat (i + 1)).toNat : Nat) : Int) = 1 + (i : Int) := by rw [UInt8.toNat_ofNat']; omega
            have CF := fun W => full_any (UInt8.ofNat (i + 1)) W
            rw [ec] at CF
            have hsl := fullB_length (UInt8.ofNat (i + 1))
            generalize fullB (UInt8.ofNat (i + 1)) = sb at CF hsl
            have HSL := Lib.hid hsl
            clear hsl
            have cf := Lib.hid CF
            clear CF ec
            obtain ⟨k, hk⟩ : ∃ k : Nat, (B i : Int) % 16 = (k : Int) := ⟨B i % 16, by simp⟩
            have hk16 : k < 16 := by omega
            have hbt := bit_test m i hm
            rw [Nat.mod_eq_of_lt h64] at hbt
            have HBT := Lib.hid hbt
            clear hbt hB
            go_wp2_with fail
            refine (cf.out wr).mono ?_
            rintro e w3 ⟨rfl, hb3⟩
            have HB3 := Lib.hid hb3
            clear hb3 cb
            go_wp2_with fail
            refine (survW_write hI.out (by omega) k hk16 sb HSL.out w3 HB3.out).mono ?_
            rintro e w4 ⟨rfl, hno, hyes⟩
            clear hk
            cases hbit : bit m i with
            | false =>
              have tb := HBT.out.trans hbit
              have HN := Lib.hid (hno hbit)
              clear hno hyes hbit
              go_wp2
              clear tb
              go_roundw
              case rel => exact ⟨i + 1, _, by omega, by go_num, HN⟩
              case measure => simp [intOf]; omega
            | true =>
              have tb := HBT.out.trans hbit
              obtain ⟨ha, hn⟩ := hyes hbit
              have HN := Lib.hid hn
              have ck := ha.cell k hk16
              have fk := ha.free k hk16
              have y0 : (0 : Int) ≤ (k : Int) := by omega
              have y1 : (k : Int) < 16 := by omega
              clear hno hyes hbit hn ha
              go_wp2
              clear tb ck fk
              go_roundw
              case rel => exact ⟨i + 1, _, by omega, by go_num, HN⟩
              case measure => simp [intOf]; omega
          · obtain rfl : i = 64 := by omega
            have e64 : ((64 : Nat) : Int) = 64 := rfl
            rw [e64]
            clear e64
            have hc := hI.out.c
            have t64 : decide ((64 : Int) < (len : Int)) = true := decide_eq_true (by omega)
            go_wp2_with fail
            refine (dk_fail m wr hI.out.dk hm (by omega)).mono ?_
            rintro e v1 ⟨rfl, hd1, ho1⟩
            have HF1 := Lib.hid hd1
            have HA1 := Lib.hid (hI.out.arr.only ho1 (fun h => h.2 rfl))
            clear hd1 ho1
            go_wp2_with fail
            refine (dk_start v1 HF1.out).mono ?_
            rintro e v2 ⟨rfl, hd2, ho2⟩
            have HF2 := Lib.hid hd2
            have HA2 := Lib.hid (HA1.out.only ho2 (fun h => h.2 rfl))
            have HRD := Lib.hid (surv_read hI.out)
            have HFC := Lib.hid (surv_facts hI.out)
            clear hd2 ho2 HA1 HF1 hI
            generalize (S.fail m).start = T at *
            generalize hf : (fun q => bAt (stl m S.W S.L 64) q) = f at *
            have HRD2 : Hid (∀ q, T.read q = f q) := Lib.hid (fun q => by rw [← hf]; exact HRD.out q)
            clear hf HRD
            go_wp2
            go_loopw [12] (fun vi wr => ∃ q : Nat, q ≤ 16 ∧ vi = .int .i64 q ∧ Hid (Dk w wr (NotA w A) (w.heap.size + 2) T ∧ ArrAt wr A f)) (fun vi _ => 16 - (intOf vi).toNat)
            case atStart => exact ⟨0, Nat.zero_le _, rfl, HF2.out, HA2.out⟩
            case round =>
              clear HF2 HA2
              obtain ⟨q, hq, rfl, hJ⟩ := hrel
              by_cases hlq : q < 16
              · have y0 : (0 : Int) ≤ (q : Int) := by omega
                have y1 : (q : Int) < 16 := by omega
                have CR := dk_read q wr hJ.out.1 HFC.out.1 (by rw [HFC.out.2.1]; exact hlq) (by have := HFC.out.2.2.2; omega)
                rw [HRD2.out q] at CR
                have cr := Lib.hid CR
                clear CR
                go_wp2_with fail
                refine cr.out.mono ?_
                rintro e v3 ⟨rfl, hd3, hb3⟩
                have ha3 := hJ.out.2.below hb3
                have HJ3 := Lib.hid (And.intro hd3 ha3)
                have cq := ha3.cell q hlq
                clear hd3 hb3 ha3 cr
                generalize strOf (f q) = X at *
                go_wp2
                clear cq
                go_roundw
                case rel => exact ⟨q + 1, by omega, by go_num, HJ3⟩
                case measure => simp [intOf]; omega
              · obtain rfl : q = 16 := by omega
                have CW := waits_at wr hJ.out.1.here
                rw [HFC.out.2.2.1] at CW
                have cw := Lib.hid CW
                clear CW
                go_wp2_with fail
                refine cw.out.mono ?_
                rintro e v4 ⟨rfl, rfl⟩
                go_wp2_with fail
                refine (known4 wr).mono ?_
                rintro e v5 ⟨rfl, hb⟩
                have HZ := Lib.hid (chain2 hJ.out.1.below hb)
                clear hb
                go_wp2
                go_ret
                exact ⟨rfl, HZ.out⟩
        · have t0 : decide ((i : Int) < (len : Int)) = false := decide_eq_false (by omega)
          have t0' : decide (i < len) = false := decide_eq_false hlen
          have hc := hI.out.c
          go_wp2_with fail
          refine (dk_fail m wr hI.out.dk hm (by omega)).mono ?_
          rintro e v1 ⟨rfl, hd1, ho1⟩
          have HF1 := Lib.hid hd1
          have HA1 := Lib.hid (hI.out.arr.only ho1 (fun h => h.2 rfl))
          clear hd1 ho1
          go_wp2_with fail
          refine (dk_start v1 HF1.out).mono ?_
          rintro e v2 ⟨rfl, hd2, ho2⟩
          have HF2 := Lib.hid hd2
          have HA2 := Lib.hid (HA1.out.only ho2 (fun h => h.2 rfl))
          have HRD := Lib.hid (surv_read hI.out)
          have HFC := Lib.hid (surv_facts hI.out)
          clear hd2 ho2 HA1 HF1 hI
          generalize (S.fail m).start = T at *
          generalize hf : (fun q => bAt (stl m S.W S.L i) q) = f at *
          have HRD2 : Hid (∀ q, T.read q = f q) := Lib.hid (fun q => by rw [← hf]; exact HRD.out q)
          clear hf HRD
          go_wp2
          go_loopw [12] (fun vi wr => ∃ q : Nat, q ≤ 16 ∧ vi = .int .i64 q ∧ Hid (Dk w wr (NotA w A) (w.heap.size + 2) T ∧ ArrAt wr A f)) (fun vi _ => 16 - (intOf vi).toNat)
          case atStart => exact ⟨0, Nat.zero_le _, rfl, HF2.out, HA2.out⟩
          case round =>
            clear HF2 HA2
            obtain ⟨q, hq, rfl, hJ⟩ := hrel
            by_cases hlq : q < 16
            · have y0 : (0 : Int) ≤ (q : Int) := by omega
              have y1 : (q : Int) < 16 := by omega
              have CR := dk_read q wr hJ.out.1 HFC.out.1 (by rw [HFC.out.2.1]; exact hlq) (by have := HFC.out.2.2.2; omega)
              rw [HRD2.out q] at CR
              have cr := Lib.hid CR
              clear CR
              go_wp2_with fail
              refine cr.out.mono ?_
              rintro e v3 ⟨rfl, hd3, hb3⟩
              have ha3 := hJ.out.2.below hb3
              have HJ3 := Lib.hid (And.intro hd3 ha3)
              have cq := ha3.cell q hlq
              clear hd3 hb3 ha3 cr
              generalize strOf (f q) = X at *
              go_wp2
              clear cq
              go_roundw
              case rel => exact ⟨q + 1, by omega, by go_num, HJ3⟩
              case measure => simp [intOf]; omega
            · obtain rfl : q = 16 := by omega
              have CW := waits_at wr hJ.out.1.here
              rw [HFC.out.2.2.1] at CW
              have cw := Lib.hid CW
              clear CW
              go_wp2_with fail
              refine cw.out.mono ?_
              rintro e v4 ⟨rfl, rfl⟩
              go_wp2_with fail
              refine (known4 wr).mono ?_
              rintro e v5 ⟨rfl, hb⟩
              have HZ := Lib.hid (chain2 hJ.out.1.below hb)
              clear hb
              go_wp2
              go_ret
              exact ⟨rfl, HZ.out⟩

set_option maxHeartbeats 1000000 in
set_option maxRecDepth 100000 in
theorem survives_none (cap m : Nat) (pa : Option Addr) (hm : m < 2 ^ 64) (w : World) :
    Calls Try.prog 7 #[.slice pa 0 cap, .int .u64 (m : Int)] w fun e w' => e = .returned (.bool true) ∧ Below w.heap.size w w' := by
  have hz := zero_array
  have CA : ∀ W, Calls Try.prog 17 #[.int .u8 0] W fun e w' => e = .returned (.string (strOf zeroB)) ∧ Below W.heap.size W w' := full_any 0
  have ca := Lib.hid CA
  clear CA
  go_enter Try.func7, Try.ntmps7
  go_wp2_with fail
  refine (new_dk 16 (by decide) (by decide) w).mono ?_
  rintro e w1 ⟨rfl, hb1⟩
  have HD2 := Lib.hid (hb1.array (.cells (List.replicate 16 (Value.string ByteArray.empty)).toArray 43))
  have HA2 := Lib.hid (arr_new w1 43)
  have hA : w.heap.size ≤ w1.heap.size := hb1.below.size
  generalize (List.replicate 16 (Value.string ByteArray.empty)).toArray = Z at hz HD2 HA2
  clear hb1
  go_wp2_with fail
  generalize w1.alloc (Obj.cells Z 43) = w2 at *
  generalize w1.heap.size = A at *
  clear hz
  go_loopw [8] (fun vi wr => ∃ (j : Nat) (f : Nat → Bytes), j ≤ 16 ∧ vi = .int .i64 j ∧ Hid (Dk w wr (NotA w A) (w.heap.size + 2) (new 16) ∧ ArrAt wr A f ∧ ∀ i, i < j → f i = zeroB)) (fun vi _ => 16 - (intOf vi).toNat)
  case atStart => exact ⟨0, _, Nat.zero_le _, rfl, HD2.out, HA2.out, fun i hi => absurd hi (Nat.not_lt_zero i)⟩
  case round =>
    clear HD2 HA2
    obtain ⟨j, f, hj, rfl, hI⟩ := hrel
    by_cases hlt : j < 16
    · have z0 : (0 : Int) ≤ (j : Int) := by omega
      have z1 : (j : Int) < 16 := by omega
      go_wp2_with fail
      refine (ca.out wr).mono ?_
      rintro e w3 ⟨rfl, hb⟩
      have hA3 := hI.out.2.1.below hb
      have ck := hA3.cell j hlt
      have fk := hA3.free j hlt
      have HN : Hid (Dk w (w3.setCell ⟨A, j, none⟩ (.string (strOf zeroB))) (NotA w A) (w.heap.size + 2) (new 16) ∧ ArrAt (w3.setCell ⟨A, j, none⟩ (.string (strOf zeroB))) A (fun i => if i = j then zeroB else f i) ∧ ∀ i, i < j + 1 → (if i = j then zeroB else f i) = zeroB) := Lib.hid ⟨(hI.out.1.later hb).setA hA _, hA3.put j zeroB, fun i hi => by
        by_cases e : i = j
        · rw [if_pos e]
        · rw [if_neg e]; exact hI.out.2.2 i (by omega)⟩
      clear hb hA3
      go_wp2
      clear ck fk
      go_roundw
      case rel => exact ⟨j + 1, _, by omega, by go_num, HN⟩
      case measure => simp [intOf]; omega
    · obtain rfl : j = 16 := by omega
      have HS := Lib.hid (survW_zero m hA hI.out.1 hI.out.2.1 hI.out.2.2)
      clear hI hlt hj ca
      rw [show ((16 : Nat) : Int) = 16 from rfl]
      go_wp2
      go_loopw [9] (fun vi wr => vi = .int .i64 0 ∧ Hid (SurvW w wr A (w.heap.size + 2) m 0 (new 16))) (fun _ _ => 0)
      case atStart => exact ⟨rfl, HS⟩
      case round =>
        clear HS
        obtain ⟨rfl, hI⟩ := hrel
        go_wp2_with fail
        refine (dk_fail m wr hI.out.dk hm (by decide)).mono ?_
        rintro e v1 ⟨rfl, hd1, ho1⟩
        have HF1 := Lib.hid hd1
        have HA1 := Lib.hid (hI.out.arr.only ho1 (fun h => h.2 rfl))
        clear hd1 ho1
        go_wp2_with fail
        refine (dk_start v1 HF1.out).mono ?_
        rintro e v2 ⟨rfl, hd2, ho2⟩
        have HF2 := Lib.hid hd2
        have HA2 := Lib.hid (HA1.out.only ho2 (fun h => h.2 rfl))
        have HRD := Lib.hid (surv_read hI.out)
        have HFC := Lib.hid (surv_facts hI.out)
        clear hd2 ho2 HA1 HF1 hI
        generalize ((new 16).fail m).start = T at *
        generalize hf : (fun q => bAt (stl m (new 16).W (new 16).L 0) q) = f at *
        have HRD2 : Hid (∀ q, T.read q = f q) := Lib.hid (fun q => by rw [← hf]; exact HRD.out q)
        clear hf HRD
        go_wp2
        go_loopw [12] (fun vi wr => ∃ q : Nat, q ≤ 16 ∧ vi = .int .i64 q ∧ Hid (Dk w wr (NotA w A) (w.heap.size + 2) T ∧ ArrAt wr A f)) (fun vi _ => 16 - (intOf vi).toNat)
        case atStart => exact ⟨0, Nat.zero_le _, rfl, HF2.out, HA2.out⟩
        case round =>
          clear HF2 HA2
          obtain ⟨q, hq, rfl, hJ⟩ := hrel
          by_cases hlq : q < 16
          · have y0 : (0 : Int) ≤ (q : Int) := by omega
            have y1 : (q : Int) < 16 := by omega
            have CR := dk_read q wr hJ.out.1 HFC.out.1 (by rw [HFC.out.2.1]; exact hlq) (by have := HFC.out.2.2.2; omega)
            rw [HRD2.out q] at CR
            have cr := Lib.hid CR
            clear CR
            go_wp2_with fail
            refine cr.out.mono ?_
            rintro e v3 ⟨rfl, hd3, hb3⟩
            have ha3 := hJ.out.2.below hb3
            have HJ3 := Lib.hid (And.intro hd3 ha3)
            have cq := ha3.cell q hlq
            clear hd3 hb3 ha3 cr
            generalize strOf (f q) = X at *
            go_wp2
            clear cq
            go_roundw
            case rel => exact ⟨q + 1, by omega, by go_num, HJ3⟩
            case measure => simp [intOf]; omega
          · obtain rfl : q = 16 := by omega
            have CW := waits_at wr hJ.out.1.here
            rw [HFC.out.2.2.1] at CW
            have cw := Lib.hid CW
            clear CW
            go_wp2_with fail
            refine cw.out.mono ?_
            rintro e v4 ⟨rfl, rfl⟩
            go_wp2_with fail
            refine (known4 wr).mono ?_
            rintro e v5 ⟨rfl, hb⟩
            have HZ := Lib.hid (chain2 hJ.out.1.below hb)
            clear hb
            go_wp2
            go_ret
            exact ⟨rfl, HZ.out⟩

theorem byte_cells : Try.prog.cellsOf 5 = 1 := by kernel_rfl

theorem u8_nat {z : Int} (h : (Lit.int .u8 z).wf = true) : 0 ≤ z ∧ z < 256 := by
  simp [Lit.wf, IntKind.min, IntKind.max, IntKind.signed, IntKind.bits] at h; omega

/-- A slice of bytes, as it was read: none, or a row of them. -/
theorem open_bytes {H : Type} {enc : TypeId × Value → H} {w : World} {b0 : Nat} {v : Value} {d : DataW H} {p : List MemPlace}
    (hv : Value.okWide Try.prog w .any b0 42 v) (h : DataW.Trod enc Try.prog w 0 (fun _ => true) true 42 v d p) :
    (∃ pa cap, v = .slice pa 0 cap) ∨ ∃ (b off len cap : Nat) (B : Nat → Nat), v = .slice (some ⟨b, off, none⟩) len cap ∧ 0 < len ∧ len ≤ maxLen ∧ b < w.heap.size ∧ (∀ j, j < len → B j < 256) ∧ (∀ j, j < len → w.cell? ⟨b, off + j, none⟩ = some (.int .u8 (B j : Int))) := by
  have hlt : ∀ x ∈ p, x.block < w.heap.size := by obtain ⟨n, hn⟩ := h; exact DataW.trod_lt n _ _ _ hn
  obtain ⟨a0, len, cap, rfl⟩ := WideShapes.okWide_slice Try.underlying42 hv
  obtain ⟨fuel, hf⟩ := h
  rcases ChangeShapes.open_ints Try.underlying42 Try.underlying5 byte_cells hf with ⟨hcs, hx⟩ | ⟨a, len', cap', zs, hcs, _, hl, hmx, hzl, hx, hcell, hwf⟩
  · simp [Value.cells] at hcs
    obtain ⟨rfl, rfl, rfl⟩ := hcs
    exact .inl ⟨_, _, rfl⟩
  · simp [Value.cells] at hcs
    obtain ⟨rfl, rfl, rfl⟩ := hcs
    simp only [Prod.mk.injEq] at hx
    simp only [if_true] at hzl
    by_cases hl0 : len = 0
    · subst hl0
      exact .inl ⟨_, _, rfl⟩
    · obtain ⟨b, off, spot⟩ := a
      have hspot : spot = none := by simpa [Addr.add] using World.cell?_spot (hcell 0 (by omega))
      subst hspot
      have hbW : b < w.heap.size := hlt (.cell b off) (by rw [hx.2]; exact MemPlace.mem_row.2 ⟨0, by omega, by simp⟩)
      have hz : ∀ j, j < len → (Lit.int .u8 (zs.getD j 0)).wf = true := fun j hj => by
        have hjs : j < zs.length := by omega
        rw [List.getD_eq_getElem?_getD, List.getElem?_eq_getElem hjs]
        exact hwf _ (List.getElem_mem hjs)
      refine .inr ⟨b, off, len, cap, fun j => (zs.getD j 0).toNat, rfl, by omega, Nat.le_trans hl hmx, hbW, fun j hj => ?_, fun j hj => ?_⟩
      · have := u8_nat (hz j hj)
        show (zs.getD j 0).toNat < 256
        omega
      · have := u8_nat (hz j hj)
        rw [← WideShapes.add_plain, hcell j (by omega)]
        show _ = some (Value.int .u8 (((zs.getD j 0).toNat : Nat) : Int))
        rw [Int.toNat_of_nonneg this.1]

theorem u64_nat {m : Int} (h : (Lit.int .u64 m).wf = true) : ∃ n : Nat, m = n ∧ n < 2 ^ 64 := by
  have m1 : 0 ≤ m ∧ m < 18446744073709551616 := by simp [Lit.wf, IntKind.min, IntKind.max, IntKind.signed, IntKind.bits] at h; omega
  obtain ⟨n, rfl⟩ := Int.eq_ofNat_of_zero_le m1.1
  exact ⟨n, rfl, by omega⟩

/-- The same of the slice as it was read. -/
theorem survives_raw {H : Type} {enc : TypeId × Value → H} {w : World} {b0 : Nat} {v : Value} {d : DataW H} {p : List MemPlace}
    (hv : Value.okWide Try.prog w .any b0 42 v) (h : DataW.Trod enc Try.prog w 0 (fun _ => true) true 42 v d p) (m : Int) (hm : (Lit.int .u64 m).wf = true) :
    Calls Try.prog 7 #[v, .int .u64 m] w fun e w' => e = .returned (.bool true) ∧ Below w.heap.size w w' := by
  obtain ⟨n, rfl, hn⟩ := u64_nat hm
  rcases open_bytes hv h with ⟨pa, cap, rfl⟩ | ⟨b, off, len, cap, B, rfl, _, hl, hb, hB, hc⟩
  · exact survives_none cap n pa hn w
  · exact survives_any b off len cap n hn B w hl hb hB hc

end Go.Proofs.Ytepipdikglabaaa.Dk
