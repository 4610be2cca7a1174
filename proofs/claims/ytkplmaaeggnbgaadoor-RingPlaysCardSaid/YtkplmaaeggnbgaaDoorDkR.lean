/- The walk of Read: its contracts. No condition but those that each states. -/
import Derived.Test.YtkplmaaeggnbgaaDoorDkF
namespace Go.Proofs.YtkplmaaeggnbgaaDoor.Dk
open Go.RowKit

set_option maxHeartbeats 1000000 in
set_option maxRecDepth 100000 in
theorem read_no (p : Option Addr) (i : Int) (w : World) (h : NoDisk w p) :
    Calls Tryd.prog 66 #[.pointer p, .int .i64 i] w fun e w' => e = .returned (.tuple #[.string ByteArray.empty, .int .i64 16]) ∧ w = w' := by
  go_enter Tryd.func66, Tryd.ntmps66
  go_wp2_with (go_at_call 56; refine (access_no _ _ h).mono ?_; rintro e w' ⟨rfl, rfl⟩)
  go_ret2
  exact ⟨rfl, rfl⟩

set_option maxHeartbeats 1000000 in
set_option maxRecDepth 100000 in
theorem read_off (F : Nat → Prop) (g : Nat) (S : DS) (i : Int) (w : World) (hD : DiskAt w F g S) (hon : S.on = false) :
    Calls Tryd.prog 66 #[.pointer (some ⟨g, 0, none⟩), .int .i64 i] w fun e w' => e = .returned (.tuple #[.string ByteArray.empty, .int .i64 7]) ∧ w = w' := by
  have hs := hD.self
  have ho := hD.on
  rw [hon] at ho
  have C := access_yes g false w hs ho
  rw [show accErr false = 7 from rfl] at C
  have c := Lib.hid C
  clear hD hon hs ho C
  go_enter Tryd.func66, Tryd.ntmps66
  go_wp2_with (go_at_call 56; refine c.out.mono ?_; rintro e w' ⟨rfl, rfl⟩)
  go_ret2
  exact ⟨rfl, rfl⟩

set_option maxHeartbeats 1000000 in
set_option maxRecDepth 100000 in
theorem read_bad (F : Nat → Prop) (g : Nat) (S : DS) (i : Int) (w : World) (hD : DiskAt w F g S) (hon : S.on = true) (hb : hasB i S.L.length = false) :
    Calls Tryd.prog 66 #[.pointer (some ⟨g, 0, none⟩), .int .i64 i] w fun e w' => e = .returned (.tuple #[.string ByteArray.empty, .int .i64 1]) ∧ w = w' := by
  have hs := hD.self
  have ho := hD.on
  rw [hon] at ho
  have C := access_yes g true w hs ho
  rw [show accErr true = 0 from rfl] at C
  have c := Lib.hid C
  obtain ⟨pa, pc, hd⟩ := hD.dur
  have C2 := has_any g S.L.length pc i pa w hd
  rw [hb] at C2
  have c2 := Lib.hid C2
  clear hD hon hs ho C hd C2 hb
  go_enter Tryd.func66, Tryd.ntmps66
  go_wp2_with (first
    | (go_at_call 56; refine c.out.mono ?_; rintro e w' ⟨rfl, rfl⟩)
    | (go_at_call 57; refine c2.out.mono ?_; rintro e w' ⟨rfl, rfl⟩))
  go_ret2
  exact ⟨rfl, rfl⟩

theorem info_b : (Tryd.prog.info? 134).map (·.size) = some 64 := by kernel_rfl
theorem zeroInt (w : World) : (zeroValue 3).run Tryd.prog w = .ok (.int .i64 0) w := by kernel_rfl
theorem zero_block (W : World) : (zeroValue 134).run Tryd.prog W = .ok (.agg (Value.int .u8 0 :: bv (List.replicate 63 0)).toArray) W := by kernel_rfl

/-- What a Read knows when the block's bytes are copied. -/
structure ReadW (w W : World) (g gm : Nat) (vp : Value) (S : DS) (D : DataW Unit) (b : Bytes) : Prop where
  last : W.cell? ⟨g, 4, none⟩ = some (.map (some gm))
  pend : W.cell? ⟨g, 3, none⟩ = some vp
  bytes : W.rangeAt w.heap.size 0 (bv b)
  room : W.there w.heap.size 0 64
  below : Below w.heap.size w W
  map : W.ownsMap Tryd.prog 3 (plainElem Tryd.prog 3) gm S.c D

theorem readW {w W : World} {g gd cd gm : Nat} {vp : Value} {S : DS} {D : DataW Unit} {b : Bytes} {Z : List Value} (hD : DiskIn w g gd cd gm vp S D) (hb : b.length = 64) (hT : (w.alloc (.cells Z.toArray 134)).there w.heap.size 0 (bv b).toArray.size)
    (h : (w.alloc (.cells Z.toArray 134)).setCells w.heap.size 0 (bv b) = W) : ReadW w W g gm vp S D b := by
  have hB : Below w.heap.size w W := by rw [← h]; exact below_setCells (Below.refl _ _) _ (Nat.le_refl _) _ _ _ ((Below.refl _ _).alloc (Nat.le_refl _) _)
  obtain ⟨l1, l2, l3⟩ := hD.lt
  rw [show (bv b).toArray.size = 64 by rw [List.size_toArray, bv_length, hb]] at hT
  refine ⟨(hB.cell (p := ⟨g, 4, none⟩) l1).trans hD.last, (hB.cell (p := ⟨g, 3, none⟩) l1).trans hD.pend, ?_, ?_, hB, ownsMap_block hD.map (hB.block gm l3)⟩
  · rw [← h]; exact World.rangeAt_setCells_same _ _ _ _ (by rw [bv_length, hb]; exact hT)
  · rw [← h]; exact World.there_setCells hT _ _ _

set_option maxHeartbeats 2000000 in
set_option maxRecDepth 100000 in
theorem read_old (g gd cd gm : Nat) (vp : Value) (S : DS) (D : DataW Unit) (i : Nat) (w : World) (hD : DiskIn w g gd cd gm vp S D) (hon : S.on = true) (hi : i < S.L.length) (_hc : S.c ≤ 2 ^ 40) (hno : lastIx S.W i = none) :
    Calls Tryd.prog 66 #[.pointer (some ⟨g, 0, none⟩), .int .i64 (i : Int)] w fun e w' => e = .returned (.tuple #[.string (strOf (bAt S.L i)), .int .i64 0]) ∧ Below w.heap.size w w' := by
  have HD := Lib.hid hD
  have hs := hD.self
  have ho := hD.on
  rw [hon] at ho
  have C := access_yes g true w hs ho
  rw [show accErr true = 0 from rfl] at C
  have c := Lib.hid C
  have hd := hD.dur
  have C2 := has_any g S.L.length cd i _ w hd
  rw [show hasB i S.L.length = true from decide_eq_true ⟨by omega, by omega⟩] at C2
  have c2 := Lib.hid C2
  have hh := hD.mapOk.no i hno
  have hz := zero_block
  have hhi := hD.ok.hi
  obtain ⟨A, B, hsp, hA⟩ := dcells_at hD.ok.blk hi
  have hbl := hD.ok.blk i hi
  have hR : w.rangeAt gd (i * 64) (bv (bAt S.L i)) := by
    have h1 := hD.durs
    rw [hsp] at h1
    have h2 := rangeAt_left (rangeAt_right h1 hA.symm)
    rwa [Nat.zero_add] at h2
  have HR := Lib.hid hR
  have hb64 : (bv (bAt S.L i)).length = 64 := by rw [bv_length, hbl]
  have HI : Hid ((Tryd.prog.info? 134).map (·.size) = some (bv (bAt S.L i)).length) := Lib.hid (by rw [hb64]; exact info_b)
  have HIA : Hid ((Tryd.prog.info? 134).map (·.size) = some (bv (bAt S.L i)).toArray.size) := Lib.hid (by rw [List.size_toArray, hb64]; exact info_b)
  have HONE : Hid ((bv (bAt S.L i)).toArray.all (·.oneCell') = true) := Lib.hid (all_oneCell_toArray (bv_one _))
  have HTH : Hid ((w.alloc (.cells (Value.int .u8 0 :: bv (List.replicate 63 0)).toArray 134)).there w.heap.size 0 (bv (bAt S.L i)).toArray.size) := Lib.hid (by
    have h := there_new w (Value.int .u8 0 :: bv (List.replicate 63 0)).toArray 134
    rw [show (bv (bAt S.L i)).toArray.size = 64 by rw [List.size_toArray, hb64]]
    exact h)
  have z0 : (0 : Int) ≤ (i : Int) := by omega
  have z1 : (i : Int) < (S.L.length : Int) := by omega
  have hlk := hD.lt
  have HKEY := Lib.hid (key_of i (by omega))
  have hsl := slice_all (P := Tryd.prog) 134 5 64 (by kernel_rfl) (by kernel_rfl)
  have HBL := Lib.hid hbl
  clear hD hon hs ho C C2 hsp hA hR hb64 hbl hno
  generalize bv (List.replicate 63 0) = ZB at hz HTH
  go_enter Tryd.func66, Tryd.ntmps66
  go_wp2_with (first
    | (go_at_call 56; refine c.out.mono ?_; rintro e w' ⟨rfl, rfl⟩)
    | (go_at_call 57; refine c2.out.mono ?_; rintro e w' ⟨rfl, rfl⟩)
    | (refine wpList_load_mid rfl 134 _ rfl gd (i * 64) rfl (bv (bAt S.L i)) _ HR.out Tryd.underlying134 rfl HI.out ?_)
    | (refine wpList_store_mid rfl 134 _ _ rfl w.heap.size 0 (bv (bAt S.L i)).toArray rfl rfl HTH.out HIA.out HONE.out ?_; generalize hW2 : World.setCells (World.alloc w (Obj.cells _ _)) _ _ _ = W2; have RW := Lib.hid (readW HD.out HBL.out HTH.out hW2); clear hW2; have rl := RW.out.last)
    | (at_lookup; refine wpList_lookup_own_ok_int _ rfl _ _ 98 rfl 3 3 .i64 law_int Tryd.underlying98 Tryd.underlying3 (zeroInt _) gm S.c D rfl RW.out.map _ _ rfl HKEY.out ?_; intro cc hat hwc; have hcv := convert_range (P := Tryd.prog) (w := W2) (src := 85) (dst := 9) w.heap.size 0 64 64 (bAt S.L i) Tryd.underlying85 Tryd.underlying5 Tryd.underlying9 HBL.out RW.out.bytes))
  go_ret2
  exact ⟨rfl, RW.out.below⟩

set_option maxHeartbeats 2000000 in
set_option maxRecDepth 100000 in
theorem read_new (g gd cd gm gp cp j : Nat) (S : DS) (D : DataW Unit) (i : Nat) (w : World) (hD : DiskIn w g gd cd gm (.slice (some ⟨gp, 0, none⟩) S.W.length cp) S D) (hon : S.on = true) (hi : i < S.L.length) (_hc : S.c ≤ 2 ^ 40) (hyes : lastIx S.W i = some j) :
    Calls Tryd.prog 66 #[.pointer (some ⟨g, 0, none⟩), .int .i64 (i : Int)] w fun e w' => e = .returned (.tuple #[.string (strOf (wAt S.W j).2), .int .i64 0]) ∧ Below w.heap.size w w' := by
  have HD := Lib.hid hD
  have hs := hD.self
  have ho := hD.on
  rw [hon] at ho
  have C := access_yes g true w hs ho
  rw [show accErr true = 0 from rfl] at C
  have c := Lib.hid C
  have hd := hD.dur
  have C2 := has_any g S.L.length cd i _ w hd
  rw [show hasB i S.L.length = true from decide_eq_true ⟨by omega, by omega⟩] at C2
  have c2 := Lib.hid C2
  obtain ⟨hh, hatk⟩ := hD.mapOk.yes i j hyes
  have HATK := Lib.hid hatk
  obtain ⟨hj, hji⟩ := lastUpto_some hyes
  have hfew := hD.ok.few
  obtain ⟨A2, B2, hsp2, hA2⟩ := wcells_at (fun q hq => (hD.ok.wat q hq).2) hj
  have hbl2 := (hD.ok.wat j hj).2
  have hR2 : w.rangeAt gp (j * 65 + 1) (bv (wAt S.W j).2) := by
    have h1 : w.rangeAt gp 0 (wcells S.W) := ownsRow_range hD.row
    rw [hsp2] at h1
    have h2 := rangeAt_left (rangeAt_right h1 hA2.symm)
    rw [Nat.zero_add] at h2
    exact rangeAt_right (xs := [Value.int .i64 ((wAt S.W j).1 : Int)]) (ys := bv (wAt S.W j).2) h2 rfl
  have HR2 := Lib.hid hR2
  have hb642 : (bv (wAt S.W j).2).length = 64 := by rw [bv_length, hbl2]
  have HI2 : Hid ((Tryd.prog.info? 134).map (·.size) = some (bv (wAt S.W j).2).length) := Lib.hid (by rw [hb642]; exact info_b)
  have HIA2 : Hid ((Tryd.prog.info? 134).map (·.size) = some (bv (wAt S.W j).2).toArray.size) := Lib.hid (by rw [List.size_toArray, hb642]; exact info_b)
  have HONE2 : Hid ((bv (wAt S.W j).2).toArray.all (·.oneCell') = true) := Lib.hid (all_oneCell_toArray (bv_one _))
  have HBL2 := Lib.hid hbl2
  have HB642 := Lib.hid hb642
  have hlp := (hD.nep gp rfl).1
  have y0 : (0 : Int) ≤ (j : Int) := by omega
  have y1 : (j : Int) < (S.W.length : Int) := by omega
  have hz := zero_block
  have hhi := hD.ok.hi
  obtain ⟨A, B, hsp, hA⟩ := dcells_at hD.ok.blk hi
  have hbl := hD.ok.blk i hi
  have hR : w.rangeAt gd (i * 64) (bv (bAt S.L i)) := by
    have h1 := hD.durs
    rw [hsp] at h1
    have h2 := rangeAt_left (rangeAt_right h1 hA.symm)
    rwa [Nat.zero_add] at h2
  have HR := Lib.hid hR
  have hb64 : (bv (bAt S.L i)).length = 64 := by rw [bv_length, hbl]
  have HI : Hid ((Tryd.prog.info? 134).map (·.size) = some (bv (bAt S.L i)).length) := Lib.hid (by rw [hb64]; exact info_b)
  have HIA : Hid ((Tryd.prog.info? 134).map (·.size) = some (bv (bAt S.L i)).toArray.size) := Lib.hid (by rw [List.size_toArray, hb64]; exact info_b)
  have HONE : Hid ((bv (bAt S.L i)).toArray.all (·.oneCell') = true) := Lib.hid (all_oneCell_toArray (bv_one _))
  have HTH : Hid ((w.alloc (.cells (Value.int .u8 0 :: bv (List.replicate 63 0)).toArray 134)).there w.heap.size 0 (bv (bAt S.L i)).toArray.size) := Lib.hid (by
    have h := there_new w (Value.int .u8 0 :: bv (List.replicate 63 0)).toArray 134
    rw [show (bv (bAt S.L i)).toArray.size = 64 by rw [List.size_toArray, hb64]]
    exact h)
  have z0 : (0 : Int) ≤ (i : Int) := by omega
  have z1 : (i : Int) < (S.L.length : Int) := by omega
  have hlk := hD.lt
  have HKEY := Lib.hid (key_of i (by omega))
  have hsl := slice_all (P := Tryd.prog) 134 5 64 (by kernel_rfl) (by kernel_rfl)
  have HBL := Lib.hid hbl
  clear hD hon hs ho C C2 hsp hA hR hb64 hbl hyes hatk hji hsp2 hA2 hbl2 hR2 hb642
  generalize bv (List.replicate 63 0) = ZB at hz HTH
  go_enter Tryd.func66, Tryd.ntmps66
  go_wp2_with (first
    | (go_at_call 56; refine c.out.mono ?_; rintro e w' ⟨rfl, rfl⟩)
    | (go_at_call 57; refine c2.out.mono ?_; rintro e w' ⟨rfl, rfl⟩)
    | (refine wpList_load_mid rfl 134 _ rfl gd (i * 64) rfl (bv (bAt S.L i)) _ HR.out Tryd.underlying134 rfl HI.out ?_)
    | (refine wpList_store_mid rfl 134 _ _ rfl w.heap.size 0 (bv (bAt S.L i)).toArray rfl rfl HTH.out HIA.out HONE.out ?_; generalize hW2 : World.setCells (World.alloc w (Obj.cells _ _)) _ _ _ = W2; have RW := Lib.hid (readW HD.out HBL.out HTH.out hW2); clear hW2; have rl := RW.out.last)
    | (at_lookup; refine wpList_lookup_own_ok_int _ rfl _ _ 98 rfl 3 3 .i64 law_int Tryd.underlying98 Tryd.underlying3 (zeroInt _) gm S.c D rfl RW.out.map _ _ rfl HKEY.out ?_; intro cc hat hwc; obtain rfl : cc = (j : Int) := (by have := (HATK.out (.lit (.int .i64 0))).symm.trans hat; simp at this; exact this.symm); clear hat hwc; have rp := RW.out.pend; have HR3 : Hid (W2.rangeAt gp (j * 65 + 1) (bv (wAt S.W j).2)) := Lib.hid (rangeAt_block HR2.out (RW.out.below.block gp hlp)); have HT3 : Hid (W2.there w.heap.size 0 (bv (wAt S.W j).2).toArray.size) := Lib.hid (by rw [show (bv (wAt S.W j).2).toArray.size = 64 by rw [List.size_toArray, HB642.out]]; exact RW.out.room))
    | (refine wpList_load_mid rfl 134 _ rfl gp (j * 65 + 1) rfl (bv (wAt S.W j).2) _ HR3.out Tryd.underlying134 rfl HI2.out ?_)
    | (refine wpList_store_mid rfl 134 _ _ rfl w.heap.size 0 (bv (wAt S.W j).2).toArray rfl rfl HT3.out HIA2.out HONE2.out ?_; have hcv := convert_range (P := Tryd.prog) (w := W2.setCells w.heap.size 0 (bv (wAt S.W j).2)) (src := 85) (dst := 9) w.heap.size 0 64 64 (wAt S.W j).2 Tryd.underlying85 Tryd.underlying5 Tryd.underlying9 HBL2.out (World.rangeAt_setCells_same _ _ _ _ (by rw [HB642.out]; exact RW.out.room))))
  go_ret2
  exact ⟨rfl, below_setCells RW.out.below _ (Nat.le_refl _) _ _ _ RW.out.below⟩

theorem read_any (F : Nat → Prop) (g : Nat) (S : DS) (i : Nat) (w : World) (hD : DiskAt w F g S) (hon : S.on = true) (hi : i < S.L.length) (hc : S.c ≤ 2 ^ 40) :
    Calls Tryd.prog 66 #[.pointer (some ⟨g, 0, none⟩), .int .i64 (i : Int)] w fun e w' => e = .returned (.tuple #[.string (strOf (S.read i)), .int .i64 0]) ∧ Below w.heap.size w w' := by
  obtain ⟨gd, cd, gm, vp, D, hD, _⟩ := hD
  cases hl : lastIx S.W i with
  | none =>
    have e : S.read i = bAt S.L i := by unfold DS.read DS.readUpto; rw [show lastUpto S.W i S.W.length = none from hl]
    rw [e]
    exact read_old g gd cd gm vp S D i w hD hon hi hc hl
  | some j =>
    have e : S.read i = (wAt S.W j).2 := by unfold DS.read DS.readUpto; rw [show lastUpto S.W i S.W.length = some j from hl]
    rw [e]
    obtain ⟨hj, _⟩ := lastUpto_some hl
    obtain ⟨gp, cp, hvp, _, _⟩ := hD.row.form (show 0 < S.W.length by omega)
    subst hvp
    exact read_new g gd cd gm gp cp j S D i w hD hon hi hc hl

end Go.Proofs.YtkplmaaeggnbgaaDoor.Dk
