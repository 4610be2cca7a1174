/- The walk of MacTurned: it returns true wherever the table of constants lies. No condition but that. -/
import Derived.Test.YtepipdikglabaaaDoorMaKeW
import Derived.Lib.SmallJoins
namespace Go.Proofs.YtepipdikglabaaaDoor
open Go.RowKit

def cntN (n : Int) (m : Nat) : Int := (if n < 0 then -(n + 1) else n) % (m : Int)

theorem cntN_lt (n : Int) (m : Nat) (hm : 0 < m) : 0 ≤ cntN n m ∧ cntN n m < m := by
  unfold cntN
  exact ⟨Int.emod_nonneg _ (by omega), Int.emod_lt_of_pos _ (by omega)⟩

set_option maxHeartbeats 1000000 in
theorem countN_any (n : Int) (m : Nat) (w : World) (hn : (Lit.int .i64 n).wf = true) (hm : 0 < m) (hm2 : m ≤ 1000) :
    Calls Tryd.prog 20 #[.int .i64 n, .int .i64 (m : Int)] w fun e w' => e = .returned (.int .i64 (cntN n m)) ∧ w = w' := by
  have hb : -9223372036854775808 ≤ n ∧ n ≤ 9223372036854775807 := by
    simp [Lit.wf, IntKind.min, IntKind.max, IntKind.signed, IntKind.bits] at hn; omega
  obtain ⟨h1, h2⟩ := hb
  have g0 : (0 : Int) < (m : Int) := by omega
  have g1 : (m : Int) ≤ 1000 := by omega
  by_cases h0 : n < 0
  · have e : Hid (cntN n m = (-(n + 1)) % (m : Int)) := Lib.hid (by unfold cntN; rw [if_pos h0])
    have t0 : decide (n < 0) = true := decide_eq_true h0
    go_enter Tryd.func20, Tryd.ntmps20
    go_wp2
    go_ret
    exact ⟨by rw [e.out, ← Int.tmod_eq_emod_of_nonneg (by omega), Int.neg_tmod]; rfl, rfl⟩
  · have e : Hid (cntN n m = n % (m : Int)) := Lib.hid (by unfold cntN; rw [if_neg h0])
    have t0 : decide (n < 0) = false := decide_eq_false h0
    have h3 : 0 ≤ n := by omega
    go_enter Tryd.func20, Tryd.ntmps20
    go_wp2
    go_ret
    exact ⟨by rw [e.out]; rfl, rfl⟩

theorem eqB_size {a b : ByteArray} (h : a.size ≠ b.size) : eqB a b = false := decide_eq_false (fun e => h (by rw [e]))

/-- A tag of which one byte is combined with one that is not 0. -/
def turnL (T : List UInt8) (q : Nat) (c : UInt8) : List UInt8 := T.set q (T.getD q 0 ^^^ c)

theorem turnL_ne {T : List UInt8} {q : Nat} {c : UInt8} (hq : q < T.length) (hc : c ≠ 0) : eqB (strOf T) (strOf (turnL T q c)) = false := by
  refine decide_eq_false (fun e => ?_)
  have h1 : T = turnL T q c := by
    have := congrArg (fun s : ByteArray => s.data.toList) e
    simpa [strOf] using this
  have h2 : T.getD q 0 = (turnL T q c).getD q 0 := by rw [← h1]
  have h3 : (turnL T q c).getD q 0 = T.getD q 0 ^^^ c := by
    unfold turnL
    rw [List.getD_eq_getElem?_getD, List.getElem?_set_self hq]; rfl
  rw [h3] at h2
  have h4 : T.getD q 0 ^^^ c = T.getD q 0 := h2.symm
  apply hc
  have h5 : (T.getD q 0 ^^^ (T.getD q 0 ^^^ c)) = T.getD q 0 ^^^ T.getD q 0 := by rw [h4]
  rw [← UInt8.xor_assoc, UInt8.xor_self, UInt8.zero_xor] at h5
  exact h5

theorem bit_of (m : Nat) : ∃ c : UInt8, c ≠ 0 ∧ ∀ W, (Op.shift .shl .u8 1 .u8 ((m : Int).tmod 8)).run Tryd.prog W = .ok (.int .u8 (c.toNat : Int)) W := by
  have e : (m : Int).tmod 8 = ((m % 8 : Nat) : Int) := by rw [Int.tmod_eq_emod_of_nonneg (by omega)]; simp
  rw [e]
  have h : m % 8 < 8 := Nat.mod_lt _ (by decide)
  generalize m % 8 = r at h
  rcases (show r = 0 ∨ r = 1 ∨ r = 2 ∨ r = 3 ∨ r = 4 ∨ r = 5 ∨ r = 6 ∨ r = 7 by omega) with rfl | rfl | rfl | rfl | rfl | rfl | rfl | rfl
  · exact ⟨1, by decide, fun W => by kernel_rfl⟩
  · exact ⟨2, by decide, fun W => by kernel_rfl⟩
  · exact ⟨4, by decide, fun W => by kernel_rfl⟩
  · exact ⟨8, by decide, fun W => by kernel_rfl⟩
  · exact ⟨16, by decide, fun W => by kernel_rfl⟩
  · exact ⟨32, by decide, fun W => by kernel_rfl⟩
  · exact ⟨64, by decide, fun W => by kernel_rfl⟩
  · exact ⟨128, by decide, fun W => by kernel_rfl⟩

theorem turned_range {W : World} {g b C q : Nat} {T : List UInt8} {x c : UInt8} (h : Grows W b g C (bv T)) (hq : q < T.length) (hx : T.getD q 0 = x) :
    (W.setCell ⟨g, q, none⟩ (.int .u8 ((x ^^^ c).toNat : Int))).rangeAt g 0 (bv (turnL T q c)) := fun j v hv => by
  have hj : j < T.length := by have := (List.getElem?_eq_some_iff.1 hv).1; simpa [bv, turnL] using this
  rw [Nat.zero_add]
  have hcell : ∀ i, i < T.length → W.cell? ⟨g, i, none⟩ = some (.int .u8 ((T.getD i 0).toNat : Int)) := fun i hi => h.cells i _ (by simp [bv, List.getD, hi])
  by_cases e : j = q
  · subst e
    rw [World.cell?_setCell_same _ _ _ (hcell j hj), ← hv, ← hx]
    simp [bv, turnL, hq]
  · rw [World.cell?_setCell_other _ _ _ _ (by intro e'; simp at e'; first | done | exact e e'.symm), hcell j hj, ← hv]
    have e2 : ¬ q = j := fun h => e h.symm
    simp [bv, turnL, List.getD, hj, List.getElem?_set, e2]

set_option maxHeartbeats 4000000 in
set_option maxRecDepth 100000 in
theorem macTurned_law (key : ByteArray) (_hk : key.size ≤ maxLen) (s : ByteArray) (_hs : s.size ≤ maxLen) (at0 : Int) (hat : (Lit.int .i64 at0).wf = true) (tb : Int) (htb : (Lit.int .u8 tb).wf = true) (w : World) (HK : HasK w) :
    Calls Tryd.prog 6 #[.agg #[.string key, .string s, .int .i64 at0, .int .u8 tb]] w fun e w' => e = .returned (.bool true) ∧ Below w.heap.size w w' := by
  have K0 := Lib.hid HK
  clear HK
  by_cases h1 : 500 < key.size
  · go_enter Tryd.func6, Tryd.ntmps6
    go_wp2_with fail
    generalize hW : w.alloc _ = W
    have B0 : Hid (Below w.heap.size w W) := Lib.hid (by rw [← hW]; exact (Below.refl _ _).alloc (Nat.le_refl _) _)
    clear hW
    refine (known3 _ (K0.out.later B0.out)).mono ?_
    rintro e w1 ⟨rfl, hb⟩
    have H1 := Lib.hid (chain2 B0.out hb)
    clear hb
    go_wp2
    go_ret
    exact ⟨rfl, H1.out⟩
  have t1 : decide ((500 : Int) < (key.size : Int)) = false := decide_eq_false (by omega)
  have t1' : decide (500 < key.size) = false := decide_eq_false (by omega)
  by_cases h2 : 1000 < s.size
  · go_enter Tryd.func6, Tryd.ntmps6
    go_wp2_with fail
    generalize hW : w.alloc _ = W
    have B0 : Hid (Below w.heap.size w W) := Lib.hid (by rw [← hW]; exact (Below.refl _ _).alloc (Nat.le_refl _) _)
    clear hW
    refine (known3 _ (K0.out.later B0.out)).mono ?_
    rintro e w1 ⟨rfl, hb⟩
    have H1 := Lib.hid (chain2 B0.out hb)
    clear hb
    go_wp2
    go_ret
    exact ⟨rfl, H1.out⟩
  have t2 : decide ((1000 : Int) < (s.size : Int)) = false := decide_eq_false (by omega)
  have t2' : decide (1000 < s.size) = false := decide_eq_false (by omega)
  obtain ⟨k, rfl, hkl⟩ := toS key
  obtain ⟨l, rfl, hl⟩ := toS s
  obtain ⟨T, hT⟩ : ∃ T, T = macL k l := ⟨_, rfl⟩
  have hTl : T.length = 32 := by rw [hT]; rfl
  have C1 := fun (W : World) (h : HasK W) => macOf_s k l W h (by omega) (by omega)
  have CR := fun (x : ByteArray) (hx : x.size ≤ 100000) (W : World) (h : HasK W) => right_s k l x W h (by omega) (by omega) hx
  rw [← hT] at C1 CR
  clear hT
  have hsz : (strOf T).size = 32 := by rw [strOf_size, hTl]
  have t3 : (((strOf T).size : Int) != 32) = false := by rw [hsz]; rfl
  have hbits : 0 ≤ tb ∧ tb < 256 := by simp [Lit.wf, IntKind.min, IntKind.max, IntKind.signed, IntKind.bits] at htb; omega
  obtain ⟨m, rfl⟩ := Int.eq_ofNat_of_zero_le hbits.1
  obtain ⟨qi, hqi⟩ : ∃ qi, qi = cntN at0 32 := ⟨_, rfl⟩
  have hq := cntN_lt at0 32 (by decide)
  rw [← hqi] at hq
  obtain ⟨q, rfl⟩ := Int.eq_ofNat_of_zero_le hq.1
  have CC := fun (W : World) => countN_any at0 32 W hat (by decide) (by decide)
  rw [← hqi] at CC
  have hq32 : q < 32 := by omega
  clear hqi hq
  have C2 := CR (strOf T) (by rw [hsz]; decide)
  rw [show eqB (strOf T) (strOf T) = true from decide_eq_true rfl] at C2
  have c1 := Lib.hid C1
  have c2 := Lib.hid C2
  have cc := Lib.hid CC
  have cr := Lib.hid CR
  have HTL := Lib.hid hTl
  have HSZ := Lib.hid hsz
  clear C1 C2 CC CR hsz hTl hkl hl h1 h2 hat htb
  generalize strOf k = key at *
  generalize strOf l = s at *
  go_enter Tryd.func6, Tryd.ntmps6
  go_wp2_with fail
  generalize hW : w.alloc _ = W
  have B0 : Hid (Below w.heap.size w W) := Lib.hid (by rw [← hW]; exact (Below.refl _ _).alloc (Nat.le_refl _) _)
  have R2 : Hid (W.cell? ⟨w.heap.size, 2, none⟩ = some (.int .i64 at0)) := Lib.hid (by rw [← hW, World.cell?_alloc_mark]; rfl)
  have R3 : Hid (W.cell? ⟨w.heap.size, 3, none⟩ = some (.int .u8 (m : Int))) := Lib.hid (by rw [← hW, World.cell?_alloc_mark]; rfl)
  have hWs : w.heap.size < W.heap.size := by rw [← hW]; simp
  clear hW
  refine (c1.out W (K0.out.later B0.out)).mono ?_
  rintro e w1 ⟨rfl, hb⟩
  have B1 := Lib.hid (chain2 B0.out hb)
  have b1 := Lib.hid hb
  clear hb
  go_wp2_with fail
  refine (c2.out w1 (K0.out.later B1.out)).mono ?_
  rintro e w2 ⟨rfl, hb⟩
  have B2 := Lib.hid (chain2 B1.out hb)
  have b2 := Lib.hid (chain2 b1.out hb)
  clear hb
  have r2 : w2.cell? ⟨w.heap.size, 2, none⟩ = some (.int .i64 at0) := (b2.out.cell (p := ⟨w.heap.size, 2, none⟩) hWs).trans R2.out
  go_wp2_with fail
  refine (cc.out w2).mono ?_
  rintro e w3 ⟨rfl, rfl⟩
  clear r2
  have hcv := run_bytes_of_string (P := Tryd.prog) w2 9 41 5 (strOf T) Tryd.underlying9 Tryd.underlying41 Tryd.underlying5
  have hC1 := grownCap_ge w2 (strOf T).size 0 5
  have hC2 := grownCap_le_maxLen w2 (strOf T).size 0 5 (by unfold maxLen; have := HSZ.out; omega)
  generalize grownCap w2 (strOf T).size 0 5 = C at hcv hC1 hC2
  have hsz : (bytesRow (strOf T) C).size = C := by
    have : (strOf T).data.size = (strOf T).size := rfl
    simp [bytesRow]; omega
  rw [hsz] at hcv
  have hG0 : Grows (w2.drew.alloc (.cells (bytesRow (strOf T) C) 5 (C, C + 1))) w2.heap.size w2.heap.size C (bv T) := by
    have := bytes_grow (w := w2.drew) (strOf T) C hC1 hC2 5 C (Nat.le_refl _)
    rwa [strOf_toList] at this
  have hB3 : Below w2.heap.size w2 (w2.drew.alloc (.cells (bytesRow (strOf T) C) 5 (C, C + 1))) := (Below.refl _ _).drew.alloc (Nat.le_refl _) _
  generalize w2.drew.alloc (.cells (bytesRow (strOf T) C) 5 (C, C + 1)) = W3 at hcv hG0 hB3
  have HG := Lib.hid hG0
  have B3 := Lib.hid hB3
  rw [HSZ.out] at hcv hC1
  clear hsz hG0 hB3 hC1 hC2
  go_wp2
  clear hcv
  obtain ⟨W4, hw4, hcell, hfr, hheap, hbel⟩ := drawn_world W3
  have hW2 : w.heap.size < w2.heap.size := by have := b2.out.size; omega
  have HG4 := Lib.hid (HG.out.of_block (w' := W4) (by rw [hheap.out]) (by rw [hheap.out]; exact Nat.le_refl _))
  have HTL' := HTL.out
  have ca : W4.cell? ⟨w2.heap.size, q, none⟩ = some (.int .u8 ((T.getD q 0).toNat : Int)) := HG4.out.cells q _ (by simp [bv, List.getD, HTL', hq32])
  have fa : W4.frozen? ⟨w2.heap.size, q, none⟩ = false := (HG4.out.room q (by have := HG4.out.le; rw [show (bv T).length = 32 by simp [bv, HTL']] at this; omega)).2
  have cb : W4.cell? ⟨w.heap.size, 3, none⟩ = some (.int .u8 (m : Int)) := (hcell _).trans ((B3.out.cell (p := ⟨w.heap.size, 3, none⟩) hW2).trans ((b2.out.cell (p := ⟨w.heap.size, 3, none⟩) hWs).trans R3.out))
  obtain ⟨c, hc0, hsh⟩ := bit_of m
  have hx := xor8 (T.getD q 0) c
  have hcv2 := fun (x : UInt8) (hxx : T.getD q 0 = x) => convert_range (P := Tryd.prog) (w := W4.setCell ⟨w2.heap.size, q, none⟩ (.int .u8 ((x ^^^ c).toNat : Int))) (src := 41) (dst := 9) w2.heap.size C 32 (turnL T q c) Tryd.underlying41 Tryd.underlying5 Tryd.underlying9 (by unfold turnL; rw [List.length_set]; exact HTL.out) (turned_range HG4.out (by rw [HTL.out]; exact hq32) hxx)
  have C5 := cr.out (strOf (turnL T q c)) (by rw [strOf_size]; unfold turnL; rw [List.length_set, HTL.out]; decide)
  rw [turnL_ne (by rw [HTL.out]; exact hq32) hc0] at C5
  have c5 := Lib.hid C5
  have hs6 : ((strOf T).extract 0 q).size = q := by rw [ByteArray.size_extract, HSZ.out]; omega
  have C6 := cr.out ((strOf T).extract 0 q) (by omega)
  rw [eqB_size (by rw [HSZ.out, hs6]; omega)] at C6
  have c6 := Lib.hid C6
  have hs7 : ((strOf T).extract 0 (q + 1)).size = q + 1 := by rw [ByteArray.size_extract, HSZ.out]; omega
  have hs8 : (strOf T ++ (strOf T).extract 0 (q + 1)).size = 32 + (q + 1) := by rw [ByteArray.size_append, hs7, HSZ.out]
  have C7 := cr.out (strOf T ++ (strOf T).extract 0 (q + 1)) (by omega)
  rw [eqB_size (by rw [HSZ.out, hs8]; omega)] at C7
  have c7 := Lib.hid C7
  have had : ∀ W : World, (Op.stringOp .add (strOf T) ((strOf T).extract 0 (q + 1))).run Tryd.prog W = .ok (.string (strOf T ++ (strOf T).extract 0 (q + 1))) W := fun W => run_string_add_sum (P := Tryd.prog) (w := W) _ _ (by rw [HSZ.out, hs7]; omega)
  have HAD := Lib.hid had
  generalize hxx : T.getD q 0 = x at ca hx
  have hcv3 := hcv2 x hxx
  have HBW : Hid (Below w.heap.size w (W4.setCell ⟨w2.heap.size, q, none⟩ (.int .u8 ((x ^^^ c).toNat : Int)))) := Lib.hid ((chain2 (chain2 B2.out B3.out) hbel.out).setCell (by show w.heap.size ≤ w2.heap.size; omega) _)
  generalize (x ^^^ c).toNat = y at hx hcv3 HBW
  generalize x.toNat = xn at ca hx
  clear C5 C6 C7 hs6 hs7 hs8 hcv2 hxx had
  have z0 : (0 : Int) ≤ (q : Int) := by omega
  have z1 : (q : Int) < 32 := by omega
  have z2 : (m : Int) < 256 := hbits.2
  clear hcell hfr HTL'
  refine region_still_tail 12 (by kernel_rfl) (by kernel_rfl) W4 hw4.out ?_
  simp only [List.take_succ_cons, List.take_zero, List.drop_succ_cons, List.drop_zero]
  repeat still_step
  refine wpStill_nil ?_
  go_wp2_with fail
  generalize W4.setCell ⟨w2.heap.size, q, none⟩ (.int .u8 (y : Int)) = W5 at *
  clear hx ca fa cb hsh hcv3
  refine (c5.out W5 (K0.out.later HBW.out)).mono ?_
  rintro e w6 ⟨rfl, hb⟩
  have B6 := Lib.hid (chain2 HBW.out hb)
  clear hb
  have hsz := HSZ.out
  have e1 : ((q : Int) + 1).toNat = q + 1 := by omega
  go_wp2_with fail
  refine (c6.out w6 (K0.out.later B6.out)).mono ?_
  rintro e w7 ⟨rfl, hb⟩
  have B7 := Lib.hid (chain2 B6.out hb)
  clear hb
  have had := HAD.out
  go_wp2_with fail
  refine (c7.out w7 (K0.out.later B7.out)).mono ?_
  rintro e w8 ⟨rfl, hb⟩
  have B8 := Lib.hid (chain2 B7.out hb)
  clear hb
  go_wp2_with fail
  refine (known3 w8 (K0.out.later B8.out)).mono ?_
  rintro e w9 ⟨rfl, hb⟩
  have B9 := Lib.hid (chain2 B8.out hb)
  clear hb
  go_wp2
  go_ret
  exact ⟨rfl, B9.out⟩

theorem turn_cells : Tryd.prog.cellsOf 39 = 4 := by kernel_rfl

/-- The same of the argument as it was read. -/
theorem macTurned_raw {H : Type} {enc : TypeId × Value → H} {w : World} {b0 base : Nat} {spare : Nat → Bool} {held : Bool} {v : Value} {d : DataW H} {p : List MemPlace}
    (hv : Value.okWide Tryd.prog w .any b0 39 v) (h : DataW.Trod enc Tryd.prog w base spare held 39 v d p) (HK : HasK w) :
    Calls Tryd.prog 6 #[v] w fun e w' => e = .returned (.bool true) ∧ Below w.heap.size w w' := by
  obtain ⟨c0, c1, c2, c3, y0, y1, y2, y3, n, rfl, _, _, h0, h1, h2, h3⟩ := Joins.open_agg4 Tryd.underlying39 (by kernel_rfl) turn_cells hv h
  obtain ⟨a0, e0, _, s0⟩ := DataW.trod_string Tryd.underlying9 h0
  obtain ⟨a1, e1, _, s1⟩ := DataW.trod_string Tryd.underlying9 h1
  obtain ⟨a2, e2, _, s2⟩ := DataW.trod_int Tryd.underlying3 h2
  obtain ⟨a3, e3, _, s3⟩ := DataW.trod_int Tryd.underlying5 h3
  simp at e0 e1 e2 e3
  subst e0 e1 e2 e3
  exact macTurned_law a0 s0 a1 s1 a2 s2 a3 s3 w HK

end Go.Proofs.YtepipdikglabaaaDoor
