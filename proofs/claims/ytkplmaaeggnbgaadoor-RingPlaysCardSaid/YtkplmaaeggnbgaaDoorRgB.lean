/- The walk of ring.Build: its contract. No condition but those that each states. -/
import Derived.Test.YtkplmaaeggnbgaaDoorRgA
import Derived.Test.YtkplmaaeggnbgaaDoorDgV
namespace Go.Proofs.YtkplmaaeggnbgaaDoor.Rg
open Go.RowKit Dk

theorem strOf_append (a b : Bytes) : strOf a ++ strOf b = strOf (a ++ b) := by
  apply ByteArray.ext
  simp [strOf]

/-- The cells of an entry in a block of its own, behind the world w0. -/
structure EAt (w0 W : World) (A : Nat) (kind number slot size : Int) (s : ByteArray) : Prop where
  c0 : W.cell? ⟨A, 0, none⟩ = some (.int .i64 kind)
  c1 : W.cell? ⟨A, 1, none⟩ = some (.int .i64 number)
  c2 : W.cell? ⟨A, 2, none⟩ = some (.int .i64 slot)
  c3 : W.cell? ⟨A, 3, none⟩ = some (.int .i64 size)
  c4 : W.cell? ⟨A, 4, none⟩ = some (.string s)
  lt : A < W.heap.size
  below : Below w0.heap.size w0 W

/-- The same, spelled out. -/
def EAll (w0 W : World) (A : Nat) (kind number slot size : Int) (s : ByteArray) : Prop :=
  W.cell? ⟨A, 0, none⟩ = some (.int .i64 kind) ∧ W.cell? ⟨A, 1, none⟩ = some (.int .i64 number) ∧ W.cell? ⟨A, 2, none⟩ = some (.int .i64 slot) ∧ W.cell? ⟨A, 3, none⟩ = some (.int .i64 size) ∧ W.cell? ⟨A, 4, none⟩ = some (.string s) ∧ EAt w0 W A kind number slot size s

section
variable {w0 W W' : World} {A : Nat} {kind number slot size : Int} {s : ByteArray}
theorem EAt.of_block (h : EAt w0 W A kind number slot size s) (hb : W'.heap[A]? = W.heap[A]?) (hw : Below w0.heap.size w0 W') (hs : W.heap.size ≤ W'.heap.size) : EAt w0 W' A kind number slot size s :=
  have e : ∀ o, W'.cell? ⟨A, o, none⟩ = W.cell? ⟨A, o, none⟩ := fun o => World.cell?_of_block (a := ⟨A, o, none⟩) hb
  ⟨(e _).trans h.c0, (e _).trans h.c1, (e _).trans h.c2, (e _).trans h.c3, (e _).trans h.c4, Nat.lt_of_lt_of_le h.lt hs, hw⟩
theorem EAt.later (h : EAt w0 W A kind number slot size s) (hb : Below W.heap.size W W') : EAt w0 W' A kind number slot size s := h.of_block (hb.block A h.lt) (chain2 h.below hb) hb.size
theorem EAt.all (h : EAt w0 W A kind number slot size s) : EAll w0 W A kind number slot size s := ⟨h.c0, h.c1, h.c2, h.c3, h.c4, h⟩
theorem eall_later (hb : Below W.heap.size W W') (h : EAll w0 W A kind number slot size s) : EAll w0 W' A kind number slot size s := (h.2.2.2.2.2.later hb).all
end

theorem eat_new (w : World) (e : Ent) (t : TypeId) : EAt w (w.alloc (.cells e.cells.toArray t)) w.heap.size e.kind e.number e.slot e.size (strOf e.sum) := by
  have hc : ∀ j v, e.cells[j]? = some v → (w.alloc (.cells e.cells.toArray t)).cell? ⟨w.heap.size, j, none⟩ = some v := fun j v hv => by
    have := range_new w e.cells t j v hv; rwa [Nat.zero_add] at this
  exact ⟨hc 0 _ rfl, hc 1 _ rfl, hc 2 _ rfl, hc 3 _ rfl, hc 4 _ rfl, by simp, (Below.refl _ _).alloc (Nat.le_refl _) _⟩

/-- Block B holds an entry. -/
structure EB (W : World) (B : Nat) (e : Ent) : Prop where
  cells : W.rangeAt B 0 e.cells
  room : W.there B 0 5
  lt : B < W.heap.size

theorem EB.of_block {W W' : World} {B : Nat} {e : Ent} (h : EB W B e) (hb : W'.heap[B]? = W.heap[B]?) (hs : W.heap.size ≤ W'.heap.size) : EB W' B e := ⟨rangeAt_block h.cells hb, there_block h.room hb, Nat.lt_of_lt_of_le h.lt hs⟩
theorem EB.later {W W' : World} {B : Nat} {e : Ent} (h : EB W B e) (hb : Below W.heap.size W W') : EB W' B e := h.of_block (hb.block B h.lt) hb.size
theorem EB.only {W W' : World} {B : Nat} {e : Ent} {G : Nat → Prop} (h : EB W B e) (k : Only G W W') (hG : ¬G B) : EB W' B e := h.of_block (k.block B h.lt hG) k.size
theorem eb_new (w : World) (e : Ent) (t : TypeId) : EB (w.alloc (.cells e.cells.toArray t)) w.heap.size e := ⟨range_new w e.cells t, there_new w e.cells.toArray t, by simp⟩
theorem EB.set {W : World} {B : Nat} {e : Ent} (h : EB W B e) (e' : Ent) : EB (W.setCells B 0 e'.cells) B e' :=
  ⟨World.rangeAt_setCells_same W B 0 e'.cells h.room, World.there_setCells h.room _ _ _, by rw [Dk.size_setCells]; exact h.lt⟩
theorem ecells_one (e : Ent) : ∀ u ∈ e.cells, u.oneCell' = true := by
  intro u hu
  simp [Ent.cells] at hu
  rcases hu with rfl | rfl | rfl | rfl | rfl <;> rfl
theorem e_all (e : Ent) : e.cells.toArray.all (·.oneCell') = true := all_oneCell_toArray (ecells_one e)
theorem e_info (e : Ent) : (Tryd.prog.info? 47).map (·.size) = some e.cells.length := by kernel_rfl
theorem e_infoA (e : Ent) : (Tryd.prog.info? 47).map (·.size) = some e.cells.toArray.size := e_info e
theorem ref_info (e : Ent) : (Tryd.prog.info? 43).map (·.size) = some e.cells.length := by kernel_rfl
theorem ref_infoA (e : Ent) : (Tryd.prog.info? 43).map (·.size) = some e.cells.toArray.size := ref_info e

theorem zero_arr (W : World) : (zeroValue 25).run Tryd.prog W = .ok (.agg (List.replicate 64 (Value.int .u8 0)).toArray) W := by kernel_rfl

theorem slice_from {P : Program} (t e : TypeId) (n k : Nat) (hu : P.underlying t = some (.array n e)) (hs : (P.info? e).map (·.size) = some 1) (hk : k < n) (b : Nat) (w : World) :
    (Instr.sliceAt t (.pointer (some ⟨b, 0, none⟩)) (some (.int .i64 (k : Int))) none none).run P w = .ok (.slice (some ⟨b, k, none⟩) (n - k) (n - k)) w := by
  have hz : (sizeOf e).run P w = .ok 1 w := by
    cases hq : P.info? e with
    | none => simp [hq] at hs
    | some i => simp [hq] at hs; simp [sizeOf, typeInfo, hq, hs]
  have h1 : (k : Int) ≤ (n : Int) := by omega
  have h2 : (0 : Int) ≤ (k : Int) := by omega
  have h3 : ¬n = k := by omega
  have h4 : k ≤ n := by omega
  simp [Instr.sliceAt, Instr.sureAddr, run_underlying hu, Instr.sliceBounds, Instr.sliceBound, hz, Addr.add_mid, h2, h3, h4, go_sem]

theorem str_take8 (l : Bytes) : (strOf l).extract 0 8 = strOf (l.take 8) := by
  apply ByteArray.ext
  simp [strOf, ByteArray.data_extract]

theorem bv_append (a b : Bytes) : bv (a ++ b) = bv a ++ bv b := by simp [bv]
theorem bv_zeros (n : Nat) : bv (List.replicate n 0) = List.replicate n (.int .u8 0) := by simp [bv]

theorem of_l (l : Bytes) (w : World) (HK : HasK w) (hl : l.length ≤ 900000) : Calls Tryd.prog 51 #[.string (strOf l)] w fun e w' => e = .returned (.string (strOf (sha l))) ∧ Below w.heap.size w w' := by
  have := of_any (strOf l) w HK (by rw [strOf_size]; exact hl)
  rwa [strOf_toList] at this

theorem hasK_below {w w' : World} (h : HasK w) (k : Below w.heap.size w w') : HasK w' := h.later k

set_option maxHeartbeats 1000000 in
theorem build_no (e : Ent) (hv : e.valid = false) (w : World) :
    Calls Tryd.prog 53 #[.agg e.cells.toArray] w fun x w' => x = .returned (.tuple #[.string (strOf []), .int .i64 1]) ∧ Below w.heap.size w w' := by
  have C := Lib.hid (isValid_any e (w.alloc (.cells e.cells.toArray 47)))
  rw [hv] at C
  obtain ⟨kind, number, slot, size, sum⟩ := e
  replace C : Hid (Calls Tryd.prog 82 #[.agg #[.int .i64 kind, .int .i64 number, .int .i64 slot, .int .i64 size, .string (strOf sum)]] (w.alloc (.cells #[.int .i64 kind, .int .i64 number, .int .i64 slot, .int .i64 size, .string (strOf sum)] 47)) fun x w' => x = .returned (.bool false) ∧ Below (w.alloc (.cells #[.int .i64 kind, .int .i64 number, .int .i64 slot, .int .i64 size, .string (strOf sum)] 47)).heap.size (w.alloc (.cells #[.int .i64 kind, .int .i64 number, .int .i64 slot, .int .i64 size, .string (strOf sum)] 47)) w') := C
  clear hv
  show Calls _ _ #[.agg #[.int .i64 kind, .int .i64 number, .int .i64 slot, .int .i64 size, .string (strOf sum)]] w _
  go_enter Tryd.func53, Tryd.ntmps53
  go_wp2_with fail
  refine C.out.mono ?_
  rintro x w1 ⟨rfl, hb⟩
  have HB := Lib.hid (chain2 ((Below.refl w.heap.size w).alloc (Nat.le_refl _) _) hb)
  clear hb C
  go_wp2
  go_ret2
  exact ⟨rfl, HB.out⟩

set_option maxHeartbeats 2000000 in
set_option maxRecDepth 100000 in
theorem build_yes (e : Ent) (hv : e.valid = true) (w : World) (HK : HasK w) :
    Calls Tryd.prog 53 #[.agg e.cells.toArray] w fun x w' => x = .returned (.tuple #[.string (strOf e.blk), .int .i64 0]) ∧ Below w.heap.size w w' := by
  have C := Lib.hid (isValid_any e (w.alloc (.cells e.cells.toArray 47)))
  have HA := Lib.hid (eat_new w e 47)
  have HHK := Lib.hid HK
  obtain ⟨b1, b2, b3, b4, b5, b6, b7, b8, b9⟩ := of_decide_eq_true hv
  have CK := Lib.hid (fun W => encode_le e.kind 1 (.inl rfl) (by omega) (by omega) W)
  have CS := Lib.hid (fun W => encode_le e.slot 1 (.inl rfl) (by omega) (by omega) W)
  have CN := Lib.hid (fun W => encode_le e.number 4 (.inr rfl) (by omega) (by omega) W)
  have CZ := Lib.hid (fun W => encode_le e.size 4 (.inr rfl) (by omega) (by omega) W)
  have HBODY : Hid (strOf [67, 74] ++ strOf (le 1 e.kind) ++ strOf (le 1 e.slot) ++ strOf (le 4 e.number) ++ strOf (le 4 e.size) ++ strOf e.sum = strOf e.body) := Lib.hid (by simp only [strOf_append]; rfl)
  have HBL := Lib.hid (body_length (valid_sum hv))
  have HSH := Lib.hid (sha_take e.body)
  have HEB : Hid (e.blk = e.body ++ ((sha e.body).take 8 ++ List.replicate 12 0)) := Lib.hid rfl
  rw [hv] at C
  generalize e.blk = BL at HEB ⊢
  generalize e.body = BD at HBODY HBL HSH HEB
  obtain ⟨kind, number, slot, size, sum⟩ := e
  replace C : Hid (Calls Tryd.prog 82 #[.agg #[.int .i64 kind, .int .i64 number, .int .i64 slot, .int .i64 size, .string (strOf sum)]] (w.alloc (.cells #[.int .i64 kind, .int .i64 number, .int .i64 slot, .int .i64 size, .string (strOf sum)] 47)) fun x w' => x = .returned (.bool true) ∧ Below (w.alloc (.cells #[.int .i64 kind, .int .i64 number, .int .i64 slot, .int .i64 size, .string (strOf sum)] 47)).heap.size (w.alloc (.cells #[.int .i64 kind, .int .i64 number, .int .i64 slot, .int .i64 size, .string (strOf sum)] 47)) w') := C
  replace HA : Hid (EAt w (w.alloc (.cells #[.int .i64 kind, .int .i64 number, .int .i64 slot, .int .i64 size, .string (strOf sum)] 47)) w.heap.size kind number slot size (strOf sum)) := HA
  replace HBODY : Hid (strOf [67, 74] ++ strOf (le 1 kind) ++ strOf (le 1 slot) ++ strOf (le 4 number) ++ strOf (le 4 size) ++ strOf sum = strOf BD) := HBODY
  replace CK : Hid (∀ W, Calls Tryd.prog 83 #[.int .i64 kind, .int .i64 1] W fun x w' => x = .returned (.string (strOf (le 1 kind))) ∧ Below W.heap.size W w') := CK
  replace CS : Hid (∀ W, Calls Tryd.prog 83 #[.int .i64 slot, .int .i64 1] W fun x w' => x = .returned (.string (strOf (le 1 slot))) ∧ Below W.heap.size W w') := CS
  replace CN : Hid (∀ W, Calls Tryd.prog 83 #[.int .i64 number, .int .i64 4] W fun x w' => x = .returned (.string (strOf (le 4 number))) ∧ Below W.heap.size W w') := CN
  replace CZ : Hid (∀ W, Calls Tryd.prog 83 #[.int .i64 size, .int .i64 4] W fun x w' => x = .returned (.string (strOf (le 4 size))) ∧ Below W.heap.size W w') := CZ
  show Calls _ _ #[.agg #[.int .i64 kind, .int .i64 number, .int .i64 slot, .int .i64 size, .string (strOf sum)]] w _
  have hx1 : (strOf (le 1 kind)).size = 1 := by rw [strOf_size, le_length]
  generalize strOf (le 1 kind) = x1 at hx1 CK HBODY
  have hx2 : (strOf (le 1 slot)).size = 1 := by rw [strOf_size, le_length]
  generalize strOf (le 1 slot) = x2 at hx2 CS HBODY
  have hx3 : (strOf (le 4 number)).size = 4 := by rw [strOf_size, le_length]
  generalize strOf (le 4 number) = x3 at hx3 CN HBODY
  have hx4 : (strOf (le 4 size)).size = 4 := by rw [strOf_size, le_length]
  generalize strOf (le 4 size) = x4 at hx4 CZ HBODY
  have hx5 : (strOf sum).size = 32 := by rw [strOf_size]; exact b9
  generalize strOf sum = x5 at *
  clear hv HK b1 b2 b3 b4 b5 b6 b7 b8 b9
  go_enter Tryd.func53, Tryd.ntmps53
  go_wp2_with fail
  refine C.out.mono ?_
  rintro x w1 ⟨rfl, hb⟩
  have HA1 := Lib.hid (HA.out.later hb)
  clear hb C HA
  go_wp2_with fail
  have hS0 : EAll w w1.drew w.heap.size kind number slot size x5 := (HA1.out.of_block (W' := w1.drew) rfl HA1.out.below.drew (Nat.le_refl _)).all
  clear HA1
  go_region_held3 (fun W => W.cell? ⟨w.heap.size, 0, none⟩ = some (.int .i64 kind) ∧ W.cell? ⟨w.heap.size, 1, none⟩ = some (.int .i64 number) ∧ W.cell? ⟨w.heap.size, 2, none⟩ = some (.int .i64 slot) ∧ W.cell? ⟨w.heap.size, 3, none⟩ = some (.int .i64 size) ∧ W.cell? ⟨w.heap.size, 4, none⟩ = some (.string x5) ∧ EAt w W w.heap.size kind number slot size x5) (first | assumption | exact eall_later (by assumption) (by assumption)) (first
    | (go_at_call 83; (with_reducible refine (CK.out _).mono ?_); rintro e W3 ⟨rfl, hb⟩)
    | (go_at_call 83; (with_reducible refine (CS.out _).mono ?_); rintro e W3 ⟨rfl, hb⟩)
    | (go_at_call 83; (with_reducible refine (CN.out _).mono ?_); rintro e W3 ⟨rfl, hb⟩)
    | (go_at_call 83; (with_reducible refine (CZ.out _).mono ?_); rintro e W3 ⟨rfl, hb⟩))
  have hh := ‹World.cell? _ _ = _ ∧ World.cell? _ _ = _ ∧ World.cell? _ _ = _ ∧ World.cell? _ _ = _ ∧ World.cell? _ _ = _ ∧ EAt w _ w.heap.size kind number slot size x5›
  have HB3 := Lib.hid hh.2.2.2.2.2.below
  have e : (⟨#[67, 74]⟩ : ByteArray) ++ x1 ++ x2 ++ x3 ++ x4 ++ x5 = strOf BD := HBODY.out
  rw [e]
  clear hh e hS0 hx1 hx2 hx3 hx4 hx5 HBODY CK CS CN CZ
  have hz := zero_arr
  have hsl := slice_all (P := Tryd.prog) 25 5 64 (by kernel_rfl) (by kernel_rfl)
  have HTH : Hid ((W3.alloc (.cells (List.replicate 64 (Value.int .u8 0)).toArray 25)).there W3.heap.size 0 64) := Lib.hid (by
    have h := there_new W3 (List.replicate 64 (Value.int .u8 0)).toArray 25
    simpa using h)
  have HRZ : Hid ((W3.alloc (.cells (List.replicate 64 (Value.int .u8 0)).toArray 25)).rangeAt W3.heap.size 0 (List.replicate 64 (Value.int .u8 0))) := Lib.hid (range_new _ _ _)
  have HW4 : Hid (Below w.heap.size w (W3.alloc (.cells (List.replicate 64 (Value.int .u8 0)).toArray 25))) := Lib.hid (chain2 HB3.out ((Below.refl _ _).alloc (Nat.le_refl _) _))
  generalize (List.replicate 64 (Value.int .u8 0)).toArray = Z at hz HTH HRZ HW4
  have hs44 := slice_from (P := Tryd.prog) 25 5 64 44 (by kernel_rfl) (by kernel_rfl) (by decide)
  go_wp2_with fail
  have hcp := run_copy_string (P := Tryd.prog) (W3.alloc (.cells Z 25)) 85 9 3 5 W3.heap.size 0 64 64 44 (strOf BD) (by kernel_rfl) (by kernel_rfl) (by rw [strOf_size, HBL.out]; rfl) (fun j hj => HTH.out j (by omega))
  rw [hcp]
  simp only [Result.andThen]
  rw [Oper.upon_value, strOf_toList, List.take_of_length_le (Nat.le_of_eq HBL.out)]
  clear hcp
  have HW5 : Hid (Below w.heap.size w ((W3.alloc (.cells Z 25)).setCells W3.heap.size 0 (bv BD))) := Lib.hid (below_setCells HW4.out _ HB3.out.size _ _ _ HW4.out)
  have HT5 : Hid (((W3.alloc (.cells Z 25)).setCells W3.heap.size 0 (bv BD)).there W3.heap.size 0 64) := Lib.hid (World.there_setCells HTH.out _ _ _)
  have HR5 : Hid (((W3.alloc (.cells Z 25)).setCells W3.heap.size 0 (bv BD)).rangeAt W3.heap.size 0 (bv BD)) := Lib.hid (World.rangeAt_setCells_same _ _ _ _ (fun j hj => HTH.out j (by rw [bv_length, HBL.out] at hj; omega)))
  have HQ5 : Hid (((W3.alloc (.cells Z 25)).setCells W3.heap.size 0 (bv BD)).rangeAt W3.heap.size 52 (List.replicate 12 (Value.int .u8 0))) := Lib.hid (by
    have h1 : (W3.alloc (.cells Z 25)).rangeAt W3.heap.size 52 (List.replicate 12 (Value.int .u8 0)) := rangeAt_right (xs := List.replicate 52 (Value.int .u8 0)) (ys := List.replicate 12 (Value.int .u8 0)) (o := 0) (n := 52) (by rw [List.replicate_append_replicate]; exact HRZ.out) (by simp)
    exact World.rangeAt_setCells_apart h1 _ _ _ (.inr (.inr (by rw [bv_length, HBL.out]; decide))))
  have HS5 : Hid (((W3.alloc (.cells Z 25)).setCells W3.heap.size 0 (bv BD)).heap.size = W3.heap.size + 1) := Lib.hid (by rw [Dk.size_setCells]; simp)
  generalize (W3.alloc (.cells Z 25)).setCells W3.heap.size 0 (bv BD) = W5 at *
  go_wp2_with fail
  have CO := Lib.hid (of_l BD W5.drew ((HHK.out.later HW5.out).later ⟨rfl, rfl, rfl, Nat.le_refl _, fun _ _ => rfl⟩) (by rw [HBL.out]; decide))
  have h8s : (strOf (sha BD)).size = 32 := by rw [strOf_size]; rfl
  refine wp_region_noPanic (wp_region_held_drew (S := fun _ => True) (by kernel_rfl) trivial (fun hHeld => ?_))
  refine wpAnyH_take (i := 0) (v := ?_) rfl (by kernel_rfl) (by kernel_rfl) (by kernel_rfl) (fun _ _ _ h => h) (Or.inl ⟨by rfl, ?_⟩) (by assumption) ?_
  rotate_left
  · intro w' hSw
    try dsimp only at hSw
    go_simp
    first | done | with_reducible rfl
  simp only [Act.put, List.setIfInBounds_toArray, List.set_cons_zero, List.set_cons_succ]
  refine wpAnyH_take (i := 1) (v := ?_) rfl (by kernel_rfl) (by kernel_rfl) (by kernel_rfl) (fun _ _ _ h => h) (Or.inl ⟨by rfl, ?_⟩) (by assumption) ?_
  rotate_left
  · intro w' hSw
    try dsimp only at hSw
    go_simp
    first | done | with_reducible rfl
  simp only [Act.put]
  refine wpAnyH_ready (rs := [2]) (by kernel_rfl) (by simp) ?_
  refine AllReadyH.cons (o := { dst := some 33, op := .call { callee := .value (.func 51), args := #[.tmp 32], argTypes := #[9] }, type := 9, pos := "ring.go:48", after := #[{ on := 1, ground := Ground.data }], guard := none }) rfl (fun K hK => ?_) AllReadyH.nil
  go_simp
  go_at_call 51
  refine CO.out.mono ?_
  rintro x W6 ⟨rfl, hb6⟩
  refine hK.out _ _ trivial (fun hHeld => ?_)
  clear hK K
  try simp only [Act.put, List.setIfInBounds_toArray, List.set_cons_zero, List.set_cons_succ]
  refine wpAnyH_take (i := 3) (v := ?_) rfl (by kernel_rfl) (by kernel_rfl) (by kernel_rfl) (fun _ _ _ h => h) (Or.inl ⟨by rfl, ?_⟩) (by assumption) ?_
  rotate_left
  · intro w' hSw
    try dsimp only at hSw
    go_simp
    first | done | with_reducible rfl
  simp only [Act.put, List.setIfInBounds_toArray]
  rw [str_take8 (sha BD)]
  refine wpAnyH_ready (rs := [4]) (by kernel_rfl) (by simp) ?_
  refine AllReadyH.cons (o := { dst := some 35, op := .call { callee := .builtin .copy, args := #[.tmp 31, .tmp 34], argTypes := #[85, 9] }, type := 3, pos := "ring.go:48", after := #[{ on := 0, ground := Ground.data }, { on := 3, ground := Ground.data }, { on := 2, ground := Ground.chain }], guard := none }) rfl (fun K hK => ?_) AllReadyH.nil
  go_simp
  have hb36 : W6.heap[W3.heap.size]? = W5.heap[W3.heap.size]? := hb6.block _ (by show W3.heap.size < W5.heap.size; rw [HS5.out]; exact Nat.lt_succ_self _)
  have hT6 : W6.there W3.heap.size 0 64 := there_block HT5.out hb36
  have hcp := run_copy_string (P := Tryd.prog) W6 85 9 3 5 W3.heap.size 44 20 20 8 (strOf ((sha BD).take 8)) (by kernel_rfl) (by kernel_rfl) (by rw [strOf_size, HSH.out]; rfl) (fun j hj => by have := hT6 (44 + j) (by omega); rwa [Nat.zero_add] at this)
  rw [hcp]
  simp only [Result.andThen]
  rw [Oper.upon_value, strOf_toList, List.take_of_length_le (Nat.le_of_eq HSH.out)]
  refine hK.out _ _ trivial (fun hHeld => ?_)
  clear hK K hcp
  try simp only [Act.put, List.setIfInBounds_toArray, List.set_cons_zero, List.set_cons_succ]
  refine wpAnyH_done (by kernel_rfl) ?_ _
  refine NoPanic.normal ?_
  have hs6 := hb6.size
  have hR7 : (W6.setCells W3.heap.size 44 (bv ((sha BD).take 8))).rangeAt W3.heap.size 0 (bv BL) := by
    have h1 := World.rangeAt_setCells_apart (rangeAt_block HR5.out hb36) W3.heap.size 44 (bv ((sha BD).take 8)) (.inr (.inl (by rw [bv_length, HBL.out]; decide)))
    have h2 := World.rangeAt_setCells_same W6 W3.heap.size 44 (bv ((sha BD).take 8)) (fun j hj => by
      rw [bv_length, HSH.out] at hj
      have := hT6 (44 + j) (by omega); rwa [Nat.zero_add] at this)
    have h3 := World.rangeAt_setCells_apart (rangeAt_block HQ5.out hb36) W3.heap.size 44 (bv ((sha BD).take 8)) (.inr (.inr (by rw [bv_length, HSH.out]; decide)))
    rw [HEB.out, bv_append, bv_append]
    refine rangeAt_add h1 (rangeAt_add ?_ ?_)
    · rw [bv_length, HBL.out]; exact h2
    · rw [bv_length, bv_length, HBL.out, HSH.out, bv_zeros]; exact h3
  have hBL : BL.length = 64 := by rw [HEB.out]; simp [HBL.out, HSH.out]
  have HZ : Hid (Below w.heap.size w (W6.setCells W3.heap.size 44 (bv ((sha BD).take 8)))) := Lib.hid (below_setCells (HW5.out.drew.trans (hb6.mono (by have := HW5.out.size; exact this))) _ HB3.out.size _ _ _ (HW5.out.drew.trans (hb6.mono (by have := HW5.out.size; exact this))))
  have hcv := Dk.convert_range (P := Tryd.prog) (w := W6.setCells W3.heap.size 44 (bv ((sha BD).take 8))) (src := 85) (dst := 9) W3.heap.size 0 64 64 BL Tryd.underlying85 Tryd.underlying5 Tryd.underlying9 hBL hR7
  replace hcv : _ = Result.ok (Value.string (strOf BL)) _ := hcv
  clear hb36 hT6 hR7 hb6
  generalize W6.setCells W3.heap.size 44 (bv ((sha BD).take 8)) = W7 at *
  go_wp2
  go_ret2
  exact ⟨rfl, HZ.out⟩

end Go.Proofs.YtkplmaaeggnbgaaDoor.Rg
