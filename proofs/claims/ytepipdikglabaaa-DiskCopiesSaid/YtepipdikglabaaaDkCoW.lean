/- The walk of DiskCopies: it returns true. No condition but those that each states. -/
import Derived.Test.YtepipdikglabaaaDkQ
import Derived.Test.YtepipdikglabaaaDkNW
import Derived.Test.YtepipdikglabaaaDkOp
namespace Go.Proofs.Ytepipdikglabaaa.Dk
open Go.RowKit

/-- What the law keeps of its disk. -/
structure CoSt (T : DS) (n : Nat) : Prop where
  on : T.on = true
  next : T.next = none
  L : T.L.length = 16
  c : T.c ≤ n
  ops : T.ops ≤ n

theorem coSt_new : CoSt (new 16) 0 := ⟨rfl, rfl, rfl, Nat.le_refl _, Nat.le_refl _⟩
theorem CoSt.step {T : DS} {n : Nat} (h : CoSt T n) : CoSt T (n + 1) := ⟨h.on, h.next, h.L, Nat.le_succ_of_le h.c, Nat.le_succ_of_le h.ops⟩
theorem CoSt.write {T : DS} {n : Nat} (h : CoSt T n) (k : Nat) (s : Bytes) : CoSt (T.write k s).1 (n + 1) ∧ errOf (T.write k s).2 = 0 := by
  rw [write_none h.next]
  exact ⟨⟨h.on, h.next, h.L, Nat.succ_le_succ h.c, Nat.succ_le_succ h.ops⟩, rfl⟩
theorem CoSt.sync {T : DS} {n : Nat} (h : CoSt T n) : CoSt T.sync.1 (n + 1) ∧ errOf T.sync.2 = 0 := by
  have e : T.sync = (T.tick.settled allM, true) := by unfold DS.sync; rw [step_none h.next]; rfl
  rw [e]
  exact ⟨⟨h.on, h.next, (stl_length _ _ _ _).trans h.L, Nat.le_succ_of_le h.c, Nat.succ_le_succ h.ops⟩, rfl⟩

/-- The first cells of an operation in block A. -/
structure OCells (W : World) (A : Nat) (kind i : Int) (c : Nat) : Prop where
  c0 : W.cell? ⟨A, 0, none⟩ = some (.int .i64 kind)
  c1 : W.cell? ⟨A, 1, none⟩ = some (.int .i64 i)
  c2 : W.cell? ⟨A, 2, none⟩ = some (.int .u8 (c : Int))
  lt : A < W.heap.size

theorem OCells.of_block {W W' : World} {A : Nat} {kind i : Int} {c : Nat} (h : OCells W A kind i c) (hb : W'.heap[A]? = W.heap[A]?) (hs : W.heap.size ≤ W'.heap.size) : OCells W' A kind i c :=
  ⟨(World.cell?_of_block (a := ⟨A, 0, none⟩) hb).trans h.c0, (World.cell?_of_block (a := ⟨A, 1, none⟩) hb).trans h.c1, (World.cell?_of_block (a := ⟨A, 2, none⟩) hb).trans h.c2, Nat.lt_of_lt_of_le h.lt hs⟩
theorem OCells.later {W W' : World} {A : Nat} {kind i : Int} {c : Nat} (hb : Below W.heap.size W W') (h : OCells W A kind i c) : OCells W' A kind i c := h.of_block (hb.block A h.lt) hb.size
theorem OCells.only {w W W' : World} {A : Nat} {kind i : Int} {c : Nat} (hb : Only (NotA w A) W W') (h : OCells W A kind i c) : OCells W' A kind i c := h.of_block (hb.block A h.lt (fun e => e.2 rfl)) hb.size

theorem OCells.conj {W : World} {A : Nat} {kind i : Int} {c : Nat} (h : OCells W A kind i c) : W.cell? ⟨A, 1, none⟩ = some (.int .i64 i) ∧ W.cell? ⟨A, 2, none⟩ = some (.int .u8 (c : Int)) ∧ OCells W A kind i c := ⟨h.c1, h.c2, h⟩
theorem oc_later {W W' : World} {A : Nat} {kind i : Int} {c : Nat} (hb : Below W.heap.size W W') (h : W.cell? ⟨A, 1, none⟩ = some (.int .i64 i) ∧ W.cell? ⟨A, 2, none⟩ = some (.int .u8 (c : Int)) ∧ OCells W A kind i c) :
    W'.cell? ⟨A, 1, none⟩ = some (.int .i64 i) ∧ W'.cell? ⟨A, 2, none⟩ = some (.int .u8 (c : Int)) ∧ OCells W' A kind i c := (h.2.2.later hb).conj
theorem oc_only {w W W' : World} {A : Nat} {kind i : Int} {c : Nat} (hb : Only (NotA w A) W W') (h : W.cell? ⟨A, 1, none⟩ = some (.int .i64 i) ∧ W.cell? ⟨A, 2, none⟩ = some (.int .u8 (c : Int)) ∧ OCells W A kind i c) :
    W'.cell? ⟨A, 1, none⟩ = some (.int .i64 i) ∧ W'.cell? ⟨A, 2, none⟩ = some (.int .u8 (c : Int)) ∧ OCells W' A kind i c := (h.2.2.only hb).conj

theorem Dk.setsA {w w' : World} {A g o : Nat} {S : DS} (h : Dk w w' (NotA w A) g S) (hA : w.heap.size ≤ A) (vs : List Value) : Dk w (w'.setCells A o vs) (NotA w A) g S :=
  ⟨h.here.kept (G := fun i => i = A) (Only.setCells (F := fun i => i = A) A rfl vs o w' (Only.refl _ w')) (fun i h1 h2 => h1.2 h2), below_setCells h.below _ hA _ _ _ h.below, h.lo, fun i hi => h.new i (by rwa [size_setCells] at hi)⟩

/-- The array is none of the disk's any more. -/
theorem Dk.wide {w w' : World} {A g : Nat} {S : DS} (h : Dk w w' (NotA w A) g S) : Dk w w' (fun k => w.heap.size ≤ k) g S :=
  ⟨h.here.mono (fun _ e => e.1), h.below, fun _ e => e, fun _ e => Nat.le_trans h.below.size e⟩

theorem OpV.cells_length (o : OpV) : o.cells.length = 6 := rfl
theorem OpV.cells_one (o : OpV) : ∀ u ∈ o.cells, u.oneCell' = true := by
  intro u hu
  unfold OpV.cells at hu
  simp at hu
  rcases hu with rfl | rfl | rfl | rfl | rfl | rfl <;> rfl

def zeroOp : List Value := [.int .i64 0, .int .i64 0, .int .u8 0, .string ByteArray.empty, .bool false, .int .u64 0]
theorem zero_op (W : World) : (zeroValue 34).run Try.prog W = .ok (.agg zeroOp.toArray) W := by kernel_rfl
theorem info_op : (Try.prog.info? 34).map (·.size) = some 6 := by kernel_rfl

theorem oCells_new {wr : World} {Z : Array Value} {t : TypeId} (o : OpV) (hth : (wr.alloc (.cells Z t)).there wr.heap.size 0 6) : OCells ((wr.alloc (.cells Z t)).setCells wr.heap.size 0 o.cells) wr.heap.size o.kind o.i o.c := by
  have hr := World.rangeAt_setCells_same (wr.alloc (.cells Z t)) wr.heap.size 0 o.cells (by rw [o.cells_length]; exact hth)
  exact ⟨hr 0 _ rfl, hr 1 _ rfl, hr 2 _ rfl, by rw [size_setCells]; simp⟩

set_option maxHeartbeats 4000000 in
set_option maxRecDepth 100000 in
theorem copies_any (b off len cap kn cn : Nat) (hkn : kn < 256) (hcn : cn < 256) (w : World) (hl : len ≤ maxLen) (hb : b < w.heap.size) (hc : ∀ j, j < len → ∃ o : OpV, o.Ok ∧ w.rangeAt b (off + j * 6) o.cells) :
    Calls Try.prog 8 #[.slice (some ⟨b, off, none⟩) len cap, .int .u8 (kn : Int), .int .u8 (cn : Int)] w fun e w' => e = .returned (.bool true) ∧ Below w.heap.size w w' := by
  have HC := Lib.hid hc
  have HKN := Lib.hid hkn
  have HCN := Lib.hid hcn
  clear hc hkn hcn
  unfold maxLen at hl
  have hz := zero_op
  go_enter Try.func8, Try.ntmps8
  go_wp2_with fail
  refine (new_dk 16 (by decide) (by decide) w).mono ?_
  rintro e w1 ⟨rfl, hb1⟩
  have HD1 := Lib.hid hb1
  clear hb1
  go_wp2
  go_loopw [9] (fun vi wr => ∃ (i : Nat) (T : DS), i ≤ 30 ∧ vi = .int .i64 i ∧ Hid (Dk w wr (fun k => w.heap.size ≤ k) (w.heap.size + 2) T ∧ CoSt T i)) (fun vi _ => 30 - (intOf vi).toNat)
  case atStart => exact ⟨0, _, Nat.zero_le _, rfl, HD1.out, coSt_new⟩
  case round =>
    clear HD1
    obtain ⟨i, T, hi, rfl, hI⟩ := hrel
    have z0 : (0 : Int) ≤ (i : Int) := by omega
    by_cases hlen : i < len
    · by_cases h30 : i < 30
      · have z1 : (i : Int) < (len : Int) := by omega
        have z2 : (i : Int) < 30 := by omega
        obtain ⟨o, ho, hr⟩ := HC.out i hlen
        have HRO : Hid (wr.rangeAt b (off + i * 6) o.cells) := Lib.hid (rangeAt_block hr (hI.out.1.below.block b hb))
        have HI : Hid ((Try.prog.info? 34).map (·.size) = some o.cells.length) := Lib.hid info_op
        have HIA : Hid ((Try.prog.info? 34).map (·.size) = some o.cells.toArray.size) := Lib.hid info_op
        have HONE : Hid (o.cells.toArray.all (·.oneCell') = true) := Lib.hid (all_oneCell_toArray o.cells_one)
        have hth : (wr.alloc (.cells zeroOp.toArray 34)).there wr.heap.size 0 6 := there_new wr zeroOp.toArray 34
        have HTH : Hid ((wr.alloc (.cells zeroOp.toArray 34)).there wr.heap.size 0 o.cells.toArray.size) := Lib.hid hth
        have hA : w.heap.size ≤ wr.heap.size := hI.out.1.below.size
        have HW2 : Hid (OCells ((wr.alloc (.cells zeroOp.toArray 34)).setCells wr.heap.size 0 o.cells) wr.heap.size o.kind o.i o.c ∧ Dk w ((wr.alloc (.cells zeroOp.toArray 34)).setCells wr.heap.size 0 o.cells) (NotA w wr.heap.size) (w.heap.size + 2) T) :=
          Lib.hid ⟨oCells_new o hth, (hI.out.1.array _).setsA hA _⟩
        have HT := Lib.hid hI.out.2
        obtain ⟨okk, oki, okc, -, -⟩ := ho
        obtain ⟨kind, oi, oc, os, odd, mask⟩ := o
        replace okk : (Lit.int .i64 oi).wf = true := okk
        replace okc : oc < 256 := okc
        have CC : ∀ W, Calls Try.prog 24 #[.int .i64 oi, .int .i64 16] W fun e w' => e = .returned (.int .i64 (cnt oi 16)) ∧ W = w' := fun W => count_any oi 16 W okk (by decide) (by decide)
        have hcl := cnt_lt oi 16 (by decide)
        generalize cnt oi 16 = z at CC hcl
        obtain ⟨k0, rfl⟩ := Int.eq_ofNat_of_zero_le hcl.1
        have hk0 : k0 < 16 := by omega
        have ec : (((UInt8.ofNat oc).toNat : Nat) : Int) = (oc : Int) := by rw [UInt8.toNat_ofNat']; omega
        have CF := fun W => full_any (UInt8.ofNat oc) W
        rw [ec] at CF
        have hsl := fullB_length (UInt8.ofNat oc)
        generalize fullB (UInt8.ofNat oc) = sb at CF hsl
        have HSL := Lib.hid hsl
        have cc := Lib.hid CC
        have cf := Lib.hid CF
        have HHK := Lib.hid hk0
        clear hr hth okk oki okc hcl hk0 ec hsl CC CF hI
        replace HW2 : Hid (OCells ((wr.alloc (.cells zeroOp.toArray 34)).setCells wr.heap.size 0 (OpV.mk kind oi oc os odd mask).cells) wr.heap.size kind oi oc ∧ Dk w ((wr.alloc (.cells zeroOp.toArray 34)).setCells wr.heap.size 0 (OpV.mk kind oi oc os odd mask).cells) (NotA w wr.heap.size) (w.heap.size + 2) T) := HW2
        generalize (OpV.mk kind oi oc os odd mask).cells = K at HRO HI HIA HONE HTH HW2
        generalize zeroOp.toArray = Z at hz HTH HW2
        by_cases h0 : kind = 0
        · subst h0
          go_wp2_with (first
            | (refine wpList_load_mid rfl 34 _ rfl b (off + i * 6) rfl K _ HRO.out Try.underlying34 rfl HI.out ?_)
            | (refine wpList_store_mid rfl 34 _ _ rfl wr.heap.size 0 K.toArray rfl rfl HTH.out HIA.out HONE.out ?_; generalize World.setCells _ _ _ _ = W2 at HW2 ⊢
               have c20 := HW2.out.1.c0))
          have hS0 := (HW2.out.1.of_block (W' := W2.drew) rfl (Nat.le_refl _)).conj
          have hS1 := HW2.out.1.conj
          have hD0 : Dk w W2.drew (NotA w wr.heap.size) (w.heap.size + 2) T := HW2.out.2.later ⟨rfl, rfl, rfl, Nat.le_refl _, fun _ _ => rfl⟩
          have hD1 : Dk w W2 (NotA w wr.heap.size) (w.heap.size + 2) T := HW2.out.2
          have hTc := HT.out.c
          have hTo := HT.out.ops
          have hTL := HT.out.L
          have CW : ∀ W, Dk w W (NotA w wr.heap.size) (w.heap.size + 2) T → Calls Try.prog 18 #[.pointer (some ⟨w.heap.size + 2, 0, none⟩), .int .i64 (k0 : Int), .string (strOf sb)] W fun e w' => (e = .returned (.int .i64 0) ∧ Dk w w' (NotA w wr.heap.size) (w.heap.size + 2) (T.write k0 sb).1) ∧ Only (NotA w wr.heap.size) W w' :=
            fun W h => (dk_write k0 sb W h HT.out.on (by rw [hTL]; exact HHK.out) HSL.out (by omega) (by omega)).mono fun e w' ⟨a, b, c⟩ => ⟨⟨by rw [a, (HT.out.write k0 sb).2], b⟩, c⟩
          have HT' := Lib.hid (HT.out.write k0 sb).1
          generalize (T.write k0 sb).1 = T' at CW HT'
          have cw := Lib.hid CW
          clear CW c20 HW2 hTc hTo hTL HT hz HRO HI HIA HONE HTH hA
          generalize strOf sb = X at cf cw
          go_region_held3 (fun W => W.cell? ⟨wr.heap.size, 1, none⟩ = some (.int .i64 oi) ∧ W.cell? ⟨wr.heap.size, 2, none⟩ = some (.int .u8 (oc : Int)) ∧ OCells W wr.heap.size 0 oi oc) (first | assumption | exact oc_later (by assumption) (by assumption) | exact oc_only (by assumption) (by assumption)) (first
            | ((go_at_call 24; (with_reducible refine (cc.out _).mono ?_); rintro e W3 ⟨rfl, rfl⟩))
            | ((go_at_call 17; (with_reducible refine (cf.out _).mono ?_); rintro e W3 ⟨rfl, hb⟩; have hd3 := Dk.later (w0 := w) (F := NotA w wr.heap.size) (g := w.heap.size + 2) (S := T) (by assumption) hb))
            | ((go_at_call 18; (with_reducible refine (cw.out _ (by assumption)).mono ?_); rintro e W4 ⟨⟨rfl, hd⟩, ho⟩)))
          have hd4 := ‹Dk w _ (NotA w wr.heap.size) (w.heap.size + 2) T'›
          clear hS0 hS1
          have hh := ‹World.cell? _ _ = _ ∧ World.cell? _ _ = _ ∧ OCells _ wr.heap.size 0 oi oc›
          have c40 := hh.2.2.c0
          have HN := Lib.hid (And.intro hd4.wide HT'.out)
          clear hd4 hD0 hD1 hh
          go_wp2
          clear c40
          go_roundw
          case rel => exact ⟨i + 1, T', by omega, by go_num, HN⟩
          case measure => simp [intOf]; omega
        · by_cases h1 : kind = 1
          · subst h1
            go_wp2_with (first
              | (refine wpList_load_mid rfl 34 _ rfl b (off + i * 6) rfl K _ HRO.out Try.underlying34 rfl HI.out ?_)
              | (refine wpList_store_mid rfl 34 _ _ rfl wr.heap.size 0 K.toArray rfl rfl HTH.out HIA.out HONE.out ?_; generalize World.setCells _ _ _ _ = W2 at HW2 ⊢
                 have c20 := HW2.out.1.c0))
            have hTc := HT.out.c
            have hTo := HT.out.ops
            refine (dk_sync W2 HW2.out.2 HT.out.on (by omega) (by omega)).mono ?_
            rintro e W4 ⟨rfl, hd4, -⟩
            have HN := Lib.hid (And.intro hd4.wide HT.out.sync.1)
            clear hd4 c20 HW2 hTc hTo HT hz HRO HI HIA HONE HTH hA
            generalize T.sync.1 = T' at HN
            go_wp2
            go_roundw
            case rel => exact ⟨i + 1, T', by omega, by go_num, HN⟩
            case measure => simp [intOf]; omega
          · have u0 : (kind == 0) = false := by simpa using h0
            have u1 : (kind == 1) = false := by simpa using h1
            have v0 : decide (kind = 0) = false := decide_eq_false h0
            have v1 : decide (kind = 1) = false := decide_eq_false h1
            go_wp2_with (first
              | (refine wpList_load_mid rfl 34 _ rfl b (off + i * 6) rfl K _ HRO.out Try.underlying34 rfl HI.out ?_)
              | (refine wpList_store_mid rfl 34 _ _ rfl wr.heap.size 0 K.toArray rfl rfl HTH.out HIA.out HONE.out ?_; generalize World.setCells _ _ _ _ = W2 at HW2 ⊢
                 have c20 := HW2.out.1.c0))
            have HN := Lib.hid (And.intro HW2.out.2.wide HT.out.step)
            clear HW2 HT hz HRO HI HIA HONE HTH hA
            go_roundw
            case rel => exact ⟨i + 1, T, by omega, by go_num, HN⟩
            case measure => simp [intOf]; omega
      · obtain rfl : i = 30 := by omega
        rw [show ((30 : Nat) : Int) = 30 from rfl]
        have t30 : decide ((30 : Int) < (len : Int)) = true := decide_eq_true (by omega)
        have HT := Lib.hid hI.out.2
        have HDT := Lib.hid hI.out.1
        clear hI
        have hTc := HT.out.c
        have hTo := HT.out.ops
        have hTL := HT.out.L
        go_wp2_with fail
        refine (dk_copy HDT.out (by omega)).mono ?_
        rintro e v1 ⟨rfl, hd1⟩
        have HF1 := Lib.hid hd1
        have HDV := Lib.hid (HDT.out.later hd1.below)
        clear hd1
        have cw1 := waits_at v1 HDV.out.here
        have co1 := ops_at v1 HDV.out.here
        have cw2 := waits_at v1 HF1.out.here
        have co2 := ops_at v1 HF1.out.here
        generalize hz : (T.W.length : Int) = z at cw1 cw2
        generalize hy : (T.ops : Int) = y at co1 co2
        clear hz hy
        have cx1 := Lib.hid cw1
        have cx2 := Lib.hid cw2
        have cy1 := Lib.hid co1
        have cy2 := Lib.hid co2
        have hkn := HKN.out
        have hcn := HCN.out
        have z3 : (kn : Int) < 256 := by omega
        have z4 : (0 : Int) ≤ (kn : Int) := by omega
        obtain ⟨k, hk⟩ : ∃ k : Nat, (kn : Int) % 16 = (k : Int) := ⟨kn % 16, by simp⟩
        have hk16 : k < 16 := by omega
        have ec : (((UInt8.ofNat cn).toNat : Nat) : Int) = (cn : Int) := by rw [UInt8.toNat_ofNat']; omega
        have CF := fun W => full_any (UInt8.ofNat cn) W
        rw [ec] at CF
        have hsl := fullB_length (UInt8.ofNat cn)
        generalize fullB (UInt8.ofNat cn) = sb at CF hsl
        have HSL := Lib.hid hsl
        have cf := Lib.hid CF
        clear cw1 cw2 co1 co2 hkn hcn ec CF hsl
        go_wp2_with (first
          | (go_at_call 14; with_reducible refine cx1.out.mono ?_; rintro e w' ⟨rfl, rfl⟩)
          | (go_at_call 14; with_reducible refine cx2.out.mono ?_; rintro e w' ⟨rfl, rfl⟩)
          | (go_at_call 13; with_reducible refine cy1.out.mono ?_; rintro e w' ⟨rfl, rfl⟩)
          | (go_at_call 13; with_reducible refine cy2.out.mono ?_; rintro e w' ⟨rfl, rfl⟩))
        clear cx1 cx2 cy1 cy2
        refine (dk_read k v1 HDV.out HT.out.on (by omega) (by omega)).mono ?_
        rintro e v2 ⟨rfl, -, hb2⟩
        have hF2 := HF1.out.later hb2
        have HF2 := Lib.hid hF2
        clear HF1 HDV hb2 hF2
        have CR : ∀ W, Below wr.heap.size wr W → Calls Try.prog 20 #[.pointer (some ⟨w.heap.size + 2, 0, none⟩), .int .i64 (k : Int)] W fun e w' => e = .returned (.tuple #[.string (strOf (T.read k)), .int .i64 0]) ∧ Below W.heap.size W w' := fun W h => (dk_read k W (HDT.out.later h) HT.out.on (by omega) (by omega)).mono fun _ _ ⟨a, _, b⟩ => ⟨a, b⟩
        generalize strOf (T.read k) = X at CR ⊢
        have cr := Lib.hid CR
        clear CR
        go_wp2_with fail
        refine (cf.out v2).mono ?_
        rintro e v3 ⟨rfl, hb3⟩
        have HF3 := Lib.hid (HF2.out.later hb3)
        clear HF2 hb3
        go_wp2_with fail
        have CWR := dk_write k sb v3 HF3.out HT.out.on (by rw [hTL]; exact hk16) HSL.out (by omega) (by omega)
        refine CWR.mono ?_
        clear CWR
        rintro e v4 ⟨rfl, hd4, -⟩
        have HD4 := Lib.hid hd4
        have HT4 := Lib.hid (HT.out.write k sb)
        clear hd4 HF3
        generalize (T.write k sb).1 = T4 at HD4 HT4
        generalize errOf (T.write k sb).2 = er at HT4 ⊢
        have hT4c := HT4.out.1.c
        go_wp2_with fail
        have CL : Calls Try.prog 21 #[.pointer (some ⟨wr.heap.size, 0, none⟩), .int .u64 0] v4 fun e w' => e = .returned (.tuple #[]) ∧ Dk wr w' (fun k => wr.heap.size ≤ k) wr.heap.size (T4.fail 0) ∧ Only (fun k => wr.heap.size ≤ k) v4 w' := dk_fail 0 v4 HD4.out (by decide) (by omega)
        refine CL.mono ?_
        clear CL
        rintro e v5 ⟨rfl, hd5, -⟩
        have HF5 := Lib.hid hd5
        have hoff : (T4.fail 0).on = false := by unfold DS.fail; rw [HT4.out.1.on]; rfl
        clear hd5 HD4
        go_wp2_with fail
        refine (cr.out v5 HF5.out.below).mono ?_
        rintro e v6 ⟨rfl, hb6⟩
        have HF6 := Lib.hid (HF5.out.later hb6)
        clear HF5 hb6
        have con := on_at v6 (HDT.out.later HF6.out.below).here
        rw [HT.out.on] at con
        have cof := on_at v6 HF6.out.here
        rw [hoff] at cof
        have cx1 := Lib.hid con
        have cx2 := Lib.hid cof
        clear con cof hoff
        go_wp2_with (first
          | (go_at_call 12; with_reducible refine cx1.out.mono ?_; rintro e w' ⟨rfl, rfl⟩)
          | (go_at_call 12; with_reducible refine cx2.out.mono ?_; rintro e w' ⟨rfl, rfl⟩))
        refine (known4 v6).mono ?_
        rintro e v7 ⟨rfl, hb7⟩
        have HZ := Lib.hid (chain2 (chain2 HDT.out.below HF6.out.below) hb7)
        clear hb7
        go_wp2
        go_ret
        exact ⟨rfl, HZ.out⟩
    · have t0 : decide ((i : Int) < (len : Int)) = false := decide_eq_false (by omega)
      have t0' : decide (i < len) = false := decide_eq_false hlen
      have HT := Lib.hid hI.out.2
      have HDT := Lib.hid hI.out.1
      clear hI
      have hTc := HT.out.c
      have hTo := HT.out.ops
      have hTL := HT.out.L
      go_wp2_with fail
      refine (dk_copy HDT.out (by omega)).mono ?_
      rintro e v1 ⟨rfl, hd1⟩
      have HF1 := Lib.hid hd1
      have HDV := Lib.hid (HDT.out.later hd1.below)
      clear hd1
      have cw1 := waits_at v1 HDV.out.here
      have co1 := ops_at v1 HDV.out.here
      have cw2 := waits_at v1 HF1.out.here
      have co2 := ops_at v1 HF1.out.here
      generalize hz : (T.W.length : Int) = z at cw1 cw2
      generalize hy : (T.ops : Int) = y at co1 co2
      clear hz hy
      have cx1 := Lib.hid cw1
      have cx2 := Lib.hid cw2
      have cy1 := Lib.hid co1
      have cy2 := Lib.hid co2
      have hkn := HKN.out
      have hcn := HCN.out
      have z3 : (kn : Int) < 256 := by omega
      have z4 : (0 : Int) ≤ (kn : Int) := by omega
      obtain ⟨k, hk⟩ : ∃ k : Nat, (kn : Int) % 16 = (k : Int) := ⟨kn % 16, by simp⟩
      have hk16 : k < 16 := by omega
      have ec : (((UInt8.ofNat cn).toNat : Nat) : Int) = (cn : Int) := by rw [UInt8.toNat_ofNat']; omega
      have CF := fun W => full_any (UInt8.ofNat cn) W
      rw [ec] at CF
      have hsl := fullB_length (UInt8.ofNat cn)
      generalize fullB (UInt8.ofNat cn) = sb at CF hsl
      have HSL := Lib.hid hsl
      have cf := Lib.hid CF
      clear cw1 cw2 co1 co2 hkn hcn ec CF hsl
      go_wp2_with (first
        | (go_at_call 14; with_reducible refine cx1.out.mono ?_; rintro e w' ⟨rfl, rfl⟩)
        | (go_at_call 14; with_reducible refine cx2.out.mono ?_; rintro e w' ⟨rfl, rfl⟩)
        | (go_at_call 13; with_reducible refine cy1.out.mono ?_; rintro e w' ⟨rfl, rfl⟩)
        | (go_at_call 13; with_reducible refine cy2.out.mono ?_; rintro e w' ⟨rfl, rfl⟩))
      clear cx1 cx2 cy1 cy2
      refine (dk_read k v1 HDV.out HT.out.on (by omega) (by omega)).mono ?_
      rintro e v2 ⟨rfl, -, hb2⟩
      have hF2 := HF1.out.later hb2
      have HF2 := Lib.hid hF2
      clear HF1 HDV hb2 hF2
      have CR : ∀ W, Below wr.heap.size wr W → Calls Try.prog 20 #[.pointer (some ⟨w.heap.size + 2, 0, none⟩), .int .i64 (k : Int)] W fun e w' => e = .returned (.tuple #[.string (strOf (T.read k)), .int .i64 0]) ∧ Below W.heap.size W w' := fun W h => (dk_read k W (HDT.out.later h) HT.out.on (by omega) (by omega)).mono fun _ _ ⟨a, _, b⟩ => ⟨a, b⟩
      generalize strOf (T.read k) = X at CR ⊢
      have cr := Lib.hid CR
      clear CR
      go_wp2_with fail
      refine (cf.out v2).mono ?_
      rintro e v3 ⟨rfl, hb3⟩
      have HF3 := Lib.hid (HF2.out.later hb3)
      clear HF2 hb3
      go_wp2_with fail
      have CWR := dk_write k sb v3 HF3.out HT.out.on (by rw [hTL]; exact hk16) HSL.out (by omega) (by omega)
      refine CWR.mono ?_
      clear CWR
      rintro e v4 ⟨rfl, hd4, -⟩
      have HD4 := Lib.hid hd4
      have HT4 := Lib.hid (HT.out.write k sb)
      clear hd4 HF3
      generalize (T.write k sb).1 = T4 at HD4 HT4
      generalize errOf (T.write k sb).2 = er at HT4 ⊢
      have hT4c := HT4.out.1.c
      go_wp2_with fail
      have CL : Calls Try.prog 21 #[.pointer (some ⟨wr.heap.size, 0, none⟩), .int .u64 0] v4 fun e w' => e = .returned (.tuple #[]) ∧ Dk wr w' (fun k => wr.heap.size ≤ k) wr.heap.size (T4.fail 0) ∧ Only (fun k => wr.heap.size ≤ k) v4 w' := dk_fail 0 v4 HD4.out (by decide) (by omega)
      refine CL.mono ?_
      clear CL
      rintro e v5 ⟨rfl, hd5, -⟩
      have HF5 := Lib.hid hd5
      have hoff : (T4.fail 0).on = false := by unfold DS.fail; rw [HT4.out.1.on]; rfl
      clear hd5 HD4
      go_wp2_with fail
      refine (cr.out v5 HF5.out.below).mono ?_
      rintro e v6 ⟨rfl, hb6⟩
      have HF6 := Lib.hid (HF5.out.later hb6)
      clear HF5 hb6
      have con := on_at v6 (HDT.out.later HF6.out.below).here
      rw [HT.out.on] at con
      have cof := on_at v6 HF6.out.here
      rw [hoff] at cof
      have cx1 := Lib.hid con
      have cx2 := Lib.hid cof
      clear con cof hoff
      go_wp2_with (first
        | (go_at_call 12; with_reducible refine cx1.out.mono ?_; rintro e w' ⟨rfl, rfl⟩)
        | (go_at_call 12; with_reducible refine cx2.out.mono ?_; rintro e w' ⟨rfl, rfl⟩))
      refine (known4 v6).mono ?_
      rintro e v7 ⟨rfl, hb7⟩
      have HZ := Lib.hid (chain2 (chain2 HDT.out.below HF6.out.below) hb7)
      clear hb7
      go_wp2
      go_ret
      exact ⟨rfl, HZ.out⟩

set_option maxHeartbeats 1000000 in
set_option maxRecDepth 100000 in
theorem copies_none (cap kn cn : Nat) (pa : Option Addr) (hkn : kn < 256) (hcn : cn < 256) (w : World) :
    Calls Try.prog 8 #[.slice pa 0 cap, .int .u8 (kn : Int), .int .u8 (cn : Int)] w fun e w' => e = .returned (.bool true) ∧ Below w.heap.size w w' := by
  have HKN := Lib.hid hkn
  have HCN := Lib.hid hcn
  clear hkn hcn
  go_enter Try.func8, Try.ntmps8
  go_wp2_with fail
  refine (new_dk 16 (by decide) (by decide) w).mono ?_
  rintro e w1 ⟨rfl, hb1⟩
  have HD1 := Lib.hid hb1
  clear hb1
  go_wp2
  go_loopw [9] (fun vi wr => vi = .int .i64 0 ∧ Hid (Dk w wr (fun k => w.heap.size ≤ k) (w.heap.size + 2) (new 16) ∧ CoSt (new 16) 0)) (fun _ _ => 0)
  case atStart => exact ⟨rfl, HD1.out, coSt_new⟩
  case round =>
    clear HD1
    obtain ⟨rfl, hI⟩ := hrel
    generalize new 16 = T at hI
    have hi : 0 ≤ 30 := by decide
    have HT := Lib.hid hI.out.2
    have HDT := Lib.hid hI.out.1
    clear hI
    have hTc := HT.out.c
    have hTo := HT.out.ops
    have hTL := HT.out.L
    go_wp2_with fail
    refine (dk_copy HDT.out (by omega)).mono ?_
    rintro e v1 ⟨rfl, hd1⟩
    have HF1 := Lib.hid hd1
    have HDV := Lib.hid (HDT.out.later hd1.below)
    clear hd1
    have cw1 := waits_at v1 HDV.out.here
    have co1 := ops_at v1 HDV.out.here
    have cw2 := waits_at v1 HF1.out.here
    have co2 := ops_at v1 HF1.out.here
    generalize hz : (T.W.length : Int) = z at cw1 cw2
    generalize hy : (T.ops : Int) = y at co1 co2
    clear hz hy
    have cx1 := Lib.hid cw1
    have cx2 := Lib.hid cw2
    have cy1 := Lib.hid co1
    have cy2 := Lib.hid co2
    have hkn := HKN.out
    have hcn := HCN.out
    have z3 : (kn : Int) < 256 := by omega
    have z4 : (0 : Int) ≤ (kn : Int) := by omega
    obtain ⟨k, hk⟩ : ∃ k : Nat, (kn : Int) % 16 = (k : Int) := ⟨kn % 16, by simp⟩
    have hk16 : k < 16 := by omega
    have ec : (((UInt8.ofNat cn).toNat : Nat) : Int) = (cn : Int) := by rw [UInt8.toNat_ofNat']; omega
    have CF := fun W => full_any (UInt8.ofNat cn) W
    rw [ec] at CF
    have hsl := fullB_length (UInt8.ofNat cn)
    generalize fullB (UInt8.ofNat cn) = sb at CF hsl
    have HSL := Lib.hid hsl
    have cf := Lib.hid CF
    clear cw1 cw2 co1 co2 hkn hcn ec CF hsl
    go_wp2_with (first
      | (go_at_call 14; with_reducible refine cx1.out.mono ?_; rintro e w' ⟨rfl, rfl⟩)
      | (go_at_call 14; with_reducible refine cx2.out.mono ?_; rintro e w' ⟨rfl, rfl⟩)
      | (go_at_call 13; with_reducible refine cy1.out.mono ?_; rintro e w' ⟨rfl, rfl⟩)
      | (go_at_call 13; with_reducible refine cy2.out.mono ?_; rintro e w' ⟨rfl, rfl⟩))
    clear cx1 cx2 cy1 cy2
    refine (dk_read k v1 HDV.out HT.out.on (by omega) (by omega)).mono ?_
    rintro e v2 ⟨rfl, -, hb2⟩
    have hF2 := HF1.out.later hb2
    have HF2 := Lib.hid hF2
    clear HF1 HDV hb2 hF2
    have CR : ∀ W, Below wr.heap.size wr W → Calls Try.prog 20 #[.pointer (some ⟨w.heap.size + 2, 0, none⟩), .int .i64 (k : Int)] W fun e w' => e = .returned (.tuple #[.string (strOf (T.read k)), .int .i64 0]) ∧ Below W.heap.size W w' := fun W h => (dk_read k W (HDT.out.later h) HT.out.on (by omega) (by omega)).mono fun _ _ ⟨a, _, b⟩ => ⟨a, b⟩
    generalize strOf (T.read k) = X at CR ⊢
    have cr := Lib.hid CR
    clear CR
    go_wp2_with fail
    refine (cf.out v2).mono ?_
    rintro e v3 ⟨rfl, hb3⟩
    have HF3 := Lib.hid (HF2.out.later hb3)
    clear HF2 hb3
    go_wp2_with fail
    have CWR := dk_write k sb v3 HF3.out HT.out.on (by rw [hTL]; exact hk16) HSL.out (by omega) (by omega)
    refine CWR.mono ?_
    clear CWR
    rintro e v4 ⟨rfl, hd4, -⟩
    have HD4 := Lib.hid hd4
    have HT4 := Lib.hid (HT.out.write k sb)
    clear hd4 HF3
    generalize (T.write k sb).1 = T4 at HD4 HT4
    generalize errOf (T.write k sb).2 = er at HT4 ⊢
    have hT4c := HT4.out.1.c
    go_wp2_with fail
    have CL : Calls Try.prog 21 #[.pointer (some ⟨wr.heap.size, 0, none⟩), .int .u64 0] v4 fun e w' => e = .returned (.tuple #[]) ∧ Dk wr w' (fun k => wr.heap.size ≤ k) wr.heap.size (T4.fail 0) ∧ Only (fun k => wr.heap.size ≤ k) v4 w' := dk_fail 0 v4 HD4.out (by decide) (by omega)
    refine CL.mono ?_
    clear CL
    rintro e v5 ⟨rfl, hd5, -⟩
    have HF5 := Lib.hid hd5
    have hoff : (T4.fail 0).on = false := by unfold DS.fail; rw [HT4.out.1.on]; rfl
    clear hd5 HD4
    go_wp2_with fail
    refine (cr.out v5 HF5.out.below).mono ?_
    rintro e v6 ⟨rfl, hb6⟩
    have HF6 := Lib.hid (HF5.out.later hb6)
    clear HF5 hb6
    have con := on_at v6 (HDT.out.later HF6.out.below).here
    rw [HT.out.on] at con
    have cof := on_at v6 HF6.out.here
    rw [hoff] at cof
    have cx1 := Lib.hid con
    have cx2 := Lib.hid cof
    clear con cof hoff
    go_wp2_with (first
      | (go_at_call 12; with_reducible refine cx1.out.mono ?_; rintro e w' ⟨rfl, rfl⟩)
      | (go_at_call 12; with_reducible refine cx2.out.mono ?_; rintro e w' ⟨rfl, rfl⟩))
    refine (known4 v6).mono ?_
    rintro e v7 ⟨rfl, hb7⟩
    have HZ := Lib.hid (chain2 (chain2 HDT.out.below HF6.out.below) hb7)
    clear hb7
    go_wp2
    go_ret
    exact ⟨rfl, HZ.out⟩

/-- The same of the slice as it was read. -/
theorem copies_raw {H : Type} {enc : TypeId × Value → H} {w : World} {b0 : Nat} {v : Value} {d : DataW H} {p : List MemPlace}
    (hv : Value.okWide Try.prog w .any b0 22 v) (h : DataW.Trod enc Try.prog w 0 (fun _ => true) true 22 v d p) (k : Int) (hk : (Lit.int .u8 k).wf = true) (c : Int) (hc : (Lit.int .u8 c).wf = true) :
    Calls Try.prog 8 #[v, .int .u8 k, .int .u8 c] w fun e w' => e = .returned (.bool true) ∧ Below w.heap.size w w' := by
  have k1 := u8_nat hk
  have c1 := u8_nat hc
  obtain ⟨kn, rfl⟩ := Int.eq_ofNat_of_zero_le k1.1
  obtain ⟨cn, rfl⟩ := Int.eq_ofNat_of_zero_le c1.1
  rcases open_ops hv h with ⟨pa, cap, rfl⟩ | ⟨b, off, len, cap, rfl, _, hl, hb, hcs⟩
  · exact copies_none cap kn cn pa (by omega) (by omega) w
  · exact copies_any b off len cap kn cn (by omega) (by omega) w hl hb hcs

end Go.Proofs.Ytepipdikglabaaa.Dk
