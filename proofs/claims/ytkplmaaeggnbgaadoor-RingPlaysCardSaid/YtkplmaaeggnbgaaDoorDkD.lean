/- The walk of settle and losePower: their contracts. No condition but those that each states. -/
import Derived.Test.YtkplmaaeggnbgaaDoorDkC
namespace Go.Proofs.YtkplmaaeggnbgaaDoor.Dk
open Go.RowKit
attribute [local go_sem ↓] Go.wp_at_zero Go.wp_at_succ

theorem and_one (a : Nat) (ha : a < 2 ^ 64) : bits .and .u64 (a : Int) 1 = ((a % 2 : Nat) : Int) := by
  have h1 : (1 : Int) = ((1 : Nat) : Int) := rfl
  have ha' : a % 2 ^ IntKind.u64.bits = a := Nat.mod_eq_of_lt ha
  have hb' : 1 % 2 ^ IntKind.u64.bits = 1 := by decide
  rw [h1]
  simp only [bits, BitVec.ofInt_natCast, BitVec.toNat_and, BitVec.toNat_ofNat, ha', hb', Nat.and_one_is_mod]
  have h2 : a % 2 < 2 := Nat.mod_lt _ (by decide)
  rcases (show a % 2 = 0 ∨ a % 2 = 1 by omega) with e | e <;> rw [e] <;> rfl

theorem bit_test (m k : Nat) (hm : m < 2 ^ 64) : (bits .and .u64 ((m : Int) / 2 ^ (k % 64)) 1 == 1) = bit m k := by
  have e : (m : Int) / 2 ^ (k % 64) = ((m / 2 ^ (k % 64) : Nat) : Int) := by simp
  have hlt : m / 2 ^ (k % 64) < 2 ^ 64 := Nat.lt_of_le_of_lt (Nat.div_le_self _ _) hm
  rw [e, and_one _ hlt]
  unfold bit
  have h2 : m / 2 ^ (k % 64) % 2 < 2 := Nat.mod_lt _ (by decide)
  rcases (show m / 2 ^ (k % 64) % 2 = 0 ∨ m / 2 ^ (k % 64) % 2 = 1 by omega) with e | e <;> rw [e] <;> rfl

/-- A block that is written. -/
theorem dur_set {w : World} {gd : Nat} {L : List Bytes} {i : Nat} {s : Bytes} (hL : ∀ i, i < L.length → (bAt L i).length = 64) (h : w.rangeAt gd 0 (dcells L)) (hi : i < L.length) (hs : s.length = 64) (ht : w.there gd (i * 64) 64) :
    (w.setCells gd (i * 64) (bv s)).rangeAt gd 0 (dcells (L.set i s)) := by
  obtain ⟨A, B, e, hA⟩ := dcells_at hL hi
  rw [dcells_set hL s hi hs A B e hA]
  rw [e] at h
  have hbs : (bv s).length = 64 := by rw [bv_length, hs]
  have hbo : (bv (bAt L i)).length = 64 := by rw [bv_length, hL i hi]
  have h1 := rangeAt_left h
  have h2 := rangeAt_right (rangeAt_right h rfl) (n := 64) hbo.symm
  refine rangeAt_add (World.rangeAt_setCells_apart h1 gd (i * 64) (bv s) (.inr (.inl (by rw [hA]; omega)))) ?_
  rw [Nat.zero_add, hA]
  refine rangeAt_add (World.rangeAt_setCells_same _ _ _ _ (by rw [hbs]; exact ht)) ?_
  rw [hbs]
  rw [Nat.zero_add, hA] at h2
  exact World.rangeAt_setCells_apart h2 gd (i * 64) (bv s) (.inr (.inr (by rw [hbs]; omega)))

/-- Behind the first kd of those that wait; the map behind the first km. -/
structure SetW (w wr : World) (gd gm : Nat) (S : DS) (m kd km : Nat) : Prop where
  only : Only (fun b => b = gd ∨ b = gm) w wr
  durs : wr.rangeAt gd 0 (dcells (stl m S.W S.L kd))
  room : wr.there gd 0 (S.L.length * 64)
  map : ∃ D, wr.ownsMap Tryd.prog 3 (plainElem Tryd.prog 3) gm S.c D ∧ DelOk D S.W km

theorem SetW.below {w wr w' : World} {gd gm : Nat} {S : DS} {m kd km : Nat} (h : SetW w wr gd gm S m kd km) (k : Below wr.heap.size wr w') (h1 : gd < wr.heap.size) (h2 : gm < wr.heap.size) : SetW w w' gd gm S m kd km := by
  obtain ⟨D, hD, hd⟩ := h.map
  exact ⟨h.only.trans (Only.of_below k) (fun _ _ h => h), rangeAt_block h.durs (k.block gd h1), there_block h.room (k.block gd h1), D, ownsMap_block hD (k.block gm h2), hd⟩

theorem SetW.write {w wr : World} {gd gm : Nat} {S : DS} {m k km : Nat} (h : SetW w wr gd gm S m k km) (hok : S.Ok) (hk : k < S.W.length) (hne : gd ≠ gm) (hb : bit m k = true) : SetW w (wr.setCells gd ((wAt S.W k).1 * 64) (bv (wAt S.W k).2)) gd gm S m (k + 1) km := by
  obtain ⟨D, hD, hd⟩ := h.map
  obtain ⟨h1, h2⟩ := hok.wat k hk
  refine ⟨Only.setCells gd (.inl rfl) _ _ _ h.only, ?_, World.there_setCells h.room _ _ _, D, ownsMap_block hD (block_setCells gd gm (Ne.symm hne) _ _ _), hd⟩
  have hl := stl_length m S.W S.L k
  have e : stl m S.W S.L (k + 1) = (stl m S.W S.L k).set (wAt S.W k).1 (wAt S.W k).2 := by
    show (if bit m k then _ else _) = _
    rw [if_pos hb]
  rw [e]
  exact dur_set (fun i hi => stl_blk hok.blk hok.wat k (Nat.le_of_lt hk) i (by rw [hl] at hi; exact hi)) h.durs (by rw [hl]; exact h1) h2 (fun j hj => by
    have := h.room ((wAt S.W k).1 * 64 + j) (by omega)
    rwa [Nat.zero_add] at this)

theorem SetW.skip {w wr : World} {gd gm : Nat} {S : DS} {m k km : Nat} (h : SetW w wr gd gm S m k km) (hb : bit m k = false) : SetW w wr gd gm S m (k + 1) km := by
  refine ⟨h.only, ?_, h.room, h.map⟩
  have e : stl m S.W S.L (k + 1) = stl m S.W S.L k := by
    show (if bit m k then _ else _) = _
    rw [if_neg (by rw [hb]; decide)]
  rw [e]; exact h.durs

theorem SetW.struck {w wr w' : World} {gd gm : Nat} {S : DS} {m kd k : Nat} {D : DataW Unit} (h : SetW w wr gd gm S m kd k) (hd : DelOk D S.W k) (hm : w'.ownsMap Tryd.prog 3 (plainElem Tryd.prog 3) gm S.c (D.del (key (wAt S.W k).1)))
    (ht : wr.grownBy w' (some gm)) (hne : gd ≠ gm) (hlt : gd < wr.heap.size) : SetW w w' gd gm S m kd (k + 1) := by
  have hb : w'.heap[gd]? = wr.heap[gd]? := ht.block gd hlt (fun e => hne (by cases e; rfl))
  exact ⟨h.only.trans (Only.of_grown (F := fun b => b = gd ∨ b = gm) ht (fun k e => by cases e; exact .inr rfl)) (fun _ _ h => h), rangeAt_block h.durs hb, there_block h.room hb, _, hm, hd.step⟩

/-- The last step of a settling. -/
theorem settle_done {w wr : World} {g gd cd gm : Nat} {vp : Value} {S : DS} {D : DataW Unit} {m : Nat} (hD : DiskIn w g gd cd gm vp S D) (h : SetW w wr gd gm S m S.W.length S.W.length) :
    DiskAt (wr.setCell ⟨g, 3, none⟩ (.slice none 0 0)) (fun k => k = g ∨ k = gd ∨ k = gm) g (S.settled m) ∧ Only (fun k => k = g ∨ k = gd ∨ k = gm) w (wr.setCell ⟨g, 3, none⟩ (.slice none 0 0)) := by
  obtain ⟨l1, l2, l3⟩ := hD.lt
  obtain ⟨n1, n2, n3⟩ := hD.ne
  have hs := h.only.size
  obtain ⟨D1, hm, hd⟩ := h.map
  have bg : wr.heap[g]? = w.heap[g]? := h.only.block g l1 (fun e => e.elim n1 n2)
  have hcg : ∀ o, wr.cell? ⟨g, o, none⟩ = w.cell? ⟨g, o, none⟩ := fun o => World.cell?_of_block (a := ⟨g, o, none⟩) bg
  have hl : (S.settled m).L.length = S.L.length := stl_length _ _ _ _
  have hbs : ∀ k, k ≠ g → (wr.setCell ⟨g, 3, none⟩ (.slice none 0 0)).heap[k]? = wr.heap[k]? := fun k hk => Below.heap_setCell _ _ _ _ hk
  have hco : ∀ o, o ≠ 3 → (wr.setCell ⟨g, 3, none⟩ (.slice none 0 0)).cell? ⟨g, o, none⟩ = w.cell? ⟨g, o, none⟩ := fun o ho => by
    rw [World.cell?_setCell_other _ _ _ _ (by intro e; simp at e; first | done | exact ho e.symm)]; exact hcg o
  refine ⟨⟨gd, cd, gm, .slice none 0 0, D1, ⟨there_setCell (there_block hD.room bg) _ _, (hco 0 (by decide)).trans hD.self, (hco 1 (by decide)).trans hD.on, ?_, ?_, (hco 4 (by decide)).trans hD.last, (hco 5 (by decide)).trans hD.ops, fun j v hv => ?_, ?_, ?_, ?_, World.ownsRow_nil _ _ _ _, ?_, hd.done, hD.ok.settled m, ?_, hD.ne, fun b hb => by cases hb⟩, .inl rfl, .inr (.inl rfl), .inr (.inr rfl), fun b hb => by cases hb⟩, ?_⟩
  · rw [hl]; exact (hco 2 (by decide)).trans hD.dur
  · exact World.cell?_setCell_same _ _ _ ((hcg 3).trans hD.pend)
  · rw [hco _ (by omega)]; exact hD.plan j v hv
  · exact rangeAt_block h.durs (hbs _ (Ne.symm n1))
  · rw [hl]; exact there_block h.room (hbs _ (Ne.symm n1))
  · rw [hl]; exact hD.cap
  · exact ownsMap_block hm (hbs _ (Ne.symm n2))
  · simp; omega
  · exact Only.setCell (h.only.mono (fun k e => .inr e)) ⟨g, 3, none⟩ (.inl rfl) _

set_option maxHeartbeats 2000000 in
set_option maxRecDepth 100000 in
theorem settle_pos (g gd cd gm gp cp : Nat) (S : DS) (D : DataW Unit) (m : Nat) (w : World) (hD : DiskIn w g gd cd gm (.slice (some ⟨gp, 0, none⟩) S.W.length cp) S D) (hm : m < 2 ^ 64) (hc : S.c ≤ 2 ^ 40) :
    Calls Tryd.prog 61 #[.pointer (some ⟨g, 0, none⟩), .int .u64 (m : Int)] w fun e w' => e = .returned (.tuple #[]) ∧ DiskAt w' (fun k => k = g ∨ k = gd ∨ k = gm) g (S.settled m) ∧ Only (fun k => k = g ∨ k = gd ∨ k = gm) w w' := by
  have HD := Lib.hid hD
  have hc3 : w.cell? ⟨g, 3, none⟩ = some (.slice (some ⟨gp, 0, none⟩) S.W.length cp) := hD.pend
  have hfew := hD.ok.few
  have HW0 : Hid (SetW w w gd gm S m 0 0) := Lib.hid ⟨Only.refl _ _, hD.durs, hD.room2, D, hD.map, hD.mapOk.del⟩
  have hz := zero_write
  have HN := Lib.hid (hD.nep gp rfl)
  clear hD
  go_enter Tryd.func61, Tryd.ntmps61
  go_wp2
  clear hc3
  go_loopw [11] (fun vi wr => ∃ k : Nat, k ≤ S.W.length ∧ vi = .int .i64 k ∧ Hid (SetW w wr gd gm S m k k)) (fun vi _ => S.W.length - (intOf vi).toNat)
  case atStart => exact ⟨0, Nat.zero_le _, rfl, HW0⟩
  case round =>
    clear HW0
    obtain ⟨k, hk, rfl, hW⟩ := hrel
    by_cases hlt : k < S.W.length
    · obtain ⟨A, B, hsp, hA⟩ := wcells_at (fun j hj => (HD.out.ok.wat j hj).2) hlt
      obtain ⟨hat, hbl⟩ := HD.out.ok.wat k hlt
      have hwl : (wcell (wAt S.W k)).length = 65 := by rw [wcell, List.length_cons, bv_length, hbl]
      have hR : wr.rangeAt gp (k * 65) (wcell (wAt S.W k)) := by
        have h1 : w.rangeAt gp 0 (wcells S.W) := ownsRow_range HD.out.row
        rw [hsp] at h1
        have h2 := rangeAt_left (rangeAt_right h1 hA.symm)
        rw [Nat.zero_add] at h2
        exact rangeAt_block h2 (hW.out.only.block gp HN.out.1 (fun e => e.elim HN.out.2.2.1 HN.out.2.2.2))
      have HR := Lib.hid hR
      have HI : Hid ((Tryd.prog.info? 136).map (·.size) = some (wcell (wAt S.W k)).length) := Lib.hid (by rw [hwl]; exact info_w)
      have HIA : Hid ((Tryd.prog.info? 136).map (·.size) = some (wcell (wAt S.W k)).toArray.size) := Lib.hid (by rw [List.size_toArray, hwl]; exact info_w)
      have HONE : Hid ((wcell (wAt S.W k)).toArray.all (·.oneCell') = true) := Lib.hid (all_oneCell_toArray (wcell_one _))
      have HTH : Hid ((wr.alloc (.cells (Value.int .i64 0 :: bv zeroB).toArray 136)).there wr.heap.size 0 (wcell (wAt S.W k)).toArray.size) := Lib.hid (by
        have h := there_new wr (Value.int .i64 0 :: bv zeroB).toArray 136
        rw [show (wcell (wAt S.W k)).toArray.size = 65 by rw [List.size_toArray, hwl]]
        rw [show ((Value.int .i64 0 :: bv zeroB).toArray.size) = 65 from rfl] at h
        exact h)
      have HWL := Lib.hid hwl
      have HAT := Lib.hid hat
      clear hR hsp hA hwl hat hbl
      have z0 : (0 : Int) ≤ (k : Int) := by omega
      have z1 : (k : Int) < (S.W.length : Int) := by omega
      have HBIT := Lib.hid (bit_test m k hm)
      generalize bv zeroB = ZB at hz HTH
      by_cases hb : bit m k = true
      · have tb : (bits .and .u64 ((m : Int) / 2 ^ (k % 64)) 1 == 1) = true := HBIT.out.trans hb
        have HB := Lib.hid hb
        clear hb
        go_wp2_with (first
          | (refine wpList_load_mid rfl 136 _ rfl gp (k * 65) rfl (wcell (wAt S.W k)) _ HR.out Tryd.underlying136 rfl HI.out ?_)
          | (refine wpList_store_mid rfl 136 _ _ rfl wr.heap.size 0 (wcell (wAt S.W k)).toArray rfl rfl HTH.out HIA.out HONE.out ?_))
        generalize hW2 : World.setCells (World.alloc wr (Obj.cells _ _)) _ _ _ = W2
        have hB2 : Below wr.heap.size wr W2 := by rw [← hW2]; exact below_setCells (Below.refl _ _) _ (Nat.le_refl _) _ _ _ ((Below.refl _ _).alloc (Nat.le_refl _) _)
        have hS2 : W2.heap.size = wr.heap.size + 1 := by rw [← hW2, size_setCells]; simp
        have hR2 : W2.rangeAt wr.heap.size 0 (wcell (wAt S.W k)) := by rw [← hW2]; exact World.rangeAt_setCells_same _ _ _ _ (by have := HTH.out; rwa [List.size_toArray] at this)
        have hlt0 := HD.out.lt
        have hsz := hW.out.only.size
        have hSW : SetW w W2 gd gm S m k k := hW.out.below hB2 (by omega) (by omega)
        have HSW := Lib.hid hSW
        have ca : W2.drew.cell? ⟨wr.heap.size, 0, none⟩ = some (.int .i64 ((wAt S.W k).1 : Int)) := hR2 0 _ rfl
        have rb : W2.drew.rangeAt wr.heap.size 1 (bv (wAt S.W k).2) := rangeAt_right (xs := [Value.int .i64 ((wAt S.W k).1 : Int)]) (ys := bv (wAt S.W k).2) hR2 rfl
        have cd2 : W2.drew.cell? ⟨g, 2, none⟩ = some (.slice (some ⟨gd, 0, none⟩) S.L.length cd) :=
          (World.cell?_of_block (a := ⟨g, 2, none⟩) (hSW.only.block g hlt0.1 (fun e => e.elim HD.out.ne.1 HD.out.ne.2.1))).trans HD.out.dur
        have cd4 : W2.cell? ⟨g, 4, none⟩ = some (.map (some gm)) :=
          (World.cell?_of_block (a := ⟨g, 4, none⟩) (hSW.only.block g hlt0.1 (fun e => e.elim HD.out.ne.1 HD.out.ne.2.1))).trans HD.out.last
        have HC4 := Lib.hid cd4
        have HR2 := Lib.hid hR2
        have HS2 := Lib.hid hS2
        have hat := HAT.out
        have tr : W2.drew.there gd ((wAt S.W k).1 * 64) 64 := fun j hj => by
          have := hSW.room ((wAt S.W k).1 * 64 + j) (by omega)
          rwa [Nat.zero_add] at this
        have hbl : (bv (wAt S.W k).2).length = 64 := by rw [bv_length]; exact (HD.out.ok.wat k hlt).2
        have hb1 := bv_one (wAt S.W k).2
        have hi73 : (Tryd.prog.info? 134).map (·.size) = some (bv (wAt S.W k).2).length := by rw [hbl]; kernel_rfl
        have hu73 := Tryd.underlying134
        have y0 : (0 : Int) ≤ ((wAt S.W k).1 : Int) := by omega
        have y1 : ((wAt S.W k).1 : Int) < (S.L.length : Int) := by omega
        have nh1 : wr.heap.size ≠ gd := by omega
        have nh2 : g ≠ gd := HD.out.ne.1
        have HSW9 : Hid (SetW w (W2.drew.setCells gd ((wAt S.W k).1 * 64) (bv (wAt S.W k).2)) gd gm S m (k + 1) k) := Lib.hid (SetW.write (hSW.below (Below.refl _ W2).drew (by omega) (by omega)) HD.out.ok hlt HD.out.ne.2.2 HB.out)
        generalize (wAt S.W k).2 = sb at *
        generalize hsa : (wAt S.W k).1 = sa at *
        have HSA := Lib.hid hsa
        clear hsa
        have hk9 : ∀ b, b ≠ gd → ∀ o, (W2.drew.setCells gd (sa * 64) (bv sb)).cell? ⟨b, o, none⟩ = W2.drew.cell? ⟨b, o, none⟩ := fun b hb o => World.cell?_of_block (a := ⟨b, o, none⟩) (block_setCells gd b hb _ _ _)
        have hS9 := And.intro ((hk9 g nh2 2).trans cd2) (And.intro ((hk9 _ nh1 0).trans ca) (And.intro (rangeAt_block (w' := W2.drew.setCells gd (sa * 64) (bv sb)) rb (block_setCells gd _ nh1 _ _ _)) (World.there_setCells tr gd (sa * 64) (bv sb))))
        clear hW2 hB2 hS2 hR2 hSW cd4 tb hk9
        go_region_held3 (fun w' => w'.cell? ⟨g, 2, none⟩ = some (.slice (some ⟨gd, 0, none⟩) S.L.length cd) ∧ w'.cell? ⟨wr.heap.size, 0, none⟩ = some (.int .i64 (sa : Int)) ∧ w'.rangeAt wr.heap.size 1 (bv sb) ∧ w'.there gd (sa * 64) 64) (first | go_keep_ranges | exact hS9) (fail)
        generalize W2.drew.setCells gd (sa * 64) (bv sb) = V at *
        obtain ⟨_, vc0, _, _⟩ := hS9
        have HV0 := Lib.hid vc0
        clear vc0
        go_wp2
        obtain ⟨V2, hv2, hcell, -, hheap, hbel⟩ := drawn_world V
        have HSWV : Hid (SetW w V2 gd gm S m (k + 1) k) := Lib.hid (HSW9.out.below (hbel.out.mono (Nat.le_refl _)) (by have := HSW9.out.only.size; have := HD.out.lt; omega) (by have := HSW9.out.only.size; have := HD.out.lt; omega))
        have d0 := (hcell _).trans HV0.out
        have d4 : V2.cell? ⟨g, 4, none⟩ = some (.map (some gm)) := (World.cell?_of_block (a := ⟨g, 4, none⟩) (HSWV.out.only.block g HD.out.lt.1 (fun e => e.elim HD.out.ne.1 HD.out.ne.2.1))).trans HD.out.last
        have HKEY := Lib.hid (key_of sa (by have := HAT.out; have := HD.out.ok.hi; omega))
        clear hcell hheap hbel
        obtain ⟨D1, hown1, hdel1⟩ := HSWV.out.map
        have HOWN1 := Lib.hid hown1
        have HDEL1 := Lib.hid hdel1
        clear hown1 hdel1
        refine region_still_tail 6 (by kernel_rfl) (by kernel_rfl) V2 hv2.out ?_
        simp only [List.take_succ_cons, List.take_zero, List.drop_succ_cons, List.drop_zero]
        repeat still_step
        refine wpStill_nil ?_
        clear d0 d4
        go_wp2_with (at_delete; refine wpList_delete_own _ rfl _ _ 98 3 rfl 3 law_int Tryd.underlying98 _ gm S.c D1 rfl HOWN1.out _ _ rfl HKEY.out ?_; intro W9 hown9 hturn9)
        have HFIN : Hid (SetW w W9 gd gm S m (k + 1) (k + 1)) := Lib.hid (HSWV.out.struck HDEL1.out (by rw [HSA.out]; exact hown9) hturn9.grown HD.out.ne.2.2 (by have := HSWV.out.only.size; have := HD.out.lt; omega))
        clear hown9 hturn9
        go_roundw
        case rel => exact ⟨k + 1, by omega, by go_num, HFIN⟩
        case measure => simp [intOf]; omega
      · have hbf : bit m k = false := by simpa using hb
        have tb : (bits .and .u64 ((m : Int) / 2 ^ (k % 64)) 1 == 1) = false := HBIT.out.trans hbf
        have HB := Lib.hid hbf
        clear hb hbf
        go_wp2_with (first
          | (refine wpList_load_mid rfl 136 _ rfl gp (k * 65) rfl (wcell (wAt S.W k)) _ HR.out Tryd.underlying136 rfl HI.out ?_)
          | (refine wpList_store_mid rfl 136 _ _ rfl wr.heap.size 0 (wcell (wAt S.W k)).toArray rfl rfl HTH.out HIA.out HONE.out ?_))
        generalize hW2 : World.setCells (World.alloc wr (Obj.cells _ _)) _ _ _ = V
        have hB2 : Below wr.heap.size wr V := by rw [← hW2]; exact below_setCells (Below.refl _ _) _ (Nat.le_refl _) _ _ _ ((Below.refl _ _).alloc (Nat.le_refl _) _)
        have hR2 : V.rangeAt wr.heap.size 0 (wcell (wAt S.W k)) := by rw [← hW2]; exact World.rangeAt_setCells_same _ _ _ _ (by have := HTH.out; rwa [List.size_toArray] at this)
        have hlt0 := HD.out.lt
        have hsz := hW.out.only.size
        have hSW : SetW w V gd gm S m k k := hW.out.below hB2 (by omega) (by omega)
        have HSW9 := Lib.hid (hSW.skip HB.out)
        have HV0 : Hid (V.cell? ⟨wr.heap.size, 0, none⟩ = some (.int .i64 ((wAt S.W k).1 : Int))) := Lib.hid (hR2 0 _ rfl)
        clear hW2 hB2 hR2 hSW tb
        generalize hsa : (wAt S.W k).1 = sa at *
        have HSA := Lib.hid hsa
        clear hsa
        go_wp2
        obtain ⟨V2, hv2, hcell, -, hheap, hbel⟩ := drawn_world V
        have HSWV : Hid (SetW w V2 gd gm S m (k + 1) k) := Lib.hid (HSW9.out.below (hbel.out.mono (Nat.le_refl _)) (by have := HSW9.out.only.size; have := HD.out.lt; omega) (by have := HSW9.out.only.size; have := HD.out.lt; omega))
        have d0 := (hcell _).trans HV0.out
        have d4 : V2.cell? ⟨g, 4, none⟩ = some (.map (some gm)) := (World.cell?_of_block (a := ⟨g, 4, none⟩) (HSWV.out.only.block g HD.out.lt.1 (fun e => e.elim HD.out.ne.1 HD.out.ne.2.1))).trans HD.out.last
        have HKEY := Lib.hid (key_of sa (by have := HAT.out; have := HD.out.ok.hi; omega))
        clear hcell hheap hbel
        obtain ⟨D1, hown1, hdel1⟩ := HSWV.out.map
        have HOWN1 := Lib.hid hown1
        have HDEL1 := Lib.hid hdel1
        clear hown1 hdel1
        refine region_still_tail 6 (by kernel_rfl) (by kernel_rfl) V2 hv2.out ?_
        simp only [List.take_succ_cons, List.take_zero, List.drop_succ_cons, List.drop_zero]
        repeat still_step
        refine wpStill_nil ?_
        clear d0 d4
        go_wp2_with (at_delete; refine wpList_delete_own _ rfl _ _ 98 3 rfl 3 law_int Tryd.underlying98 _ gm S.c D1 rfl HOWN1.out _ _ rfl HKEY.out ?_; intro W9 hown9 hturn9)
        have HFIN : Hid (SetW w W9 gd gm S m (k + 1) (k + 1)) := Lib.hid (HSWV.out.struck HDEL1.out (by rw [HSA.out]; exact hown9) hturn9.grown HD.out.ne.2.2 (by have := HSWV.out.only.size; have := HD.out.lt; omega))
        clear hown9 hturn9
        go_roundw
        case rel => exact ⟨k + 1, by omega, by go_num, HFIN⟩
        case measure => simp [intOf]; omega
    · obtain rfl : k = S.W.length := by omega
      have hlt0 := HD.out.lt
      have hg := hW.out.only.block g HD.out.lt.1 (fun e => e.elim HD.out.ne.1 HD.out.ne.2.1)
      have c3 : wr.cell? ⟨g, 3, none⟩ = some (.slice (some ⟨gp, 0, none⟩) S.W.length cp) := (World.cell?_of_block (a := ⟨g, 3, none⟩) hg).trans HD.out.pend
      have f3 : wr.frozen? ⟨g, 3, none⟩ = false := (World.frozen?_of_block (a := ⟨g, 3, none⟩) hg).trans (by have := (HD.out.room 3 (by decide)).2; rwa [Nat.zero_add] at this)
      have HFIN := Lib.hid (settle_done HD.out hW.out)
      clear hg hz hlt0
      go_wp2
      refine bodyPost_end (results_none rfl _ _ _) rfl ⟨rfl, HFIN.out⟩

set_option maxHeartbeats 1000000 in
set_option maxRecDepth 100000 in
theorem settle_none (g gd cd gm cp : Nat) (pa : Option Addr) (S : DS) (D : DataW Unit) (m : Nat) (w : World) (h0 : S.W.length = 0) (hD : DiskIn w g gd cd gm (.slice pa 0 cp) S D) :
    Calls Tryd.prog 61 #[.pointer (some ⟨g, 0, none⟩), .int .u64 (m : Int)] w fun e w' => e = .returned (.tuple #[]) ∧ DiskAt w' (fun k => k = g ∨ k = gd ∨ k = gm) g (S.settled m) ∧ Only (fun k => k = g ∨ k = gd ∨ k = gm) w w' := by
  have hc3 : w.cell? ⟨g, 3, none⟩ = some (.slice pa 0 cp) := hD.pend
  have hf3 : w.frozen? ⟨g, 3, none⟩ = false := by have := (hD.room 3 (by decide)).2; rwa [Nat.zero_add] at this
  have hW : SetW w w gd gm S m S.W.length S.W.length := by rw [h0]; exact ⟨Only.refl _ _, hD.durs, hD.room2, D, hD.map, hD.mapOk.del⟩
  have HFIN := Lib.hid (settle_done hD hW)
  clear hD hW h0
  go_enter Tryd.func61, Tryd.ntmps61
  go_wp2
  go_loop [11] (fun vi => vi = .int .i64 0) (fun _ => 0)
  case atStart => rfl
  case round =>
    obtain rfl := hrel
    go_wp2
    refine bodyPost_end (results_none rfl _ _ _) rfl ⟨rfl, HFIN.out⟩

theorem settle_any (F : Nat → Prop) (g : Nat) (S : DS) (m : Nat) (w : World) (hD : DiskAt w F g S) (hm : m < 2 ^ 64) (hc : S.c ≤ 2 ^ 40) :
    Calls Tryd.prog 61 #[.pointer (some ⟨g, 0, none⟩), .int .u64 (m : Int)] w fun e w' => e = .returned (.tuple #[]) ∧ DiskAt w' F g (S.settled m) ∧ Only F w w' := by
  obtain ⟨gd, cd, gm, vp, D, hD, h1, h2, h3, h4⟩ := hD
  have hF : ∀ k, (k = g ∨ k = gd ∨ k = gm) → F k := fun k h => by rcases h with rfl | rfl | rfl <;> assumption
  rcases Nat.eq_zero_or_pos S.W.length with h0 | h0
  · obtain ⟨pa, pc, hvp⟩ : ∃ pa pc, vp = .slice pa 0 pc := by
      rcases hD.row.2 with ⟨h, _⟩ | ⟨g0, c0, cur, h, _⟩
      · exact ⟨none, 0, h⟩
      · exact ⟨_, _, by rw [h0] at h; exact h⟩
    subst hvp
    exact (settle_none g gd cd gm pc pa S D m w h0 hD).mono fun _ _ ⟨a, b, c⟩ => ⟨a, b.mono hF, c.mono hF⟩
  · obtain ⟨gp, cp, hvp, _, _⟩ := hD.row.form h0
    subst hvp
    exact (settle_pos g gd cd gm gp cp S D m w hD hm hc).mono fun _ _ ⟨a, b, c⟩ => ⟨a, b.mono hF, c.mono hF⟩

theorem DiskIn.setOn {w : World} {g gd cd gm : Nat} {vp : Value} {S : DS} {D : DataW Unit} (hD : DiskIn w g gd cd gm vp S D) (b : Bool) : DiskIn (w.setCell ⟨g, 1, none⟩ (.bool b)) g gd cd gm vp { S with on := b } D := by
  have hbs : ∀ k, k ≠ g → (w.setCell ⟨g, 1, none⟩ (.bool b)).heap[k]? = w.heap[k]? := fun k hk => Below.heap_setCell _ _ _ _ hk
  have hco : ∀ o, o ≠ 1 → (w.setCell ⟨g, 1, none⟩ (.bool b)).cell? ⟨g, o, none⟩ = w.cell? ⟨g, o, none⟩ := fun o ho => by
    rw [World.cell?_setCell_other _ _ _ _ (by intro e; simp at e; first | done | exact ho e.symm)]
  obtain ⟨n1, n2, n3⟩ := hD.ne
  obtain ⟨l1, l2, l3⟩ := hD.lt
  exact ⟨there_setCell hD.room _ _, (hco 0 (by decide)).trans hD.self, World.cell?_setCell_same _ _ _ hD.on, (hco 2 (by decide)).trans hD.dur, (hco 3 (by decide)).trans hD.pend, (hco 4 (by decide)).trans hD.last, (hco 5 (by decide)).trans hD.ops, fun j v hv => (hco _ (by omega)).trans (hD.plan j v hv),
    rangeAt_block hD.durs (hbs _ (Ne.symm n1)), there_block hD.room2 (hbs _ (Ne.symm n1)), hD.cap, ownsRow_block hD.row (fun c hc => hbs c (hD.nep c hc).2.1), ownsMap_block hD.map (hbs _ (Ne.symm n2)), hD.mapOk, ⟨hD.ok.lo, hD.ok.hi, hD.ok.blk, hD.ok.wat, hD.ok.few, hD.ok.next⟩, by simp; omega, hD.ne, fun c hc => by simpa using hD.nep c hc⟩

theorem DiskAt.setOn {w : World} {F : Nat → Prop} {g : Nat} {S : DS} (h : DiskAt w F g S) (b : Bool) : DiskAt (w.setCell ⟨g, 1, none⟩ (.bool b)) F g { S with on := b } ∧ Only F w (w.setCell ⟨g, 1, none⟩ (.bool b)) := by
  obtain ⟨gd, cd, gm, vp, D, hD, h1, h2, h3, h4⟩ := h
  exact ⟨⟨gd, cd, gm, vp, D, hD.setOn b, h1, h2, h3, h4⟩, (Only.refl F w).setCell ⟨g, 1, none⟩ h1 _⟩

theorem DiskAt.free {w : World} {F : Nat → Prop} {g : Nat} {S : DS} (h : DiskAt w F g S) (o : Nat) (ho : o < 9) : w.frozen? ⟨g, o, none⟩ = false := by
  obtain ⟨gd, cd, gm, vp, D, hD, _⟩ := h
  have := (hD.room o ho).2
  rwa [Nat.zero_add] at this

set_option maxHeartbeats 1000000 in
set_option maxRecDepth 100000 in
theorem lose_any (F : Nat → Prop) (g : Nat) (S : DS) (m : Nat) (w : World) (hD : DiskAt w F g S) (hm : m < 2 ^ 64) (hc : S.c ≤ 2 ^ 40) :
    Calls Tryd.prog 65 #[.pointer (some ⟨g, 0, none⟩), .int .u64 (m : Int)] w fun e w' => e = .returned (.tuple #[]) ∧ DiskAt w' F g (S.lose m) ∧ Only F w w' := by
  have HD := Lib.hid hD
  clear hD
  go_enter Tryd.func65, Tryd.ntmps65
  go_wp2_with fail
  refine (settle_any F g S m w HD.out hm hc).mono ?_
  rintro e w1 ⟨rfl, h1, o1⟩
  have c1 := h1.on
  have f1 := h1.free 1 (by decide)
  obtain ⟨h2, o2⟩ := h1.setOn false
  have H2 := Lib.hid h2
  have O2 := Lib.hid (o1.trans o2 (fun _ _ h => h))
  clear h1 o1 h2 o2
  go_wp2
  refine bodyPost_end (results_none rfl _ _ _) rfl ⟨rfl, H2.out, O2.out⟩

end Go.Proofs.YtkplmaaeggnbgaaDoor.Dk
