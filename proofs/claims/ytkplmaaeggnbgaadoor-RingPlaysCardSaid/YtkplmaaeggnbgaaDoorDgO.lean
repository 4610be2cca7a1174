/- The walk of the document's Of: its contract. No condition but those that it states. -/
import Derived.Test.YtkplmaaeggnbgaaDoorDgV
namespace Go.Proofs.YtkplmaaeggnbgaaDoor
open Go.RowKit
attribute [local go_sem ↓] Go.wp_at_zero Go.wp_at_succ
attribute [local irreducible] sched

/-- What lies still while the document's Of runs: the constants, and the message. -/
structure Rf (B : Nat) (w wr : World) (l : List UInt8) (gk gb : Nat) : Prop where
  kb : gk < B
  bb : gb < B
  le : B ≤ wr.heap.size
  kc : ∀ i, i < 64 → wr.cell? ⟨gk, i, none⟩ = some (.int .u32 (consts.getD i 0))
  bc : ∀ i, i < l.length → wr.cell? ⟨gb, i, none⟩ = some (.int .u8 (byteAt l i))
  below : Below w.heap.size w wr

theorem Rf.later {B : Nat} {w wr w' : World} {l : List UInt8} {gk gb : Nat} (h : Rf B w wr l gk gb) (k : Below B wr w') (hB : w.heap.size ≤ B) : Rf B w w' l gk gb :=
  ⟨h.kb, h.bb, Nat.le_trans h.le k.size, fun i hi => (k.cell (p := ⟨gk, i, none⟩) h.kb).trans (h.kc i hi), fun i hi => (k.cell (p := ⟨gb, i, none⟩) h.bb).trans (h.bc i hi), h.below.trans (k.mono hB)⟩

/-- The words that were added so far. -/
def adds (s v : R8) (i : Nat) : List Int := (List.range i).map fun k => (s.at k + v.at k) % 4294967296

theorem adds_length (s v : R8) (i : Nat) : (adds s v i).length = i := by simp [adds]
theorem adds_succ (s v : R8) (i : Nat) : wv (adds s v (i + 1)) = wv (adds s v i) ++ [.int .u32 ((s.at i + v.at i) % 4294967296)] := by simp [adds, List.range_succ, wv]
theorem adds_at (s v : R8) (i : Nat) (hi : i < 8) : (adds s v 8).getD i 0 = (add8 s v).at i := by
  rcases (show i = 0 ∨ i = 1 ∨ i = 2 ∨ i = 3 ∨ i = 4 ∨ i = 5 ∨ i = 6 ∨ i = 7 by omega) with rfl | rfl | rfl | rfl | rfl | rfl | rfl | rfl <;> rfl

theorem byteAt_block (l : List UInt8) (n i : Nat) (hi : i < 64) (_h : 64 * n + 64 ≤ l.length) : byteAt (blockOf l n) i = byteAt l (64 * n + i) := by
  unfold byteAt blockOf
  rw [List.getD_eq_getElem?_getD, List.getD_eq_getElem?_getD, List.getElem?_take_of_lt hi, List.getElem?_drop]

theorem out8_four (s : R8) (k : Nat) (hk : k < 8) (hs : s.Ok) : bv ((out8 s).take (4 * (k + 1))) = (((bv ((out8 s).take (4 * k)) ++ [.int .u8 (s.at k / 16777216)]) ++ [.int .u8 (s.at k / 65536 % 256)]) ++ [.int .u8 (s.at k / 256 % 256)]) ++ [.int .u8 (s.at k % 256)] := by
  rw [out8_take s k hk, be4_bytes _ (hs.at k hk).1 (hs.at k hk).2]
  simp

set_option maxHeartbeats 4000000 in
set_option maxRecDepth 100000 in
theorem rof_any (s : ByteArray) (w : World) (hs : s.size ≤ 3000) :
    Calls Tryd.prog 85 #[.string s] w fun e w' => e = .returned (.string ⟨(sha s.data.toList).toArray⟩) ∧ Below w.heap.size w w' := by
  obtain ⟨i0, hi, hz0, hz1, hz2⟩ := info_parts Tryd.info23
  obtain ⟨i5, hi5, hy0, hy1, hy2⟩ := info_parts Tryd.info5
  obtain ⟨l, hl⟩ : ∃ l, l = pad s.data.toList := ⟨_, rfl⟩
  obtain ⟨N, hN⟩ : ∃ N, N = l.length / 64 := ⟨_, rfl⟩
  have hlN : l.length = 64 * N := by rw [hN, hl]; exact pad_blocks _
  have hlb : l.length ≤ 3100 := by rw [hl, pad_length]; unfold zerosOf; simp; omega
  have hsha : sha s.data.toList = out8 (absorb l N) := by rw [hN, hl]; rfl
  rw [hsha]
  obtain ⟨F, hF⟩ : ∃ F, F = absorb l N := ⟨_, rfl⟩
  rw [← hF]
  have HF0 := Lib.hid hF
  have HPAD := fun W => rpadded_any s W hs
  rw [← hl] at HPAD
  have HP := Lib.hid HPAD
  clear hsha hl hN hF HPAD
  go_enter Tryd.func85, Tryd.ntmps85
  go_wp2_with fail
  generalize hW1 : World.alloc w (Obj.cells _ _) = W1
  have h8 : Hid (Has8 W1 w.heap.size init8) := Lib.hid (by
    rw [← hW1]; intro i hi
    rcases (show i = 0 ∨ i = 1 ∨ i = 2 ∨ i = 3 ∨ i = 4 ∨ i = 5 ∨ i = 6 ∨ i = 7 by omega) with rfl | rfl | rfl | rfl | rfl | rfl | rfl | rfl <;> simp [R8.at, init8])
  have hb1 : Hid (Below w.heap.size w W1) := Lib.hid (by rw [← hW1]; exact (Below.refl _ _).alloc (Nat.le_refl _) _)
  have hlt1 : w.heap.size < W1.heap.size := by rw [← hW1]; simp
  clear hW1
  refine (rconsts_any W1).mono ?_
  rintro e W2 ⟨gk, capk, rfl, hgk1, hgk2, hkc, hb2⟩
  have HKC := Lib.hid hkc
  have HB2 := Lib.hid hb2
  have hs2 := hb2.size
  clear hkc hb2
  go_wp2_with fail
  refine (HP.out W2).mono ?_
  rintro e W3 ⟨gb, capb, rfl, hgb1, hgb2, hbc, hb3, hcapb⟩
  have hs3 := hb3.size
  have HR : Hid (Rf W3.heap.size w W3 l gk gb) := Lib.hid ⟨by omega, hgb2, Nat.le_refl _, fun i hi => (hb3.cell (p := ⟨gk, i, none⟩) hgk2).trans (HKC.out i hi), hbc, chain2 (chain2 hb1.out HB2.out) hb3⟩
  have H8 : Hid (Has8 W3 w.heap.size (absorb l 0)) := Lib.hid ((h8.out.later HB2.out (by omega)).later hb3 (by omega))
  have hwB : w.heap.size ≤ W3.heap.size := by omega
  have hwlt : w.heap.size < W3.heap.size := by omega
  clear hbc hb3 HKC HB2 h8 hb1 HP
  obtain ⟨n, hn⟩ : ∃ n, n = l.length := ⟨_, rfl⟩
  rw [← hn] at hlN hlb hcapb ⊢
  have HNL := Lib.hid hn
  have hn64 : n = 64 * N := hlN
  have HN64 := Lib.hid hn64
  clear hn hlN hn64
  go_wp2
  go_loopw [3, 6] (fun vh vi wr => ∃ i gh caph : Nat, i ≤ N ∧ vi = .int .i64 (64 * (i : Int)) ∧ vh = .slice (some ⟨gh, 0, none⟩) 8 caph ∧ gh < wr.heap.size ∧ Hid (Has8 wr gh (absorb l i)) ∧ Hid (Rf W3.heap.size w wr l gk gb)) (fun _ vi _ => (n - intOf vi).toNat)
  case atStart => exact ⟨0, w.heap.size, 8, Nat.zero_le _, rfl, rfl, hwlt, H8, HR⟩
  case round =>
    clear H8 HR
    obtain ⟨i, gh, caph, hiN, rfl, rfl, hgh, h8, hR⟩ := hrel
    have h64 := HN64.out
    by_cases hlt : i < N
    · have hi64 : 64 * (i : Int) + 64 ≤ (n : Int) := by omega
      have hi0 : (0 : Int) ≤ 64 * (i : Int) := by omega
      have hcapI : (n : Int) ≤ (capb : Int) := by omega
      have t0 : 64 * (i : Int) < (n : Int) := by omega
      clear h64
      obtain ⟨S, hS⟩ : ∃ S, S = absorb l i := ⟨_, rfl⟩
      obtain ⟨blk, hblk⟩ : ∃ blk, blk = blockOf l i := ⟨_, rfl⟩
      have HS := Lib.hid hS
      have HBLK := Lib.hid hblk
      rw [← hS] at h8
      have hgbB := hR.out.bb
      have hle := hR.out.le
      have hsz : ∀ W', (sizeOf 5).run Tryd.prog W' = .ok 1 W' := fun W' => by kernel_rfl
      have hsl : ∀ W', (Instr.sliceAt 85 (.slice (some ⟨gb, 0, none⟩) n capb) (some (.int .i64 (64 * (i : Int)))) (some (.int .i64 (64 * (i : Int) + 64))) none).run Tryd.prog W' = .ok (.slice (some ⟨gb, 64 * i, none⟩) 64 (capb - 64 * i)) W' := fun W' => by
        have e1 : (64 * (i : Int)).toNat = 64 * i := by omega
        have e2 : (64 * (i : Int) + 64).toNat = 64 * i + 64 := by omega
        have e3 : ¬ capb = 64 * i := by omega
        rw [run_sliceAt_slice W' _ _ _ _ _ (by kernel_rfl), run_slice_lh W' _ _ _ _ (by kernel_rfl) _ _ _ _ (by omega) (by omega) (by omega)]
        rw [show Tryd.prog.elem 85 = 5 by kernel_rfl, hsz]
        simp [Result.andThen, sliced, e1, e2, e3, Addr.add_mid]
      clear hS hblk hsz
      go_wp2_with fail
      refine (rwords_any gb (64 * i) (capb - 64 * i) blk wr (by omega) (fun q hq => by rw [HBLK.out, byteAt_block l i q hq (by have := HNL.out; omega)]; exact hR.out.bc _ (by have := HNL.out; omega))).mono ?_
      rintro e W4 ⟨gw, capw, rfl, hgw1, hgw2, hwc, hb4⟩
      have hs4 := hb4.size
      have R4 : Hid (Rf W3.heap.size w W4 l gk gb) := Lib.hid (hR.out.later (hb4.mono hle) hwB)
      have H4 : Hid (Has8 W4 gh S) := Lib.hid (h8.out.later hb4 hgh)
      have HW4 := Lib.hid hwc
      have hgk4 : gk < W4.heap.size := by have := R4.out.kb; have := R4.out.le; omega
      have hgh4 : gh < W4.heap.size := by omega
      have hB4 : W3.heap.size ≤ W4.heap.size := R4.out.le
      clear hwc hb4 hsl h8 hR hle hgh hs4
      go_wp2
      go_loopw [8, 9] (fun vv vk wr => ∃ k gv capv : Nat, k ≤ 64 ∧ vk = .int .i64 k ∧ vv = .slice (some ⟨gv, 0, none⟩) 8 capv ∧ gv < wr.heap.size ∧ Hid (Has8 wr gv (rounds consts (sched blk) k S)) ∧ Hid (Below W4.heap.size W4 wr)) (fun _ vk _ => 64 - (intOf vk).toNat)
      case atStart => exact ⟨0, gh, caph, Nat.zero_le _, rfl, rfl, hgh4, H4, Below.refl _ _⟩
      case round =>
        obtain ⟨k, gv, capv, hk, rfl, rfl, hgv, hV, hbel⟩ := hrel
        by_cases hk64 : k < 64
        · have ck : wr.cell? ⟨gk, k, none⟩ = some (.int .u32 (consts.getD k 0)) := (hbel.out.cell (p := ⟨gk, k, none⟩) hgk4).trans (R4.out.kc k hk64)
          have cw : wr.cell? ⟨gw, k, none⟩ = some (.int .u32 ((sched blk).getD k 0)) := (hbel.out.cell (p := ⟨gw, k, none⟩) hgw2).trans (HW4.out k hk64)
          obtain ⟨xk, ek⟩ : ∃ x, x = consts.getD k 0 := ⟨_, rfl⟩
          obtain ⟨xw, ew⟩ : ∃ x, x = (sched blk).getD k 0 := ⟨_, rfl⟩
          obtain ⟨R, eR⟩ : ∃ R, R = rounds consts (sched blk) k S := ⟨_, rfl⟩
          rw [← ek] at ck
          rw [← ew] at cw
          rw [← eR] at hV
          have HSTEP : Hid (stepR R xk xw = rounds consts (sched blk) (k + 1) S) := Lib.hid (by rw [eR, ek, ew]; rfl)
          have z0 : (0 : Int) ≤ (k : Int) := by omega
          have z1 : (k : Int) < 64 := by omega
          obtain ⟨W5, hw5, hcell, -, hheap, hb5⟩ := drawn_world wr
          have dk := (hcell _).trans ck
          have dw := (hcell _).trans cw
          have hV5 : Hid (Has8 W5 gv R) := Lib.hid (hV.out.later hb5.out hgv)
          have hbel5 : Hid (Below W4.heap.size W4 W5) := Lib.hid (chain2 hbel.out hb5.out)
          clear ek ew eR hcell hV hbel hb5 hheap ck cw
          go_wp2
          refine region_still_tail 9 (by kernel_rfl) (by kernel_rfl) W5 hw5.out ?_
          simp only [List.take_succ_cons, List.take_zero, List.drop_succ_cons, List.drop_zero]
          repeat still_step
          refine wpStill_nil ?_
          clear dk dw hw5
          go_wp2_with (go_at_call 102; refine (rstep_any gv R xk xw capv W5 hV5.out).mono ?_; rintro e w6 ⟨rfl, hH6, hb6, hlt6⟩; have H6 := Lib.hid hH6; have B6 := Lib.hid (chain2 hbel5.out hb6); have L6 := hlt6; clear hH6 hb6 hlt6)
          go_roundw
          case rel => exact ⟨k + 1, W5.heap.size, 8, by omega, by go_num, rfl, L6, Lib.hid (by rw [← HSTEP.out]; exact H6.out), B6⟩
          case measure => simp [intOf]; omega
        · obtain rfl : k = 64 := by omega
          obtain ⟨V, hVe⟩ : ∃ V, V = rounds consts (sched blk) 64 S := ⟨_, rfl⟩
          rw [← hVe] at hV
          have HVE : Hid (add8 S V = absorb l (i + 1)) := Lib.hid (by rw [hVe, HS.out, HBLK.out]; rfl)
          obtain ⟨W7, rfl⟩ : ∃ W7 : World, W7 = wr := ⟨_, rfl⟩
          have HH7 : Hid (Has8 W7 gh S) := Lib.hid (H4.out.later hbel.out hgh4)
          have hgh7 : gh < W7.heap.size := by have := hbel.out.size; omega
          have R7 : Hid (Rf W3.heap.size w W7 l gk gb) := Lib.hid (R4.out.later (hbel.out.mono hB4) hwB)
          clear hVe hk64 hk H4 R4 HW4 hbel
          go_wp2
          go_loopw [10, 11] (fun vn vq wr => ∃ q : Nat, q ≤ 8 ∧ vq = .int .i64 q ∧ Hid (wr.ownsRow W7.heap.size 23 1 vn q (wv (adds S V q))) ∧ Hid (Below W7.heap.size W7 wr)) (fun _ vq _ => 8 - (intOf vq).toNat)
          case atStart => exact ⟨0, Nat.zero_le _, rfl, Lib.hid (World.ownsRow_nil _ _ _ _), Below.refl _ _⟩
          case round =>
            obtain ⟨q, hq, rfl, hown, hbel⟩ := hrel
            by_cases hq8 : q < 8
            · have ch : wr.cell? ⟨gh, q, none⟩ = some (.int .u32 (S.at q)) := (hbel.out.cell (p := ⟨gh, q, none⟩) hgh7).trans (HH7.out q hq8)
              have cv : wr.cell? ⟨gv, q, none⟩ = some (.int .u32 (V.at q)) := (hbel.out.cell (p := ⟨gv, q, none⟩) hgv).trans (hV.out q hq8)
              obtain ⟨xh, eh⟩ : ∃ x, x = S.at q := ⟨_, rfl⟩
              obtain ⟨xv, ev⟩ : ∃ x, x = V.at q := ⟨_, rfl⟩
              rw [← eh] at ch
              rw [← ev] at cv
              have HE : Hid (wv (adds S V (q + 1)) = wv (adds S V q) ++ [.int .u32 (IntKind.u32.wrap (xh + xv))]) := Lib.hid (by rw [adds_succ, eh, ev]; rfl)
              clear eh ev
              have z0 : (0 : Int) ≤ (q : Int) := by omega
              have z1 : (q : Int) < 8 := by omega
              have hne1 : u10.ownBlock ≠ some gh := fun e => by have := (hown.out.lt gh e).1; omega
              have hne2 : u10.ownBlock ≠ some gv := fun e => by have := (hown.out.lt gv e).1; omega
              have hbs := hbel.out.size
              have HN := Lib.hid (news_at wr #[.int .u32 (IntKind.u32.wrap (xh + xv))] 23)
              go_wp2
              go_region_held3 (fun w' => w'.cell? ⟨gh, q, none⟩ = some (.int .u32 xh) ∧ w'.cell? ⟨gv, q, none⟩ = some (.int .u32 xv))
                (first | go_keep | (go_split_ands
                                    refine ⟨?_, ?_⟩
                                    · (rw [hgr2.cell_far _ (by simp; omega) (Ne.symm hne1)]; assumption)
                                    · (rw [hgr2.cell_far _ (by simp; omega) (Ne.symm hne2)]; assumption)))
                ((refine step_append_lies _ (by rfl) (.tmp 49) (.tmp 59) 155 (by rfl) W7.heap.size 23 i0 (.int .u32 0) 1 4 Tryd.underlying155 hi hz0 hz1 hz2 (by rfl) (by decide) u10 q (wv (adds S V q)) (by rfl) (by exact hown.out.alloc _) ⟨wr.heap.size, 0, none⟩ 1 1 [.int .u32 (IntKind.u32.wrap (xh + xv))] (by rfl) (by rfl) (by exact HN.out) (by exact wv_one [_]) (by omega) (by unfold maxLen; omega) (by omega) (by simp; omega) (wr.heap.size + 1) (by simp) ?_; intro g1 cap w2 hown2 hgr2 hat2 hlt2))
              have HW := Lib.hid hown2
              have HG := Lib.hid hgr2
              clear hown2 hgr2 hat2 hlt2 ch cv
              go_wp2
              go_roundw
              case rel =>
                have F1 : Hid (w2.ownsRow W7.heap.size 23 1 (.slice (some ⟨g1, 0, none⟩) (q + 1) cap) (q + 1) (wv (adds S V (q + 1)))) := Lib.hid (by rw [HE.out]; exact HW.out)
                have F2 : Hid (Below W7.heap.size W7 w2) := Lib.hid (below_append_drew hbel.out hbs hown.out HG.out)
                first
                | exact ⟨q + 1, by omega, by go_num, F1, F2⟩
                | ((repeat apply Exists.intro); exact ⟨⟨q + 1, by omega, by go_num, F1, F2⟩, rfl⟩)
              case measure => simp [intOf]; omega
            · obtain rfl : q = 8 := by omega
              obtain ⟨gg, cap, rfl, hgg, hgl⟩ := hown.out.form (by decide)
              have H9 : Hid (Has8 wr gg (absorb l (i + 1))) := Lib.hid (fun q hq => by
                rw [hown.out.cellAt q hq, wv_get _ _ (by rw [adds_length]; exact hq), adds_at S V q hq, HVE.out])
              have R9 : Hid (Rf W3.heap.size w wr l gk gb) := Lib.hid (R7.out.later (hbel.out.mono R7.out.le) hwB)
              clear hown hbel hq8
              go_wp2
              go_roundw
              case rel => exact ⟨i + 1, gg, cap, by omega, by go_num, rfl, hgl, H9, R9⟩
              case measure => simp [intOf]; omega
    · obtain rfl : i = N := by omega
      have HF : Hid F.Ok := Lib.hid (by rw [HF0.out]; exact absorb_ok l i)
      rw [← HF0.out] at h8
      obtain ⟨W8, rfl⟩ : ∃ W8 : World, W8 = wr := ⟨_, rfl⟩
      have HB8 : Hid (Below w.heap.size w W8) := Lib.hid hR.out.below
      have t1 : decide (64 * (i : Int) < (n : Int)) = false := decide_eq_false (by omega)
      have hwB8 : w.heap.size ≤ W8.heap.size := HB8.out.size
      clear hR hlt h64
      go_wp2
      go_loopw [12, 13] (fun vo vq wr => ∃ q : Nat, q ≤ 8 ∧ vq = .int .i64 q ∧ Hid (wr.ownsRow W8.heap.size 5 1 vo (4 * q) (bv ((out8 F).take (4 * q)))) ∧ Hid (Below W8.heap.size W8 wr)) (fun _ vq _ => 8 - (intOf vq).toNat)
      case atStart => exact ⟨0, Nat.zero_le _, rfl, Lib.hid (by simpa [bv] using World.ownsRow_nil _ _ _ _), Below.refl _ _⟩
      case round =>
        obtain ⟨q, hq, rfl, hown, hbel⟩ := hrel
        by_cases hq8 : q < 8
        · have ch : wr.cell? ⟨gh, q, none⟩ = some (.int .u32 (F.at q)) := (hbel.out.cell (p := ⟨gh, q, none⟩) hgh).trans (h8.out q hq8)
          obtain ⟨hx0, hx1⟩ := HF.out.at q hq8
          have HE := Lib.hid (out8_four F q hq8 HF.out)
          have c8 := h8.out q hq8
          generalize F.at q = x at *
          have C8 := Lib.hid c8
          clear c8
          obtain ⟨X, hX⟩ : ∃ X, X = bv ((out8 F).take (4 * q)) := ⟨_, rfl⟩
          rw [← hX] at HE hown
          have z0 : (0 : Int) ≤ (q : Int) := by omega
          have z1 : (q : Int) < 8 := by omega
          have b0 := hbel.out.size
          clear hX
          have HN0 := fun (W : World) => Lib.hid (news_at W #[.int .u8 (x / 16777216)] 5)
          have HN1 := fun (W : World) => Lib.hid (news_at W #[.int .u8 (x / 65536 % 256)] 5)
          have HN2 := fun (W : World) => Lib.hid (news_at W #[.int .u8 (x / 256 % 256)] 5)
          have HN3 := fun (W : World) => Lib.hid (news_at W #[.int .u8 (x % 256)] 5)
          go_wp2_with (first
            | (at_builtin; refine wpList_append_own _ rfl (.tmp 66) (.tmp 73) 85 rfl W8.heap.size 5 i5 (.int .u8 0) 1 1 Tryd.underlying85 hi5 hy0 hy1 hy2 rfl (by decide) _ _ _ rfl (hown.out.alloc _) ⟨wr.heap.size, 0, none⟩ 1 1 [.int .u8 (x / 16777216)] rfl rfl (HN0 wr).out (by simp [Value.oneCell']) (by unfold maxLen; omega) (by omega) (by simp; omega) ?_; intro v1 v1w hown1 hgr1 _; have O1 := Lib.hid hown1; have B1 : Hid (Below W8.heap.size W8 v1w) := Lib.hid (below_append hbel.out b0 hown.out hgr1); have b1 := B1.out.size; have ch1 : v1w.cell? ⟨gh, q, none⟩ = some (.int .u32 x) := (B1.out.cell (p := ⟨gh, q, none⟩) hgh).trans (C8.out); clear hown1 hgr1)
            | (at_builtin; refine wpList_append_own _ rfl (.tmp 75) (.tmp 82) 85 rfl W8.heap.size 5 i5 (.int .u8 0) 1 1 Tryd.underlying85 hi5 hy0 hy1 hy2 rfl (by decide) _ _ _ rfl (O1.out.alloc _) ⟨v1w.heap.size, 0, none⟩ 1 1 [.int .u8 (x / 65536 % 256)] rfl rfl (HN1 v1w).out (by simp [Value.oneCell']) (by unfold maxLen; omega) (by omega) (by simp; omega) ?_; intro v2 v2w hown2 hgr2 _; have O2 := Lib.hid hown2; have B2 : Hid (Below W8.heap.size W8 v2w) := Lib.hid (below_append B1.out b1 O1.out hgr2); have b2 := B2.out.size; have ch2 : v2w.cell? ⟨gh, q, none⟩ = some (.int .u32 x) := (B2.out.cell (p := ⟨gh, q, none⟩) hgh).trans (C8.out); clear hown2 hgr2)
            | (at_builtin; refine wpList_append_own _ rfl (.tmp 84) (.tmp 91) 85 rfl W8.heap.size 5 i5 (.int .u8 0) 1 1 Tryd.underlying85 hi5 hy0 hy1 hy2 rfl (by decide) _ _ _ rfl (O2.out.alloc _) ⟨v2w.heap.size, 0, none⟩ 1 1 [.int .u8 (x / 256 % 256)] rfl rfl (HN2 v2w).out (by simp [Value.oneCell']) (by unfold maxLen; omega) (by omega) (by simp; omega) ?_; intro v3 v3w hown3 hgr3 _; have O3 := Lib.hid hown3; have B3 : Hid (Below W8.heap.size W8 v3w) := Lib.hid (below_append B2.out b2 O2.out hgr3); have b3 := B3.out.size; have ch3 : v3w.cell? ⟨gh, q, none⟩ = some (.int .u32 x) := (B3.out.cell (p := ⟨gh, q, none⟩) hgh).trans (C8.out); clear hown3 hgr3)
            | (at_builtin; refine wpList_append_own _ rfl (.tmp 93) (.tmp 99) 85 rfl W8.heap.size 5 i5 (.int .u8 0) 1 1 Tryd.underlying85 hi5 hy0 hy1 hy2 rfl (by decide) _ _ _ rfl (O3.out.alloc _) ⟨v3w.heap.size, 0, none⟩ 1 1 [.int .u8 (x % 256)] rfl rfl (HN3 v3w).out (by simp [Value.oneCell']) (by unfold maxLen; omega) (by omega) (by simp; omega) ?_; intro v4 v4w hown4 hgr4 _; have O4 := Lib.hid hown4; have B4 : Hid (Below W8.heap.size W8 v4w) := Lib.hid (below_append B3.out b3 O3.out hgr4); have b4 := B4.out.size; have ch4 : v4w.cell? ⟨gh, q, none⟩ = some (.int .u32 x) := (B4.out.cell (p := ⟨gh, q, none⟩) hgh).trans (C8.out); clear hown4 hgr4))
          have HFIN : Hid (v4w.ownsRow W8.heap.size 5 1 v4 (4 * (q + 1)) (bv ((out8 F).take (4 * (q + 1))))) := Lib.hid (by rw [HE.out]; exact O4.out)
          clear ch ch1 ch2 ch3 ch4 O1 O2 O3 O4 B1 B2 B3
          go_wp2
          go_roundw
          case rel =>
            first
            | exact ⟨q + 1, by omega, by go_num, HFIN, B4⟩
            | ((repeat apply Exists.intro); exact ⟨⟨q + 1, by omega, by go_num, HFIN, B4⟩, rfl⟩)
          case measure => simp [intOf]; omega
        · obtain rfl : q = 8 := by omega
          have g := run_convert_owned (P := Tryd.prog) (src := 85) (dst := 9) (l := out8 F) Tryd.underlying85 Tryd.underlying5 Tryd.underlying9 hown.out
          go_wp2
          go_ret
          exact ⟨rfl, HB8.out.trans (hbel.out.mono hwB8)⟩

end Go.Proofs.YtkplmaaeggnbgaaDoor
