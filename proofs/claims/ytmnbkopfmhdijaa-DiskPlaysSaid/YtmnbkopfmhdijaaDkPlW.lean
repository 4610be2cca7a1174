/- The walk of DiskPlays: it returns true. No condition but those that each states. -/
import Derived.Test.YtmnbkopfmhdijaaDkDo
namespace Go.Proofs.Ytmnbkopfmhdijaa.Dk
open Go.RowKit

set_option maxHeartbeats 1000000 in
set_option maxRecDepth 100000 in
theorem plays_bad (n : Int) (h : n < 16 ∨ 512 < n) (pa : Option Addr) (len cap : Nat) (hl : len ≤ maxLen) (w : World) :
    Calls Try.prog 3 #[.int .i64 n, .slice pa len cap] w fun e w' => e = .returned (.bool true) ∧ Below w.heap.size w w' := by
  unfold maxLen at hl
  go_enter Try.func3, Try.ntmps3
  go_wp2_with fail
  refine (new_bad n h w).mono ?_
  rintro e w1 ⟨rfl, rfl⟩
  go_wp2_with fail
  refine (ref_new_bad n h w).mono ?_
  rintro e w2 ⟨rfl, hb⟩
  have HB := Lib.hid hb
  clear hb
  go_wp2
  go_loopw [5, 9] (fun vd vi wr => vd = .pointer none ∧ vi = .int .i64 0 ∧ wr = w2) (fun _ _ _ => 0)
  case atStart => exact ⟨rfl, rfl, rfl⟩
  case round =>
    obtain ⟨rfl, rfl, rfl⟩ := hrel
    by_cases h0 : 0 < len
    · have t0 : decide ((0 : Int) < (len : Int)) = true := decide_eq_true (by omega)
      have t1 : decide (0 < len) = true := decide_eq_true h0
      go_wp2_with fail
      refine (known4 wr).mono ?_
      rintro e w3 ⟨rfl, hb⟩
      have HZ := Lib.hid (chain2 HB.out hb)
      clear hb
      go_wp2
      go_ret
      exact ⟨rfl, HZ.out⟩
    · have t0 : decide ((0 : Int) < (len : Int)) = false := decide_eq_false (by omega)
      have t1 : decide (0 < len) = false := decide_eq_false h0
      go_wp2_with fail
      refine (known4 wr).mono ?_
      rintro e w3 ⟨rfl, hb⟩
      have HZ := Lib.hid (chain2 HB.out hb)
      clear hb
      go_wp2
      go_ret
      exact ⟨rfl, HZ.out⟩

theorem below_drewN (w : World) : ∀ n, Below w.heap.size w (w.drewN n)
  | 0 => Below.refl _ _
  | n + 1 => by
    have h := below_drewN w n
    have e : (w.drewN (n + 1)).heap = (w.drewN n).heap := rfl
    exact ⟨h.os, h.tape, h.output, by rw [e]; exact h.size, fun k hk => by rw [e]; exact h.block k hk⟩

theorem DiskAt.of_heap {w W : World} {F : Nat → Prop} {g : Nat} {S : DS} (h : DiskAt w F g S) (e : W.heap = w.heap) : DiskAt W F g S := by
  obtain ⟨gd, cd, gm, vp, D, h, h1⟩ := h
  exact ⟨gd, cd, gm, vp, D, h.of_blocks (by rw [e]) (by rw [e]) (by rw [e]) (fun _ _ => by rw [e]) (by rw [e]; exact Nat.le_refl _), h1⟩

theorem pair_new {w w1 w2 : World} (n : Nat) (h1 : DiskAt w1 (fun k => w.heap.size ≤ k) (w.heap.size + 2) (new n)) (b1 : Below w.heap.size w w1) (h2 : RefAt w2 (fun k => w1.heap.size ≤ k) w1.heap.size (new n)) (b2 : Below w1.heap.size w1 w2) :
    Pair w w2 (fun _ => False) (w.heap.size + 2) w1.heap.size (new n) (new n) :=
  ⟨fun k => w.heap.size ≤ k ∧ k < w1.heap.size, fun k => w1.heap.size ≤ k ∧ k < w2.heap.size, ⟨h1.tight.below b2, h2.tight, fun k h1 h2 => absurd h1.2 (Nat.not_lt.2 h2.1), fun k hk => ⟨hk.1, Nat.lt_of_lt_of_le hk.2 b2.size⟩, fun k hk => ⟨Nat.le_trans b1.size hk.1, hk.2⟩, chain2 b1 b2⟩, fun k hk => hk.elim⟩

set_option maxHeartbeats 4000000 in
set_option maxRecDepth 100000 in
theorem plays_good (n : Nat) (h1 : 16 ≤ n) (h2 : n ≤ 512) (pa : Option Addr) (len cap : Nat) (hl : len ≤ maxLen) (w : World) (hc : ∀ j, j < len → ∃ (b off : Nat) (o : OpV), pa = some ⟨b, off, none⟩ ∧ b < w.heap.size ∧ o.Ok ∧ w.rangeAt b (off + j * 6) o.cells) :
    Calls Try.prog 3 #[.int .i64 (n : Int), .slice pa len cap] w fun e w' => e = .returned (.bool true) ∧ Below w.heap.size w w' := by
  unfold maxLen at hl
  have HC := Lib.hid hc
  clear hc
  go_enter Try.func3, Try.ntmps3
  go_wp2_with fail
  refine (new_ok_any n h1 h2 w).mono ?_
  rintro e w1 ⟨rfl, hd1, hb1⟩
  have H1 := Lib.hid (And.intro hd1 hb1)
  clear hd1 hb1
  go_wp2_with fail
  refine (ref_new_ok n h1 h2 w1).mono ?_
  rintro e w2 ⟨rfl, hr2, hb2⟩
  have HP := Lib.hid (pair_new n H1.out.1 H1.out.2 hr2 hb2)
  generalize w1.heap.size = r at HP ⊢
  clear hr2 hb2 H1
  go_wp2
  go_loopw [5, 9] (fun vd vi wr => ∃ (i g : Nat) (S : DS), i ≤ 60 ∧ vd = .pointer (some ⟨g, 0, none⟩) ∧ vi = .int .i64 i ∧ Hid (Pair w wr (fun _ => False) g r S S) ∧ S.c ≤ i ∧ S.ops ≤ i) (fun _ vi _ => 60 - (intOf vi).toNat)
  case atStart => exact ⟨0, _, _, Nat.zero_le _, rfl, rfl, HP, Nat.zero_le _, Nat.zero_le _⟩
  case round =>
    clear HP
    obtain ⟨i, g, S, hi, rfl, rfl, hI, hSc, hSo⟩ := hrel
    have z0 : (0 : Int) ≤ (i : Int) := by omega
    by_cases hgo : i < len ∧ i < 60
    · obtain ⟨hlen, h60⟩ := hgo
      have z1 : (i : Int) < (len : Int) := by omega
      have z2 : (i : Int) < 60 := by omega
      obtain ⟨b, off, o, rfl, hb, ho, hr⟩ := HC.out i hlen
      have HRO : Hid (wr.rangeAt b (off + i * 6) o.cells) := Lib.hid (rangeAt_block hr (hI.out.below.block b hb))
      have HI : Hid ((Try.prog.info? 34).map (·.size) = some o.cells.length) := Lib.hid (by kernel_rfl)
      have CD : ∀ W, W = wr → Calls Try.prog 9 #[.pointer (some ⟨g, 0, none⟩), .pointer (some ⟨r, 0, none⟩), .agg o.cells.toArray] W fun e w' => ∃ g', e = .returned (.tuple #[.pointer (some ⟨g', 0, none⟩), .bool true]) ∧ Pair w w' (fun _ => False) g' r (S.doL o) (S.doL o) := fun W e => e ▸ does_any o ho hI.out (by omega) (by omega)
      have cd := Lib.hid CD
      have HF := Lib.hid (doL_few S o)
      clear CD hr hb ho hI
      generalize S.doL o = T at cd HF
      generalize o.cells = K at HRO HI cd
      go_wp2_with (first
        | (refine wpList_load_mid rfl 34 _ rfl b (off + i * 6) rfl K _ HRO.out Try.underlying34 rfl HI.out ?_))
      refine (cd.out wr rfl).mono ?_
      rintro e w3 ⟨g', rfl, hp⟩
      have HP3 := Lib.hid hp
      clear hp cd HRO HI
      go_wp2_with fail
      obtain ⟨F, G, hT, -⟩ := HP3.out
      obtain ⟨vl, vw, a, m, hR, -⟩ := hT.r
      obtain ⟨gl, cl, rfl⟩ := hR.formL
      obtain ⟨pw, cw, rfl, -⟩ := hR.formW
      have c0 := hR.cell (i := 0) rfl
      have c1 := hR.cell (i := 1) rfl
      have c2 := hR.cell (i := 2) rfl
      have c3 := hR.cell (i := 3) rfl
      have hlt := hT.d.lt
      have hdr : ∀ W : World, W.heap = w3.heap → DiskAt W F g' T := fun W e => hT.d.of_heap e
      have d0 := fun (W : World) e => (on_at W (hdr W e)).mono fun _ _ ⟨a, b⟩ => And.intro a b.symm
      have d1 := fun (W : World) e => (ops_at W (hdr W e)).mono fun _ _ ⟨a, b⟩ => And.intro a b.symm
      have d2 := fun (W : World) e => (waits_at W (hdr W e)).mono fun _ _ ⟨a, b⟩ => And.intro a b.symm
      have d3 := fun (W : World) e => (blocks_at W (hdr W e)).mono fun _ _ ⟨a, b⟩ => And.intro a b.symm
      have HF' := HF.out
      have hTc : T.c ≤ i + 1 := by omega
      have hTo : T.ops ≤ i + 1 := by omega
      clear hR hT HF HF' hdr hlt
      cases hon : T.on
      all_goals
        rw [hon] at c2 d0
        generalize T.L.length = nl at c0 d3
        generalize T.W.length = nw at c1 d2
        generalize hy : T.ops = y at c3 d1 hTo
        have x0 := Lib.hid d0
        have x1 := Lib.hid d1
        have x2 := Lib.hid d2
        have x3 := Lib.hid d3
        have HY := Lib.hid hy
        have HON := Lib.hid hon
        clear d0 d1 d2 d3 hy hon
        go_quiet (first
          | (go_at_call 10; exact Calls.quiet_of_same (x0.out _ rfl))
          | (go_at_call 11; exact Calls.quiet_of_same (x1.out _ rfl))
          | (go_at_call 12; exact Calls.quiet_of_same (x2.out _ rfl))
          | (go_at_call 13; exact Calls.quiet_of_same (x3.out _ rfl)))
        have HPN := Lib.hid (HP3.out.later (w' := w3.drewN nq) (below_drewN w3 nq))
        clear c0 c1 c2 c3 x0 x1 x2 x3
        go_wp2
        go_roundw
        case rel => exact ⟨i + 1, g', T, by omega, rfl, by go_num, HPN, hTc, by rw [HY.out]; exact hTo⟩
        case measure => simp [intOf]; omega
    · have HB := Lib.hid hI.out.below
      clear hI
      by_cases hlen : i < len
      · obtain rfl : i = 60 := by omega
        rw [show ((60 : Nat) : Int) = 60 from rfl]
        have z1 : (60 : Int) < (len : Int) := by omega
        go_wp2_with fail
        refine (known4 wr).mono ?_
        rintro e w3 ⟨rfl, hb⟩
        have HZ := Lib.hid (chain2 HB.out hb)
        clear hb
        go_wp2
        go_ret
        exact ⟨rfl, HZ.out⟩
      · have t0 : decide ((i : Int) < (len : Int)) = false := decide_eq_false (by omega)
        have t1 : decide (i < len) = false := decide_eq_false hlen
        go_wp2_with fail
        refine (known4 wr).mono ?_
        rintro e w3 ⟨rfl, hb⟩
        have HZ := Lib.hid (chain2 HB.out hb)
        clear hb
        go_wp2
        go_ret
        exact ⟨rfl, HZ.out⟩

/-- The same of the arguments as they were read. -/
theorem plays_raw {H : Type} {enc : TypeId × Value → H} {w : World} {b0 : Nat} {v : Value} {d : DataW H} {p : List MemPlace} (n : Int) (_hn : (Lit.int .i64 n).wf = true)
    (hv : Value.okWide Try.prog w .any b0 22 v) (h : DataW.Trod enc Try.prog w 0 (fun _ => true) true 22 v d p) :
    Calls Try.prog 3 #[.int .i64 n, v] w fun e w' => e = .returned (.bool true) ∧ Below w.heap.size w w' := by
  obtain ⟨pa, len, cap, rfl, hl, hc⟩ : ∃ pa len cap, v = .slice pa len cap ∧ len ≤ maxLen ∧ ∀ j, j < len → ∃ (b off : Nat) (o : OpV), pa = some ⟨b, off, none⟩ ∧ b < w.heap.size ∧ o.Ok ∧ w.rangeAt b (off + j * 6) o.cells := by
    rcases open_ops hv h with ⟨pa, cap, rfl⟩ | ⟨b, off, len, cap, rfl, _, hl, hb, hcs⟩
    · exact ⟨pa, 0, cap, rfl, Nat.zero_le _, fun j hj => absurd hj (Nat.not_lt_zero j)⟩
    · exact ⟨_, len, cap, rfl, hl, fun j hj => by obtain ⟨o, ho, hr⟩ := hcs j hj; exact ⟨b, off, o, rfl, hb, ho, hr⟩⟩
  by_cases hb : n < 16 ∨ 512 < n
  · exact plays_bad n hb pa len cap hl w
  · obtain ⟨k, rfl⟩ := Int.eq_ofNat_of_zero_le (show 0 ≤ n by omega)
    exact plays_good k (by omega) (by omega) pa len cap hl w hc

end Go.Proofs.Ytmnbkopfmhdijaa.Dk
