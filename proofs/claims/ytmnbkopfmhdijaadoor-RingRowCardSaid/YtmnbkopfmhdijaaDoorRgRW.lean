/- The walk of RingRow: it returns true. No condition but those that each states. -/
import Derived.Test.YtmnbkopfmhdijaaDoorRgBW
import Derived.Test.YtmnbkopfmhdijaaDoorRgRP
namespace Go.Proofs.YtmnbkopfmhdijaaDoor.Rg
open Go.RowKit Dk

theorem dk_scan {w0 : World} {F : Nat → Prop} {g : Nat} {S : DS} (w : World) (HK : HasK w0) (h : Dk w0 w F g S) (hon : S.on = true) (hc : S.c ≤ 2 ^ 40) :
    Calls Tryd.prog 35 #[.pointer (some ⟨g, 0, none⟩)] w fun x w' => ∃ v, x = .returned (.tuple #[v, .int .i64 0]) ∧ ScanR w w' v (scan S.read 8) :=
  scan_on F g S w h.here hon hc (HK.later h.below)

/-- Loop 2: what Scan handed back, behind the world of the law. -/
structure Row2 (w w1 wr : World) (v : Value) (c : UInt8) (k : Nat) : Prop where
  row : ScanR w1 wr v (rowL c k)
  below : Below w.heap.size w w1

theorem Row2.later {w w1 wr W : World} {v : Value} {c : UInt8} {k : Nat} (h : Row2 w w1 wr v c k) (b : Below wr.heap.size wr W) : Row2 w w1 W v c k := ⟨h.row.later b, h.below⟩
theorem Row2.drewN {w w1 wr : World} {v : Value} {c : UInt8} {k : Nat} (h : Row2 w w1 wr v c k) (n : Nat) : Row2 w w1 (wr.drewN n) v c k := h.later ⟨rfl, rfl, rfl, Nat.le_refl _, fun _ _ => rfl⟩
theorem Row2.all {w w1 wr : World} {v : Value} {c : UInt8} {k : Nat} (h : Row2 w w1 wr v c k) : Below w.heap.size w wr := chain2 h.below h.row.below

theorem Row2.at {w w1 wr : World} {g' cap m : Nat} {c : UInt8} {k q : Nat} (hm : min k 8 = m) (hq : q < m) (h : Row2 w w1 wr (.slice (some ⟨g', 0, none⟩) m cap) c k) :
    wr.cell? ⟨g', q * 5 + 1, none⟩ = some (.int .i64 ((k : Int) - (m : Int) + 1 + (q : Int))) ∧ wr.cell? ⟨g', q * 5 + 3, none⟩ = some (.int .i64 ((k : Int) - (m : Int) + 1 + (q : Int) - 1)) ∧ wr.cell? ⟨g', q * 5 + 4, none⟩ = some (.string (strOf (sumB c))) := by
  obtain ⟨X, Y, h1, h2⟩ := rowL_at c k q (by omega)
  have hr := own_zero h.row.row
  rw [rowL_length, hm, h1] at hr
  have := row_range hr
  rw [h2] at this
  refine ⟨?_, ?_, this 4 _ rfl⟩
  · have h4 := this 1 _ rfl
    rw [h4]
    show some (Value.int .i64 (((k - min k 8 + q : Nat) : Int) + 1)) = _
    congr 2; omega
  · have h4 := this 3 _ rfl
    rw [h4]
    show some (Value.int .i64 (((k - min k 8 + q : Nat) : Int))) = _
    congr 2; omega

theorem row2_len {w w1 wr : World} {v : Value} {c : UInt8} {k m : Nat} (hm : min k 8 = m) (h : Row2 w w1 wr v c k) : ∃ pa cap, v = .slice pa m cap := by
  rcases h.row.row.2 with ⟨hv, h0⟩ | ⟨g', cap, cur, hv, -⟩
  · rw [rowL_length, hm] at h0; exact ⟨none, 0, by rw [hv, h0]⟩
  · rw [rowL_length, hm] at hv; exact ⟨_, _, hv⟩

theorem row2_some {w w1 wr : World} {pa : Option Addr} {cap : Nat} {c : UInt8} {k m : Nat} (hm : min k 8 = m) (h0 : 0 < m) (h : Row2 w w1 wr (.slice pa m cap) c k) : ∃ g', pa = some ⟨g', 0, none⟩ := by
  rcases h.row.row.2 with ⟨hv, h1⟩ | ⟨g', cap', cur, hv, -⟩
  · rw [rowL_length, hm] at h1; omega
  · cases hv; exact ⟨g', rfl⟩

set_option maxHeartbeats 4000000 in
set_option maxRecDepth 100000 in
theorem ringRow_law (a c : UInt8) (w : World) (HK : HasK w) :
    Calls Tryd.prog 9 #[.int .u8 (a.toNat : Int), .int .u8 (c.toNat : Int)] w fun x w' => x = .returned (.bool true) ∧ Below w.heap.size w w' := by
  have HHK := Lib.hid HK
  clear HK
  have ha : a.toNat < 256 := a.toNat_lt
  have a0 : (0 : Int) ≤ (a.toNat : Int) := by omega
  have a1 : (a.toNat : Int) < 256 := by omega
  obtain ⟨k, hk, hk40⟩ : ∃ k : Nat, (a.toNat : Int) % 40 = (k : Int) ∧ k < 40 := ⟨a.toNat % 40, by omega, by omega⟩
  have CA : Hid (∀ (i : Nat) W, i < 1000 → Dk w W (fun k => w.heap.size ≤ k) (w.heap.size + 2) (rowS c i) → Calls Tryd.prog 24 #[.pointer (some ⟨w.heap.size + 2, 0, none⟩), .agg #[.int .i64 (1 + (i : Int) % 3), .int .i64 0, .int .i64 ((i : Int) % 3), .int .i64 (i : Int), .string (strOf (sumB c))]] W
      fun x w' => x = .returned (.tuple #[.agg (rowF c i).cells.toArray, .int .i64 0]) ∧ Dk w w' (fun k => w.heap.size ≤ k) (w.heap.size + 2) (rowS c (i + 1))) :=
    Lib.hid (fun i W hi h => by
      have ho := rowOk c i (by omega)
      have := dk_app (rowE c i) W HHK.out h (by have := ho.cnt; omega) (by have := ho.ops; omega)
      rw [row_app c i hi] at this
      exact this.mono fun _ _ ⟨a, b, _⟩ => ⟨a, b⟩)
  have CSC : Hid (∀ W, Dk w W (fun k => w.heap.size ≤ k) (w.heap.size + 2) (rowS c k) → Calls Tryd.prog 35 #[.pointer (some ⟨w.heap.size + 2, 0, none⟩)] W fun x w' => ∃ v, x = .returned (.tuple #[v, .int .i64 0]) ∧ ScanR W w' v (rowL c k)) :=
    Lib.hid (fun W h => by
      have ho := rowOk c k (by omega)
      have := dk_scan W HHK.out h ho.on (by have := ho.cnt; omega)
      rw [row_scan c k (by omega)] at this
      exact this)
  have CS : Hid (∀ W, Calls Tryd.prog 41 #[.int .u8 (c.toNat : Int)] W fun e w' => e = .returned (.string (strOf (sumB c))) ∧ Below W.heap.size W w') := Lib.hid (sum_any c)
  generalize hs : strOf (sumB c) = s at *
  have HS := Lib.hid hs
  have HKK := Lib.hid hk
  clear hs hk
  go_enter Tryd.func9, Tryd.ntmps9
  go_wp2_with fail
  refine (new_dk 16 (by decide) (by decide) w).mono ?_
  rintro e w1 ⟨rfl, hb⟩
  have H1 : Hid (Dk w w1 (fun k => w.heap.size ≤ k) (w.heap.size + 2) (rowS c 0)) := Lib.hid hb
  clear hb
  go_wp2
  rw [HKK.out]
  go_loopw [8] (fun vi wr => ∃ i : Nat, i ≤ k ∧ vi = .int .i64 i ∧ Hid (Dk w wr (fun k => w.heap.size ≤ k) (w.heap.size + 2) (rowS c i))) (fun vi _ => k - (intOf vi).toNat)
  case atStart => exact ⟨0, Nat.zero_le _, rfl, H1⟩
  case round =>
    clear H1
    obtain ⟨i, hi, rfl, hW⟩ := hrel
    have y0 : (0 : Int) ≤ (i : Int) := by omega
    by_cases hlt : i < k
    · have y1 : (i : Int) < (k : Int) := by omega
      have y2 : (k : Int) < 40 := by omega
      have HE : Hid ((rowF c i).cells[1]? = some (.int .i64 ((i : Int) + 1)) ∧ (rowF c i).cells[3]? = some (.int .i64 (i : Int))) := Lib.hid ⟨rfl, rfl⟩
      have CAi := Lib.hid (fun W h => CA.out i W (by omega) h)
      generalize rowF c i = E at *
      go_wp2_with (first
        | (go_at_call 41; refine (CS.out _).mono ?_; rintro e w2 ⟨rfl, hb⟩; have H2 := Lib.hid (hW.out.later hb); clear hb hW)
        | (go_at_call 24; refine (CAi.out _ H2.out).mono ?_; rintro e w3 ⟨rfl, hb⟩; have H3 := Lib.hid hb; clear hb H2; have HZ3 := Lib.hid (ebt_zero w3 39); have HP3 := Lib.hid (ebt_put w3 39 E))
        | (refine wpList_store_mid rfl 39 (.tmp 9) (.tmp 44) rfl w3.heap.size 0 E.cells.toArray rfl rfl HZ3.out.room (e_infoA _) (e_all _) ?_; generalize World.setCells _ _ _ _ = W4 at HP3 ⊢; have H4 := Lib.hid (H3.out.later HP3.out.2); have c1 := HP3.out.1.at 1 _ HE.out.1; have c3 := HP3.out.1.at 3 _ HE.out.2; clear HP3 H3 HZ3))
      clear c1 c3
      go_roundw
      case rel => exact ⟨i + 1, by omega, by go_num, H4⟩
      case measure => simp [intOf]; omega
    · obtain rfl : i = k := by omega
      go_wp2_with fail
      refine (CSC.out _ hW.out).mono ?_
      rintro e w5 ⟨v, rfl, hr⟩
      obtain ⟨m, hm⟩ : ∃ m, min i 8 = m := ⟨_, rfl⟩
      have HM := Lib.hid hm
      have HR : Hid (Row2 w wr w5 v c i) := Lib.hid ⟨hr, hW.out.below⟩
      clear hr hW CA CSC
      obtain ⟨pa, cap, rfl⟩ := row2_len hm HR.out
      have m0 : (m : Int) ≤ (i : Int) := by omega
      have m1 : (m : Int) ≤ 8 := by omega
      have hmm : min (i : Int) 8 = (m : Int) := by omega
      clear hm
      go_wp2
      clear hmm
      generalize wr = wa at HR
      go_loopw [13] (fun vi wq => ∃ q : Nat, q ≤ m ∧ vi = .int .i64 q ∧ Hid (Row2 w wa wq (.slice pa m cap) c i)) (fun vi _ => m - (intOf vi).toNat)
      case atStart => exact ⟨0, Nat.zero_le _, rfl, HR⟩
      case round =>
        clear HR
        obtain ⟨q, hq, rfl, hR⟩ := hrel
        have q0 : (0 : Int) ≤ (q : Int) := by omega
        by_cases hqm : q < m
        · have q1 : (q : Int) < (m : Int) := by omega
          obtain ⟨g', rfl⟩ := row2_some HM.out (by omega) hR.out
          obtain ⟨c1, c3, c4⟩ := hR.out.at HM.out hqm
          rw [HS.out] at c4
          have hS0 : wr.drew.cell? ⟨g', q * 5 + 1, none⟩ = some (.int .i64 ((i : Int) - (m : Int) + 1 + (q : Int))) ∧ wr.drew.cell? ⟨g', q * 5 + 3, none⟩ = some (.int .i64 ((i : Int) - (m : Int) + 1 + (q : Int) - 1)) ∧ wr.drew.cell? ⟨g', q * 5 + 4, none⟩ = some (.string s) ∧ Row2 w wa wr.drew (.slice (some ⟨g', 0, none⟩) m cap) c i :=
            ⟨(World.cell?_of_block (a := ⟨g', q * 5 + 1, none⟩) (w := wr) (w' := wr.drew) rfl).trans c1, (World.cell?_of_block (a := ⟨g', q * 5 + 3, none⟩) (w := wr) (w' := wr.drew) rfl).trans c3, (World.cell?_of_block (a := ⟨g', q * 5 + 4, none⟩) (w := wr) (w' := wr.drew) rfl).trans c4, hR.out.drewN 1⟩
          have v1 : IntKind.i64.wrap ((i : Int) - (m : Int)) = (i : Int) - (m : Int) := IntWalk.i64_in _ (by omega)
          have v2 : IntKind.i64.wrap ((i : Int) - (m : Int) + 1) = (i : Int) - (m : Int) + 1 := IntWalk.i64_in _ (by omega)
          have v3 : IntKind.i64.wrap ((i : Int) - (m : Int) + 1 + (q : Int)) = (i : Int) - (m : Int) + 1 + (q : Int) := IntWalk.i64_in _ (by omega)
          have v4 : IntKind.i64.wrap ((i : Int) - (m : Int) + 1 + (q : Int) - 1) = (i : Int) - (m : Int) + 1 + (q : Int) - 1 := IntWalk.i64_in _ (by omega)
          have hKEEP : Hid (∀ W1 W2, Below W1.heap.size W1 W2 → (W1.cell? ⟨g', q * 5 + 1, none⟩ = some (.int .i64 ((i : Int) - (m : Int) + 1 + (q : Int))) ∧ W1.cell? ⟨g', q * 5 + 3, none⟩ = some (.int .i64 ((i : Int) - (m : Int) + 1 + (q : Int) - 1)) ∧ W1.cell? ⟨g', q * 5 + 4, none⟩ = some (.string s) ∧ Row2 w wa W1 (.slice (some ⟨g', 0, none⟩) m cap) c i) →
              (W2.cell? ⟨g', q * 5 + 1, none⟩ = some (.int .i64 ((i : Int) - (m : Int) + 1 + (q : Int))) ∧ W2.cell? ⟨g', q * 5 + 3, none⟩ = some (.int .i64 ((i : Int) - (m : Int) + 1 + (q : Int) - 1)) ∧ W2.cell? ⟨g', q * 5 + 4, none⟩ = some (.string s) ∧ Row2 w wa W2 (.slice (some ⟨g', 0, none⟩) m cap) c i)) := Lib.hid (fun W1 W2 hb h => by
            have h2 := h.2.2.2.later hb
            obtain ⟨d1, d3, d4⟩ := h2.at HM.out hqm
            rw [HS.out] at d4
            exact ⟨d1, d3, d4, h2⟩)
          clear c1 c3 c4
          go_wp2
          go_region_held3 (fun W => W.cell? ⟨g', q * 5 + 1, none⟩ = some (.int .i64 ((i : Int) - (m : Int) + 1 + (q : Int))) ∧ W.cell? ⟨g', q * 5 + 3, none⟩ = some (.int .i64 ((i : Int) - (m : Int) + 1 + (q : Int) - 1)) ∧ W.cell? ⟨g', q * 5 + 4, none⟩ = some (.string s) ∧ Row2 w wa W (.slice (some ⟨g', 0, none⟩) m cap) c i)
            (first | assumption | exact hKEEP.out _ _ (by assumption) (by assumption)) (first
            | (go_at_call 41; (with_reducible refine (CS.out _).mono ?_); rintro e W8 ⟨rfl, hb⟩))
          have hh := ‹World.cell? W8 _ = _ ∧ World.cell? W8 _ = _ ∧ World.cell? W8 _ = _ ∧ Row2 w wa W8 _ c i›
          have HN := Lib.hid hh.2.2.2
          clear hh hb hS0 hKEEP v1 v2 v3 v4 hR
          clear ‹World.cell? W8 _ = _ ∧ World.cell? W8 _ = _ ∧ World.cell? W8 _ = _ ∧ Row2 w wa W8 _ c i›
          go_wp2
          go_roundw
          case rel => exact ⟨q + 1, by omega, by go_num, HN⟩
          case measure => simp [intOf]; omega
        · obtain rfl : q = m := by omega
          have HB := Lib.hid hR.out.all
          clear hR
          go_wp2_with fail
          refine (known5 _ (HHK.out.later HB.out)).mono ?_
          rintro e w9 ⟨rfl, hb⟩
          have HB9 := Lib.hid (chain2 HB.out hb)
          clear hb
          go_wp2
          go_ret
          exact ⟨rfl, HB9.out⟩

/-- RingRow of its arguments, as they were read. -/
theorem ringRow_raw (x : Int) (hx : (Lit.int .u8 x).wf = true) (y : Int) (hy : (Lit.int .u8 y).wf = true) (w : World) (HK : HasK w) :
    Calls Tryd.prog 9 #[.int .u8 x, .int .u8 y] w fun x w' => x = .returned (.bool true) ∧ Below w.heap.size w w' := by
  obtain ⟨a, rfl⟩ := u8_open hx
  obtain ⟨c, rfl⟩ := u8_open hy
  exact ringRow_law a c w HK

end Go.Proofs.YtmnbkopfmhdijaaDoor.Rg
