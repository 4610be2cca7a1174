/- The walk of the document's Write: its contracts. No condition but those that each states. -/
import Derived.Test.YthddiijnomhpfaaDkRe
namespace Go.Proofs.Ythddiijnomhpfaa.Dk
open Go.RowKit

theorem RefIn.pushW {w W : World} {r : Nat} {vl vw : Value} {a m : Nat} {S : DS} (h : RefIn w r vl vw a m S) (k : Only (fun b => vw.ownBlock = some b) w W) {v : Value} {T : DS} (e : (rcells vl vw S a m).set 1 v = rcells vl v T a m)
    (hr : W.ownsRow 0 75 2 v T.W.length (puts T.W)) (hv : ∀ b, v.ownBlock = some b → b < W.heap.size ∧ b ≠ r ∧ vl.ownBlock ≠ some b) (hL : T.L = S.L) (hok : T.Ok) (hn : T.next = S.next) : RefIn (W.setCell ⟨r, 1, none⟩ v) r vl v a m T := by
  have hb : ∀ b, b ≠ r → (W.setCell ⟨r, 1, none⟩ v).heap[b]? = W.heap[b]? := fun b hb => Below.heap_setCell _ _ _ _ hb
  have br : W.heap[r]? = w.heap[r]? := k.block r h.lt (fun e => (h.bw r e).2 rfl)
  have bl : ∀ b, vl.ownBlock = some b → W.heap[b]? = w.heap[b]? := fun b hb' => k.block b (h.bl b hb').1 (h.bl b hb').2.2
  have hc : ∀ j u, (rcells vl vw S a m)[j]? = some u → W.cell? ⟨r, j, none⟩ = some u := fun j u hu => (World.cell?_of_block (a := ⟨r, j, none⟩) br).trans (h.cell hu)
  refine ⟨fun j u hu => ?_, there_setCell (there_block h.room br) _ _, ?_, ownsRow_block hr (fun b hb' => hb b (hv b hb').2.1), fun k q hq => h.plan k q (hn ▸ hq), h.size, hok, by have := k.size; have := h.lt; simp; omega, fun b hb => ?_, fun b hb => by have := hv b hb; exact ⟨by simpa using this.1, this.2.1⟩⟩
  · rw [← e, List.getElem?_set] at hu
    rw [Nat.zero_add]
    by_cases hij : 1 = j
    · subst hij
      rw [if_pos rfl, if_pos (show 1 < (rcells vl vw S a m).length from Nat.succ_lt_succ (Nat.zero_lt_succ _))] at hu
      cases hu
      exact World.cell?_setCell_same _ _ _ (hc 1 _ rfl)
    · rw [if_neg hij] at hu
      rw [World.cell?_setCell_other _ _ _ _ (by intro e'; simp at e'; first | done | omega)]
      exact hc j u hu
  · rw [hL]; exact ownsRow_block (ownsRow_block h.rowL bl) (fun b hb' => hb b (h.bl b hb').2.1)
  · have := h.bl b hb
    have hs := k.size
    exact ⟨by simp; omega, this.2.1, fun e => (hv b e).2.2 hb⟩

set_option maxHeartbeats 1000000 in
theorem ref_write_off (r : Nat) (S : DS) (i : Int) (s : ByteArray) (F : Nat → Prop) (w : World) (h : RefAt w F r S) (hon : S.on = false) :
    Calls Try.prog 43 #[.pointer (some ⟨r, 0, none⟩), .int .i64 i, .string s] w fun e w' => e = .returned (.int .i64 7) ∧ w = w' := by
  obtain ⟨vl, vw, a, m, hR, -⟩ := h
  have c2 := hR.cell (i := 2) rfl
  rw [hon] at c2
  clear hR
  go_enter Try.func43, Try.ntmps43
  go_wp2
  go_ret
  exact ⟨rfl, rfl⟩

set_option maxHeartbeats 2000000 in
set_option maxRecDepth 100000 in
theorem ref_write_ok (r i : Nat) (S : DS) (s : Bytes) (F : Nat → Prop) (w : World) (h : RefAt w F r S) (hon : S.on = true) (hi : i < S.L.length) (hs : s.length = 64) (hc : S.c < 2 ^ 40) (hops : S.ops ≤ 2 ^ 40) :
    Calls Try.prog 43 #[.pointer (some ⟨r, 0, none⟩), .int .i64 (i : Int), .string (strOf s)] w fun e w' => e = .returned (.int .i64 (errOf (S.write i s).2)) ∧ RefAt w' (More F w) r (S.write i s).1 ∧ Only F w w' := by
  obtain ⟨vl, vw, a, m, hR, hF1, hF2, hF3⟩ := h
  have c2 := hR.cell (i := 2) rfl
  rw [hon] at c2
  obtain ⟨gl, cl, rfl⟩ := hR.formL
  obtain ⟨pw, cw, hvw, -⟩ := hR.formW
  have c0 := hR.cell (i := 0) rfl
  have c1 := hR.cell (i := 1) rfl
  have f1 := hR.free 1 (by decide)
  have hfew := hR.ok.few
  have hsl : (strOf s).size = 64 := by rw [strOf_size, hs]
  have hb : ∀ W, (Instr.buildSlice 37 1 #[(0, .agg #[.int .i64 (i : Int), .string (strOf s)])]).run Try.prog W = .ok (.slice (some ⟨W.heap.size, 0, none⟩) 1 1) (W.alloc (.cells #[.int .i64 (i : Int), .string (strOf s)] 75)) :=
    fun W => run_buildSlice_one 37 75 _ 24 2 (putc (i, s)) W Try.underlying37 put_info rfl rfl (by decide) (by decide)
  obtain ⟨i0, hi0, hy0, hy1, hy2⟩ := info_parts put_info
  have HROW : Hid ((w.alloc (.cells #[.int .i64 (i : Int), .string (strOf s)] 75)).ownsRow 0 75 2 vw S.W.length (puts S.W)) := Lib.hid (hR.rowW.alloc _)
  have HNEW : Hid (∀ j u, (putc (i, s))[j]? = some u → (w.alloc (.cells #[.int .i64 (i : Int), .string (strOf s)] 75)).cell? ((⟨w.heap.size, 0, none⟩ : Addr).add j) = some u) := Lib.hid (news_at w (putc (i, s)).toArray _)
  have HR := Lib.hid hR
  have HF := Lib.hid (And.intro hF1 (And.intro hF2 hF3))
  have hr1 := hR.lt
  have hrb := hR.bw
  have z0 : (0 : Int) ≤ (i : Int) := by omega
  have t0 : decide ((i : Int) < 0) = false := decide_eq_false (by omega)
  have t1 : decide ((S.L.length : Int) ≤ (i : Int)) = false := decide_eq_false (by omega)
  have t2 : decide (S.L.length ≤ i) = false := decide_eq_false (by omega)
  have HC1 := Lib.hid c1
  have HF1 := Lib.hid f1
  have HDONE : Hid (∀ (W7 : World) (g' cap : Nat), W7.ownsRow 0 75 2 (.slice (some ⟨g', 0, none⟩) (S.W.length + 1) cap) (S.W.length + 1) (puts S.W ++ putc (i, s)) → (w.alloc (.cells #[.int .i64 (i : Int), .string (strOf s)] 75)).grownBy W7 vw.ownBlock → (vw.ownBlock = some g' ∨ g' = w.heap.size + 1) → g' < W7.heap.size →
      W7.cell? ⟨r, 1, none⟩ = some vw ∧ W7.frozen? ⟨r, 1, none⟩ = false ∧ RefAt (W7.setCell ⟨r, 1, none⟩ (.slice (some ⟨g', 0, none⟩) (S.W.length + 1) cap)) (More F w) r (S.put i s) ∧ Only F w (W7.setCell ⟨r, 1, none⟩ (.slice (some ⟨g', 0, none⟩) (S.W.length + 1) cap))) := Lib.hid (fun W7 g' cap hrow hgr hg hlt => by
    have o7 : Only (fun b => vw.ownBlock = some b) w W7 := ((Only.refl _ w).alloc _).trans (Only.of_grown hgr (fun k e => e)) (fun _ _ e => e)
    have br : W7.heap[r]? = w.heap[r]? := o7.block r hr1 (fun e => (hrb r e).2 rfl)
    have hne : g' ≠ r := hg.elim (fun e => (hrb g' e).2) (fun e e2 => by rw [e2] at e; omega)
    have hnl : (Value.slice (some ⟨gl, 0, none⟩) S.L.length cl).ownBlock ≠ some g' := fun e2 => hg.elim (fun e => (hR.bl g' e2).2.2 e) (fun e => by have := (hR.bl g' e2).1; omega)
    have hFg : More F w g' := hg.elim (fun e => .inl (hF3 g' e)) (fun e => .inr (by omega))
    have h7 := hR.pushW o7 (v := .slice (some ⟨g', 0, none⟩) (S.W.length + 1) cap) (T := S.put i s) rfl (by
      show W7.ownsRow 0 _ 2 _ (S.W ++ [(i, s)]).length (puts (S.W ++ [(i, s)]))
      rw [puts_push, List.length_append]; exact hrow) (fun b hb => by
        cases hb; exact ⟨hlt, hne, hnl⟩) rfl (hR.ok.put hi hs) rfl
    refine ⟨(World.cell?_of_block (a := ⟨r, 1, none⟩) br).trans c1, (World.frozen?_of_block (a := ⟨r, 1, none⟩) br).trans f1, ⟨_, _, a, m, h7, .inl hF1, fun b hb => .inl (hF2 b hb), fun b hb => ?_⟩, (o7.mono (fun b e => hF3 b e)).setCell ⟨r, 1, none⟩ hF1 _⟩
    cases hb; exact hFg)
  clear hR hF1 hF2 hF3 hr1 hrb
  rw [show S.write i s = (S.put i s).step from rfl]
  subst hvw
  generalize hn : S.W.length = n at *
  go_enter Try.func43, Try.ntmps43
  go_wp2_with (first
    | (refine wpList_append_lies _ rfl _ _ 37 rfl 0 75 i0 _ 2 24 Try.underlying37 hi0 hy0 hy1 hy2 rfl (by decide) (.slice pw n cw) n (puts S.W) rfl HROW.out ⟨w.heap.size, 0, none⟩ 1 1 (putc (i, s)) rfl rfl HNEW.out (fun u hu => by simp [putc] at hu; rcases hu with rfl | rfl <;> rfl) (by decide) (by unfold maxLen; omega) (by omega) (Nat.zero_le _) (w.heap.size + 1) (by simp) ?_; intro g' cap W7 hrow hgr hgl hlt7
       obtain ⟨c71, f71, hr8, ho8⟩ := HDONE.out W7 g' cap hrow hgr hgl hlt7
       have HR8 := Lib.hid hr8
       have HO8 := Lib.hid ho8
       clear hrow hgr hgl hlt7 hr8 ho8))
  clear c71 f71
  generalize World.setCell W7 _ _ = W8 at HR8 HO8 ⊢
  have C := ref_cut r (S.put i s) (More F w) W8 HR8.out hon (by show S.c + 1 ≤ 2 ^ 40; omega) hops
  refine C.mono ?_
  rintro e W9 ⟨rfl, hr9, ho9⟩
  have hs8 := HO8.out.size
  have HZ : Hid (RefAt W9 (More F w) r (S.put i s).step.1 ∧ Only F w W9) := Lib.hid ⟨hr9.mono (fun b hb => hb.elim id (fun e => .inr (Nat.le_trans hs8 e))), HO8.out.trans ho9 (fun b hb e => e.elim id (fun e => absurd hb (Nat.not_lt.2 e)))⟩
  clear C hr9 ho9 HR8 HO8
  cases hP : (S.put i s).step.2 with
  | false =>
    go_wp2
    go_ret
    exact ⟨by rw [hP]; rfl, HZ.out⟩
  | true =>
    go_wp2
    go_ret
    exact ⟨by rw [hP]; rfl, HZ.out⟩

end Go.Proofs.Ythddiijnomhpfaa.Dk
