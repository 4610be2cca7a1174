/- Rows of protos that grow beside the document's reader; steps of a drawn region whose runs are known. A byte at a place. The walks of chrysalisref08's letter, digit, blank, Key, word, Name: their contracts. The walks of chrysalisref08's word and Name: their contracts. No condition but those that each states. -/
import Derived.Test.YtmloljfnnkfkjaaDoorMgAZ
import Derived.Test.YtmloljfnnkfkjaaDoorMgAG
namespace Go.Proofs.YtmloljfnnkfkjaaDoor.Im
open Go.RowKit Dk In

theorem step_append_runI {P : Program} (w : World) {ops : Array Oper} {o : Oper} {a : Act} {K : Act → World → Prop} {Q : Exit → Act → World → Prop} {E : Prop} (hgd : o.guard = none) (s x : Operand) (t tn : TypeId)
    (ho : o.op = .call { callee := .builtin .append, args := #[s, x], argTypes := #[t, tn] }) (vs vx : Value) (hs : a.eval s = vs) (hx : a.eval x = vx)
    (v' : Value) (w' : World) (hr : (Builtin.append_ #[t, tn] o.type #[vs, vx]).run P w = .ok v' w') (h : K (a.put o.dst v') w') : if Region.wanted o (yielded ops a.tmps) = true then Oper.wp P o a w K Q else E := by
  have hw : Region.wanted o (yielded ops a.tmps) = true := by simp [Region.wanted, hgd]
  rw [if_pos hw]
  exact Lib.wp_append_run w s x t tn ho vs vx hs hx v' w' hr h

/-- Since w a reader reads; since wM a row v of protos l grows; the blocks of L are all of D. -/
structure LQ (Q : Rdr) (s : List UInt8) (w wM W : World) (D : List Nat) (L : List (Nat × List Value)) (v : Value) (l : List Pr) (k : Nat) (b : Bool) : Prop where
  rw : RW Q s w W L k b
  kp : Keeps (fun g => w.heap.size ≤ g ∧ g < wM.heap.size ∧ g ∉ D) wM W
  hw : w.heap.size ≤ wM.heap.size
  dl : ∀ g ∈ D, g < wM.heap.size
  pl : ∀ x ∈ L, x.1 ∈ D
  row : ∃ css, GR wM.heap.size 38 6 W v css ∧ Each (fun g => wM.heap.size ≤ g ∧ v.ownBlock ≠ some g) W css l
section
variable {Q : Rdr} {s : List UInt8} {w wM W W' : World} {D : List Nat} {L : List (Nat × List Value)} {v : Value} {l : List Pr} {k k' : Nat} {b b' : Bool}
theorem LQ.start (h : RW Q s w W L k b) (hL : ∀ x ∈ L, x.1 ∈ D) (hD : ∀ g ∈ D, g < W.heap.size) : LQ Q s w W W D L (.slice none 0 0) [] k b :=
  ⟨h, ⟨Nat.le_refl _, fun _ _ _ => rfl⟩, h.only.size, hD, hL, [], GR.nil _ _ _ _, Each.nil _ _⟩
theorem LQ.drew (h : LQ Q s w wM W D L v l k b) : LQ Q s w wM W.drew D L v l k b := by
  have hb : Below W.heap.size W W.drew := (Below.refl _ _).drew
  obtain ⟨css, h1, h2⟩ := h.row
  exact ⟨h.rw.drew, h.kp.trans (.of hb), h.hw, h.dl, h.pl, css, h1.keep (fun g hg => hb.block g (own_lo h1 g hg).2), h2.later hb⟩
theorem LQ.step {r : Rd Pr} {e : Ending} {u : Value} {x : Pr} (h : LQ Q s w wM W D L v l k b) (ho : RdOk Q s r prR W k b e W' u x k' b') (hn : l.length ≤ 65536) :
    ∃ (cs : List Value) (q cap : Nat) (W7 : World), u = .agg cs.toArray ∧ (∃ (a : ByteArray) (u1 u2 : Int) (p3 p4 p5 : Option Addr) (n3 n4 n5 c3 c4 c5 : Nat), cs = [.string a, .int .i64 u1, .int .i64 u2, .slice p3 n3 c3, .slice p4 n4 c4, .slice p5 n5 c5]) ∧ (Builtin.append_ #[23, 23] 23 #[v, .slice (some ⟨W'.heap.size, 0, none⟩) 1 1]).run Tryd.prog (W'.alloc (.cells cs.toArray 38)) = .ok (.slice (some ⟨q, 0, none⟩) (l.length + 1) cap) W7 ∧
      LQ Q s w wM W7 D L (.slice (some ⟨q, 0, none⟩) (l.length + 1) cap) (l ++ [x]) k' b' := by
  obtain ⟨css, hG, hE⟩ := h.row
  obtain ⟨cs, rfl, hpc⟩ := ho.rep
  have hlow := h.rw.low
  have hw := h.hw
  have hM := h.kp.size
  have hlt : ∀ g, v.ownBlock = some g → wM.heap.size ≤ g ∧ g < W.heap.size := fun g hg => own_lo hG g hg
  have hF : ∀ g, w.heap.size ≤ g → ¬Q.F g := fun g hg hf => by have := Q.lt g hf; omega
  have hG4 := hG.keep (W' := W') (fun g hg => ho.only.block g (hlt g hg).2 (hF g (by have := (hlt g hg).1; omega)))
  have hE4 := hE.keep (W' := W') ⟨ho.only.size, fun g hg hgl => ho.only.block g hgl (hF g (by have := hg.1; omega))⟩
  have hE5 := hE4.push (hpc.weaken (Y := fun g => wM.heap.size ≤ g ∧ v.ownBlock ≠ some g) (fun g hg _ => ⟨Nat.le_trans hM hg, fun e => by have := (hlt g e).2; have hg' : W.heap.size ≤ g := hg; omega⟩))
  obtain ⟨q, cap, W7, hrun, hG7, hO7, hq7⟩ := app_pr hG4 (Nat.le_trans hM ho.only.size) hpc.len (pc_ones hpc) (by rw [hE.len]; exact hn)
  rw [hE.len] at hrun hG7
  have hE6 := (hE5.weaken (Y := fun g => (wM.heap.size ≤ g ∧ v.ownBlock ≠ some g) ∧ g < W'.heap.size) (fun g hg hgl => ⟨hg, hgl⟩)).keep (W' := W7) ⟨hO7.size, fun g hg hgl => hO7.block g hgl (fun hf => hg.1.2 hf)⟩
  have hform : ∃ (a : ByteArray) (u1 u2 : Int) (p3 p4 p5 : Option Addr) (n3 n4 n5 c3 c4 c5 : Nat), cs = [.string a, .int .i64 u1, .int .i64 u2, .slice p3 n3 c3, .slice p4 n4 c4, .slice p5 n5 c5] := by
    obtain ⟨vc, vk, vp, e, r1, r2, r3⟩ := hpc
    obtain ⟨p3, c3, e3⟩ := Row.form r1
    obtain ⟨p4, c4, e4⟩ := Row.form r2
    obtain ⟨p5, c5, e5⟩ := Row.form r3
    exact ⟨_, _, _, p3, p4, p5, _, _, _, c3, c4, c5, by rw [e, e3, e4, e5]⟩
  refine ⟨cs, q, cap, W7, rfl, hform, hrun, (h.rw.ok ho).aside (B := wM.heap.size) hO7 (fun i hi => (hlt i hi).1) h.hw (fun y hy => h.dl _ (h.pl y hy)), ?_, h.hw, h.dl, h.pl, css ++ [cs], ?_, ?_⟩
  · exact (h.kp.trans ⟨ho.only.size, fun g hg hl => ho.only.block g hl (hF g hg.1)⟩).trans ⟨hO7.size, fun g hg hl => hO7.block g hl (fun e => by have := (hlt g e).1; have := hg.2.1; omega)⟩
  · have e : (css ++ [cs]).length = l.length + 1 := by rw [List.length_append, hE.len]; rfl
    unfold GR at hG7 ⊢
    rw [e] at hG7 ⊢
    exact hG7
  · refine hE6.weaken (fun g hg _ => ⟨hg.1.1, fun e => ?_⟩)
    have e' : q = g := by cases e; rfl
    subst e'
    rcases hq7 with h7 | h7
    · exact hg.1.2 h7
    · have := hg.2; omega
theorem LQ.setOne {g : Nat} {c0 : List Value} (h : LQ Q s w wM W D ((g, c0) :: L) v l k b) (j : Nat) (u : Value) (hj : j < c0.length) : LQ Q s w wM (W.setCell ⟨g, j, none⟩ u) D ((g, c0.set j u) :: L) v l k b := by
  have hg := h.pl (g, c0) (List.mem_cons_self ..)
  have hgM := h.dl _ hg
  obtain ⟨css, h1, h2⟩ := h.row
  have hh : ∀ i, i ≠ g → (W.setCell ⟨g, j, none⟩ u).heap[i]? = W.heap[i]? := fun i hi => Below.heap_setCell _ _ _ _ (by simpa using hi)
  have hs : (W.setCell ⟨g, j, none⟩ u).heap.size = W.heap.size := by simp
  refine ⟨h.rw.setOne j u hj, h.kp.trans ⟨by omega, fun i hi _ => hh i (fun e => hi.2.2 (by rw [e]; exact hg))⟩, h.hw, h.dl, fun x hx => ?_, css, h1.keep (fun i hi => hh i (fun e => ?_)), h2.keep ⟨by omega, fun i hi _ => hh i (fun e => ?_)⟩⟩
  · rcases List.mem_cons.1 hx with rfl | hx
    · exact hg
    · exact h.pl x (List.mem_cons_of_mem _ hx)
  · have := (own_lo h1 i hi).1; simp only at hgM; omega
  · have := hi.1; simp only at hgM; omega
theorem LQ.prow (h : LQ Q s w wM W D L v l k b) : PRow (fun g => w.heap.size ≤ g ∧ g ∉ D) W v l := by
  obtain ⟨css, h1, h2⟩ := h.row
  have hw := h.hw
  have hX : ∀ g, wM.heap.size ≤ g → w.heap.size ≤ g ∧ g ∉ D := fun g hg => ⟨by omega, fun hd => by have := h.dl g hd; omega⟩
  exact ⟨css, h1.row.weaken (fun g hg _ => hX g hg), h2.weaken (fun g hg _ => hX g hg.1)⟩
theorem LQ.old {β : Type} {c' : β → List Value} {u : Value} {m : List β} (h : LQ Q s w wM W D L v l k b) (hr : Rw c' (fun g => w.heap.size ≤ g ∧ g ∉ D) wM u m) : Rw c' (fun g => w.heap.size ≤ g ∧ g ∉ D) W u m :=
  Rw.weaken (Rw.keep (Rw.weaken hr (Y := fun g => w.heap.size ≤ g ∧ g < wM.heap.size ∧ g ∉ D) (fun _g hg hl => ⟨hg.1, hl, hg.2⟩)) h.kp) (fun _g hg _ => ⟨hg.1, hg.2.2⟩)
end
end Go.Proofs.YtmloljfnnkfkjaaDoor.Im

namespace Go.Proofs.YtmloljfnnkfkjaaDoor.Lx
open Go.RowKit Dk
theorem byte_at {P : Program} (s : ByteArray) (a : Nat) (c : UInt8) (r : List UInt8) (hl : from' s a = c :: r) (t : TypeId) (ht : P.underlying t = some .string) (W : World) : (Instr.index t (.string s) (.int .i64 (a : Int))).run P W = .ok (.int .u8 (c.toNat : Int)) W := by
  have hlen := from_length s a
  rw [hl] at hlen
  simp at hlen
  have ha : a < s.size := by omega
  have h1 : s[a]'ha = c := by
    have h2 : s.data.toList[a]'(by simpa using ha) = c := by
      have := List.drop_eq_getElem_cons (i := a) (l := s.data.toList) (by simpa using ha)
      unfold from' at hl
      rw [hl] at this
      exact ((List.cons.inj this).1).symm
    rw [← h2]; rfl
  have g1 : (0 : Int) ≤ (a : Int) := by omega
  have g2 : (a : Int) < (s.size : Int) := by omega
  rw [← h1]
  go_simp
end Go.Proofs.YtmloljfnnkfkjaaDoor.Lx

namespace Go.Proofs.YtmloljfnnkfkjaaDoor.Lx
open Go.RowKit Dk
set_option maxHeartbeats 400000 in
theorem rletter_any (r : Int) (w : World) : Calls Tryd.prog 91 #[.int .u8 r] w fun e w' => e = .returned (.bool (rL r)) ∧ w = w' := by
  rcases (show r < 97 ∨ (97 ≤ r ∧ r ≤ 122) ∨ 122 < r by omega) with h | ⟨h, h'⟩ | h
  all_goals
    go_enter Tryd.func91, Tryd.ntmps91
    go_wp2
    go_ret
    refine ⟨?_, rfl⟩
    congr 2
    unfold rL
    simp
    omega
set_option maxHeartbeats 400000 in
theorem rdigit_any (r : Int) (w : World) : Calls Tryd.prog 92 #[.int .u8 r] w fun e w' => e = .returned (.bool (rD r)) ∧ w = w' := by
  rcases (show r < 48 ∨ (48 ≤ r ∧ r ≤ 57) ∨ 57 < r by omega) with h | ⟨h, h'⟩ | h
  all_goals
    go_enter Tryd.func92, Tryd.ntmps92
    go_wp2
    go_ret
    refine ⟨?_, rfl⟩
    congr 2
    unfold rD
    simp
    omega
theorem row_strings (w : World) (ks : List (List UInt8)) (t : TypeId) (j : Nat) (k : List UInt8) (h : ks[j]? = some k) : (w.alloc (.cells (ks.map fun l => Value.string (strOf l)).toArray t)).cell? ⟨w.heap.size, j, none⟩ = some (.string (strOf k)) := by
  rw [World.cell?_alloc_mark]
  simp [h]
set_option maxHeartbeats 1000000 in
theorem rkey_any (l : List UInt8) (w : World) : Calls Tryd.prog 66 #[.string (strOf l)] w fun e w' => e = .returned (.bool (isKey l)) ∧ Below w.heap.size w w' := by
  have HB : Hid (Below w.heap.size w (w.alloc (.cells (keyList.map fun l => Value.string (strOf l)).toArray 9))) := Lib.hid ((Below.refl _ _).alloc (Nat.le_refl _) _)
  have HC := Lib.hid (fun j k h => row_strings w keyList 9 j k h)
  have HK := Lib.hid (isKey_iff l)
  go_enter Tryd.func66, Tryd.ntmps66
  go_wp2
  obtain ⟨W1, hW⟩ : ∃ W1, W1 = w.alloc (.cells (keyList.map fun l => Value.string (strOf l)).toArray 9) := ⟨_, rfl⟩
  rw [← hW] at HB HC
  go_loopw [4] (fun vi wr => ∃ j : Nat, j ≤ 20 ∧ vi = .int .i64 (j : Int) ∧ wr = W1 ∧ Hid (l ∉ keyList.take j)) (fun vi _ => 20 - (intOf vi).toNat)
  case atStart => exact ⟨0, Nat.zero_le _, rfl, hW.symm, Lib.hid (by simp)⟩
  case round =>
    obtain ⟨j, hj, rfl, rfl, hn⟩ := hrel
    by_cases hlt : j < 20
    · obtain ⟨k, hk⟩ : ∃ k, keyList[j]? = some k := ⟨_, List.getElem?_eq_getElem (by show j < 20; exact hlt)⟩
      have c := HC.out j k hk
      have hb := str_beq k l
      have z0 : (0 : Int) ≤ (j : Int) := by omega
      have z1 : (j : Int) < 20 := by omega
      by_cases he : k = l
      · have HT : Hid (isKey l = true) := Lib.hid (HK.out.2 (by rw [← he]; exact List.mem_of_getElem? hk))
        rw [decide_eq_true he] at hb
        generalize strOf k = y at *
        generalize strOf l = z at *
        clear he hk hW
        go_wp2
        go_ret
        exact ⟨by rw [HT.out]; rfl, HB.out⟩
      · have HN : Hid (l ∉ keyList.take (j + 1)) := Lib.hid (by
          have e := List.getElem?_eq_some_iff.1 hk
          obtain ⟨h1, h2⟩ := e
          rw [List.take_succ_eq_append_getElem h1, List.mem_append]
          rintro (h | h)
          · exact hn.out h
          · rw [List.mem_singleton, h2] at h; exact he h.symm)
        rw [decide_eq_false he] at hb
        generalize strOf k = y at *
        generalize strOf l = z at *
        clear he hk hW hn
        go_wp2
        go_roundw
        case rel => exact ⟨j + 1, by omega, by go_num, by trivial, HN⟩
        case measure => simp [intOf]; omega
    · obtain rfl : j = 20 := by omega
      have HF : Hid (isKey l = false) := Lib.hid (by
        cases h : isKey l with
        | false => rfl
        | true => exact absurd (HK.out.1 h) hn.out)
      clear hW hn
      go_wp2
      go_ret
      exact ⟨by rw [HF.out]; rfl, HB.out⟩
/-- How many bytes of a word stand there. -/
def wordN (L : List UInt8) : Nat := match L with
  | [] => 0
  | c :: r => if isL c then spanN isW (c :: r) else 0
end Go.Proofs.YtmloljfnnkfkjaaDoor.Lx

namespace Go.Proofs.YtmloljfnnkfkjaaDoor.Lx
open Go.RowKit Dk
/-- A byte at a place, and the rest. -/
theorem from_split (s : ByteArray) (a n : Nat) (h : a + n < s.size) : ∃ c r, (from' s a).drop n = c :: r ∧ from' s (a + n) = c :: r ∧ (from' s a).drop (n + 1) = r := by
  cases hd : (from' s a).drop n with
  | nil =>
    have := congrArg List.length hd
    rw [List.length_drop, from_length] at this
    simp at this
    omega
  | cons c r =>
    refine ⟨c, r, rfl, by rw [← from_drop, hd], ?_⟩
    rw [show n + 1 = n + 1 from rfl, ← List.drop_drop, hd]; rfl
theorem byte_sum {P : Program} (s : ByteArray) (a n : Nat) (c : UInt8) (r : List UInt8) (hl : from' s (a + n) = c :: r) (t : TypeId) (ht : P.underlying t = some .string) (W : World) : (Instr.index t (.string s) (.int .i64 ((a : Int) + (n : Int)))).run P W = .ok (.int .u8 (c.toNat : Int)) W := by
  have := byte_at (P := P) s (a + n) c r hl t ht W
  rwa [Int.natCast_add] at this
theorem rW_parts (x : Int) : rW x = (rL x || (rD x || decide (x = 95))) := by unfold rW; rw [Bool.or_assoc]
set_option maxHeartbeats 2000000 in
theorem word_any (s : ByteArray) (a : Nat) (w : World) (ha : a ≤ s.size) (hs : s.size ≤ 2 ^ 40) :
    Calls Tryd.prog 65 #[.string s, .int .i64 (a : Int)] w fun e w' => e = .returned (.int .i64 ((wordN (from' s a) : Nat) : Int)) ∧ w = w' := by
  have hlen := from_length s a
  go_enter Tryd.func65, Tryd.ntmps65
  go_wp2
  go_loopw [5] (fun vi wr => ∃ n : Nat, a + n ≤ s.size ∧ vi = .int .i64 (n : Int) ∧ wr = w ∧ Hid (n = 0 ∨ wordN (from' s a) = n + spanN isW ((from' s a).drop n))) (fun vi _ => s.size - (intOf vi).toNat)
  case atStart => exact ⟨0, ha, rfl, rfl, Lib.hid (.inl rfl)⟩
  case round =>
    obtain ⟨n, hn, rfl, rfl, hS⟩ := hrel
    have e1 : IntKind.i64.wrap ((a : Int) + (n : Int)) = (a : Int) + (n : Int) := IntWalk.i64_in _ (by omega)
    by_cases hlt : a + n < s.size
    · obtain ⟨c, r, h1, h2, h3⟩ := from_split s a n hlt
      have hix := fun W => byte_sum (P := Tryd.prog) s a n c r h2 9 Tryd.underlying9 W
      have CL := Lib.hid (fun W => rletter_any (c.toNat : Int) W)
      have CD := Lib.hid (fun W => rdigit_any (c.toNat : Int) W)
      have hlt' : (a : Int) + (n : Int) < (s.size : Int) := by omega
      have HW : Hid (∀ m : Nat, isW c = true → (n = 0 → isL c = true) → (n + 1 = 0 ∨ wordN (from' s a) = (n + 1 : Nat) + spanN isW ((from' s a).drop (n + 1)))) := Lib.hid (fun _ hw hz => by
        refine .inr ?_
        have hsp : spanN isW (c :: r) = spanN isW r + 1 := by rw [spanN, if_pos hw]
        rcases hS.out with h0 | h0
        · subst h0
          rw [List.drop_zero] at h1
          rw [h3, h1]
          show (if isL c = true then spanN isW (c :: r) else 0) = _
          rw [if_pos (hz rfl), hsp]; omega
        · rw [h0, h1, h3, hsp]; omega)
      have HE0 : Hid (n = 0 → isL c = false → wordN (from' s a) = 0) := Lib.hid (fun h0 hl => by
        subst h0
        rw [List.drop_zero] at h1
        rw [h1]
        show (if isL c = true then _ else 0) = _
        rw [if_neg (by rw [hl]; exact Bool.false_ne_true)])
      have HE1 : Hid (n ≠ 0 → isW c = false → wordN (from' s a) = n) := Lib.hid (fun h0 hl => by
        rcases hS.out with h4 | h4
        · exact absurd h4 h0
        · rw [h4, h1, spanN, if_neg (by rw [hl]; exact Bool.false_ne_true)]; rfl)
      clear h1 h2 h3 hS
      have ARM : True := trivial
      cases hl : rL (c.toNat : Int) with
      | true =>
        have HN := Lib.hid (HW.out 0 (isL_W hl) (fun _ => hl))
        rw [hl] at CL
        clear hl
        go_wp2_with (go_at_call 91; refine (CL.out _).mono ?_; rintro e w' ⟨rfl, rfl⟩)
        go_roundw
        case rel => exact ⟨n + 1, by omega, by go_num, by trivial, HN⟩
        case measure => simp [intOf]; omega
      | false =>
        have HL : Hid (isL c = false) := Lib.hid hl
        have hwp := rW_parts (c.toNat : Int)
        rw [hl, Bool.false_or] at hwp
        rw [hl] at CL
        clear hl
        by_cases h0 : n = 0
        · have HF := Lib.hid (HE0.out h0 HL.out)
          have h0' : ¬(n : Int) > 0 := by omega
          clear hwp h0
          go_wp2_with (go_at_call 91; refine (CL.out _).mono ?_; rintro e w' ⟨rfl, rfl⟩)
          go_ret
          exact ⟨by rw [HF.out]; have : n = 0 := by omega
                    subst this; rfl, rfl⟩
        · have h0' : (n : Int) > 0 := by omega
          cases hd : rD (c.toNat : Int) with
          | true =>
            rw [hd, Bool.true_or] at hwp
            have HN := Lib.hid (HW.out 0 hwp (fun h => absurd h h0))
            rw [hd] at CD
            clear hd hwp
            go_wp2_with (first
              | (go_at_call 91; refine (CL.out _).mono ?_; rintro e w' ⟨rfl, rfl⟩)
              | (go_at_call 92; refine (CD.out _).mono ?_; rintro e w' ⟨rfl, rfl⟩))
            go_roundw
            case rel => exact ⟨n + 1, by omega, by go_num, by trivial, HN⟩
            case measure => simp [intOf]; omega
          | false =>
            rw [hd, Bool.false_or] at hwp
            rw [hd] at CD
            clear hd
            by_cases h95 : (c.toNat : Int) = 95
            · rw [decide_eq_true h95] at hwp
              have HN := Lib.hid (HW.out 0 hwp (fun h => absurd h h0))
              have v1 : ((c.toNat : Int) == 95) = true := by simpa using h95
              generalize (c.toNat : Int) = x at *
              clear hwp h95
              go_wp2_with (first
                | (go_at_call 91; refine (CL.out _).mono ?_; rintro e w' ⟨rfl, rfl⟩)
                | (go_at_call 92; refine (CD.out _).mono ?_; rintro e w' ⟨rfl, rfl⟩))
              go_roundw
              case rel => exact ⟨n + 1, by omega, by go_num, by trivial, HN⟩
              case measure => simp [intOf]; omega
            · rw [decide_eq_false h95] at hwp
              have HF := Lib.hid (HE1.out h0 hwp)
              have v1 : ((c.toNat : Int) == 95) = false := by simpa using h95
              generalize (c.toNat : Int) = x at *
              clear hwp h95
              go_wp2_with (first
                | (go_at_call 91; refine (CL.out _).mono ?_; rintro e w' ⟨rfl, rfl⟩)
                | (go_at_call 92; refine (CD.out _).mono ?_; rintro e w' ⟨rfl, rfl⟩))
              go_ret
              exact ⟨by rw [HF.out]; rfl, rfl⟩
    · have hge : ¬(a : Int) + (n : Int) < (s.size : Int) := by omega
      have HF : Hid (wordN (from' s a) = n) := Lib.hid (by
        have hd : (from' s a).drop n = [] := List.drop_eq_nil_of_le (by omega)
        rcases hS.out with h0 | h0
        · subst h0
          rw [List.drop_zero] at hd
          rw [hd]; rfl
        · rw [h0, hd]; rfl)
      clear hS
      go_wp2
      go_ret
      exact ⟨by rw [HF.out]; rfl, rfl⟩
theorem isName_word (l : List UInt8) : isName l = (decide (0 < l.length) && decide (l.length ≤ 16) && decide (wordN l = l.length) && !isKey l) := by
  cases l with
  | nil => rfl
  | cons c r =>
    rw [isName_cons]
    cases h : isL c with
    | true =>
      have e : wordN (c :: r) = spanN isW (c :: r) := if_pos h
      rw [e]
      simp
    | false =>
      have e : wordN (c :: r) = 0 := if_neg (by rw [h]; exact Bool.false_ne_true)
      rw [e]
      simp
set_option maxHeartbeats 1000000 in
theorem rname_any (l : List UInt8) (w : World) (hs : l.length ≤ 2 ^ 40) : Calls Tryd.prog 35 #[.string (strOf l)] w fun e w' => e = .returned (.bool (isName l)) ∧ Below w.heap.size w w' := by
  have hsz := strOf_size l
  have CW : Hid (∀ W, Calls Tryd.prog 65 #[.string (strOf l), .int .i64 0] W fun e w' => e = .returned (.int .i64 ((wordN l : Nat) : Int)) ∧ W = w') := Lib.hid (fun W => by
    have := word_any (strOf l) 0 W (Nat.zero_le _) (by omega)
    rw [show from' (strOf l) 0 = l by simp [from', strOf]] at this
    exact this)
  have CK := Lib.hid (fun W => rkey_any l W)
  have HN := Lib.hid (isName_word l)
  generalize isName l = N at *
  generalize l.length = m at *
  generalize wordN l = n at *
  generalize isKey l = K at *
  generalize strOf l = s at *
  by_cases h0 : 0 < m
  · by_cases h16 : m ≤ 16
    · by_cases hn : n = m
      · have HF : Hid (N = !K) := Lib.hid (by rw [HN.out]; simp [h0, h16, hn])
        subst hn
        cases K
        all_goals
          go_enter Tryd.func35, Tryd.ntmps35
          go_wp2_with (first
            | (go_at_call 65; refine (CW.out _).mono ?_; rintro e w' ⟨rfl, rfl⟩)
            | (go_at_call 66; refine (CK.out _).mono ?_; rintro e w' ⟨rfl, hb⟩; have HB := Lib.hid hb; clear hb))
          go_ret
          exact ⟨by rw [HF.out]; rfl, HB.out⟩
      · have HF : Hid (N = false) := Lib.hid (by rw [HN.out]; simp [hn])
        have hnm : ((n : Int) == (m : Int)) = false := by simp; omega
        go_enter Tryd.func35, Tryd.ntmps35
        go_wp2_with (go_at_call 65; refine (CW.out _).mono ?_; rintro e w' ⟨rfl, rfl⟩)
        go_ret
        exact ⟨by rw [HF.out]; rfl, Below.refl _ _⟩
    · have HF : Hid (N = false) := Lib.hid (by rw [HN.out]; simp [h16])
      go_enter Tryd.func35, Tryd.ntmps35
      go_wp2
      go_ret
      exact ⟨by rw [HF.out]; rfl, Below.refl _ _⟩
  · have HF : Hid (N = false) := Lib.hid (by rw [HN.out]; simp [h0])
    go_enter Tryd.func35, Tryd.ntmps35
    go_wp2
    go_ret
    exact ⟨by rw [HF.out]; rfl, Below.refl _ _⟩
end Go.Proofs.YtmloljfnnkfkjaaDoor.Lx

