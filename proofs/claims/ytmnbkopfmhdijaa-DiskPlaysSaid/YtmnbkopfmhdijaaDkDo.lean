/- The walk of does: what an operation does to both disks. No condition but those that each states. -/
import Derived.Test.YtmnbkopfmhdijaaDkT
import Derived.Test.YtmnbkopfmhdijaaDkRw
import Derived.Test.YtmnbkopfmhdijaaDkQ
namespace Go.Proofs.Ytmnbkopfmhdijaa.Dk
open Go.RowKit

/-- What an operation makes of a state. -/
def DS.doL (S : DS) (o : OpV) : DS :=
  if o.kind = 0 then (S.wr o.i (whatV o)).1 else if o.kind = 1 then S.sy.1 else if o.kind = 3 then (S.cu o.i o.mask).1 else if o.kind = 4 then S.fail o.mask else if o.kind = 5 then S.start else S

theorem doL_few (S : DS) (o : OpV) : (S.doL o).c ≤ S.c + 1 ∧ (S.doL o).ops ≤ S.ops + 1 := by
  have h1 := wr_few S o.i (whatV o)
  have h2 := sy_few S
  have h3 := cu_few S o.i o.mask
  have h4 := fail_few S o.mask
  unfold DS.doL
  repeat' split
  all_goals first | exact h1 | omega | exact ⟨by omega, by omega⟩ | exact ⟨Nat.le_succ _, Nat.le_succ _⟩

/-- An operation lies in block A. -/
structure OAt (W : World) (A : Nat) (kind i : Int) (c : Nat) (s : ByteArray) (odd : Bool) (mask : Nat) : Prop where
  c0 : W.cell? ⟨A, 0, none⟩ = some (.int .i64 kind)
  c1 : W.cell? ⟨A, 1, none⟩ = some (.int .i64 i)
  c2 : W.cell? ⟨A, 2, none⟩ = some (.int .u8 (c : Int))
  c3 : W.cell? ⟨A, 3, none⟩ = some (.string s)
  c4 : W.cell? ⟨A, 4, none⟩ = some (.bool odd)
  c5 : W.cell? ⟨A, 5, none⟩ = some (.int .u64 (mask : Int))
  lt : A < W.heap.size

section
variable {W W' : World} {A : Nat} {kind i : Int} {c : Nat} {s : ByteArray} {odd : Bool} {mask : Nat}
theorem OAt.of_block (h : OAt W A kind i c s odd mask) (hb : W'.heap[A]? = W.heap[A]?) (hs : W.heap.size ≤ W'.heap.size) : OAt W' A kind i c s odd mask :=
  have e : ∀ o, W'.cell? ⟨A, o, none⟩ = W.cell? ⟨A, o, none⟩ := fun o => World.cell?_of_block (a := ⟨A, o, none⟩) hb
  ⟨(e _).trans h.c0, (e _).trans h.c1, (e _).trans h.c2, (e _).trans h.c3, (e _).trans h.c4, (e _).trans h.c5, Nat.lt_of_lt_of_le h.lt hs⟩
/-- The cells, one by one. -/
def OAll (W : World) (A : Nat) (kind i : Int) (c : Nat) (s : ByteArray) (odd : Bool) (mask : Nat) : Prop :=
  W.cell? ⟨A, 0, none⟩ = some (.int .i64 kind) ∧ W.cell? ⟨A, 1, none⟩ = some (.int .i64 i) ∧ W.cell? ⟨A, 2, none⟩ = some (.int .u8 (c : Int)) ∧ W.cell? ⟨A, 3, none⟩ = some (.string s) ∧ W.cell? ⟨A, 4, none⟩ = some (.bool odd) ∧ W.cell? ⟨A, 5, none⟩ = some (.int .u64 (mask : Int)) ∧ OAt W A kind i c s odd mask
theorem OAt.all (h : OAt W A kind i c s odd mask) : OAll W A kind i c s odd mask := ⟨h.c0, h.c1, h.c2, h.c3, h.c4, h.c5, h⟩
theorem oall_later (hb : Below W.heap.size W W') (h : OAll W A kind i c s odd mask) : OAll W' A kind i c s odd mask := (h.2.2.2.2.2.2.of_block (hb.block A h.2.2.2.2.2.2.lt) hb.size).all
theorem oall_only {P : Nat → Prop} (hb : Only (fun k => ¬(P k ∨ k = A)) W W') (h : OAll W A kind i c s odd mask) : OAll W' A kind i c s odd mask := (h.2.2.2.2.2.2.of_block (hb.block A h.2.2.2.2.2.2.lt (fun e => e (.inr rfl))) hb.size).all
end

theorem oAt_new (w : World) (o : OpV) (t : TypeId) : OAt (w.alloc (.cells o.cells.toArray t)) w.heap.size o.kind o.i o.c o.s o.odd o.mask := by
  have hr := range_new w o.cells t
  have hc : ∀ j v, o.cells[j]? = some v → (w.alloc (.cells o.cells.toArray t)).cell? ⟨w.heap.size, j, none⟩ = some v := fun j v hv => by
    have := hr j v hv; rwa [Nat.zero_add] at this
  exact ⟨hc 0 _ rfl, hc 1 _ rfl, hc 2 _ rfl, hc 3 _ rfl, hc 4 _ rfl, hc 5 _ rfl, by simp⟩

/-- A disk's copy beside the disk itself, which goes its own way. -/
def Old (w0 w : World) (P : Nat → Prop) (k g r : Nat) (T0 T : DS) : Prop := ∃ D : Nat → Prop, Pair w0 w (fun i => P i ∨ D i) k r T T ∧ DiskAt w D g T0 ∧ ∀ i, D i → w0.heap.size ≤ i

section
variable {w0 w w' : World} {P : Nat → Prop} {k g r : Nat} {T0 T1 T : DS}
theorem Pair.copyD (h : Pair w0 w P g r T T) (hc : T.c ≤ 2 ^ 40) :
    Calls Try.prog 23 #[.pointer (some ⟨g, 0, none⟩)] w fun e w' => e = .returned (.pointer (some ⟨w.heap.size, 0, none⟩)) ∧ Old w0 w' P w.heap.size g r T T := by
  obtain ⟨F, G, h, hp⟩ := h
  refine (copy_at g T F w h.d hc).mono fun e w' ⟨he, hd, hb⟩ => ⟨he, F, ⟨fun i => w.heap.size ≤ i ∧ i < w'.heap.size, G, ⟨hd.tight, h.r.below hb, fun i hf hg => absurd (h.lg i hg).2 (Nat.not_lt.2 hf.1), fun i hi => ⟨Nat.le_trans h.below.size hi.1, hi.2⟩, fun i hi => ⟨(h.lg i hi).1, Nat.lt_of_lt_of_le (h.lg i hi).2 hb.size⟩, chain2 h.below hb⟩, fun i hi => ?_⟩, h.d.below hb, fun i hi => (h.lf i hi).1⟩
  have hlt : i < w.heap.size := hi.elim (fun e => (hp i e).1) (fun e => (h.lf i e).2)
  exact ⟨Nat.lt_of_lt_of_le hlt hb.size, fun e => absurd hlt (Nat.not_lt.2 e.1), hi.elim (fun e => (hp i e).2.2) (fun e => h.ap i e)⟩
theorem Old.later (h : Old w0 w P k g r T0 T) (hb : Below w.heap.size w w') : Old w0 w' P k g r T0 T := by
  obtain ⟨D, h1, h2, h3⟩ := h; exact ⟨D, h1.later hb, h2.below hb, h3⟩
theorem Old.step {f : Nat} {args : Array Value} {Ans : Ending → Prop} (h : Old w0 w P k g r T0 T) (C : ∀ F, DiskAt w F g T0 → Calls Try.prog f args w fun e w' => Ans e ∧ DiskAt w' (More F w) g T1 ∧ Only F w w') :
    Calls Try.prog f args w fun e w' => Ans e ∧ Old w0 w' P k g r T1 T := by
  obtain ⟨D, ⟨F, G, h, hp⟩, h2, h3⟩ := h
  refine (C D h2).mono fun e w' ⟨ha, hd, ho⟩ => ⟨ha, fun i => More D w i ∧ i < w'.heap.size, ⟨F, G, ⟨h.d.kept ho (fun i h1 h2 => (hp i (.inr h2)).2.1 h1), h.r.kept ho (fun i h1 h2 => (hp i (.inr h2)).2.2 h1), h.ap, fun i hi => ⟨(h.lf i hi).1, Nat.lt_of_lt_of_le (h.lf i hi).2 ho.size⟩, fun i hi => ⟨(h.lg i hi).1, Nat.lt_of_lt_of_le (h.lg i hi).2 ho.size⟩, ho.below h.below h3 (Nat.le_refl _)⟩, fun i hi => ?_⟩, hd.tight, fun i hi => hi.1.elim (h3 i) (fun e => Nat.le_trans h.below.size e)⟩
  rcases hi with e | ⟨e | e, e2⟩
  · have := hp i (.inl e); exact ⟨Nat.lt_of_lt_of_le this.1 ho.size, this.2⟩
  · have := hp i (.inr e); exact ⟨Nat.lt_of_lt_of_le this.1 ho.size, this.2⟩
  · exact ⟨e2, fun hf => absurd (h.lf i hf).2 (Nat.not_lt.2 e), fun hg => absurd (h.lg i hg).2 (Nat.not_lt.2 e)⟩
theorem Old.pair (h : Old w0 w P k g r T0 T) : Pair w0 w P k r T T := by
  obtain ⟨D, h1, -⟩ := h; exact h1.less (fun i hi => .inl hi)
end

set_option maxHeartbeats 4000000 in
set_option maxRecDepth 100000 in
theorem does_any {w0 w : World} {P : Nat → Prop} {g r : Nat} {S : DS} (o : OpV) (ho : o.Ok) (h : Pair w0 w P g r S S) (hc : S.c < 2 ^ 39) (hops : S.ops < 2 ^ 39) :
    Calls Try.prog 9 #[.pointer (some ⟨g, 0, none⟩), .pointer (some ⟨r, 0, none⟩), .agg o.cells.toArray] w fun e w' => ∃ g', e = .returned (.tuple #[.pointer (some ⟨g', 0, none⟩), .bool true]) ∧ Pair w0 w' P g' r (S.doL o) (S.doL o) := by
  have HH0 := Lib.hid h
  have hoa := oAt_new w o 34
  have hp1 : Pair w0 (w.alloc (.cells o.cells.toArray 34)) (fun k => P k ∨ k = w.heap.size) g r S S := h.fresh ((Below.refl _ _).alloc (Nat.le_refl _) _) (fun i hi => ⟨Nat.le_of_eq hi.symm, by subst hi; simp⟩)
  have CW := fun W => what_any o ho.c W
  have hwd : DS.doL S o = DS.doL S o := rfl
  have HO := Lib.hid ho
  obtain ⟨kind, i, c, s, odd, mask⟩ := o
  replace hoa : OAt _ w.heap.size kind i c s odd mask := hoa
  have hfit : (Lit.int .i64 i).wf = true := HO.out.i
  have hi63 := wf_i64 hfit
  have hmask : mask < 2 ^ 64 := HO.out.mask
  generalize hX : whatV ⟨kind, i, c, s, odd, mask⟩ = X at CW
  replace CW : ∀ W, Calls Try.prog 25 #[.agg #[.int .i64 kind, .int .i64 i, .int .u8 (c : Int), .string s, .bool odd, .int .u64 (mask : Int)]] W fun e w' => e = .returned (.string X) ∧ Below W.heap.size W w' := CW
  have cw := Lib.hid CW
  show Calls _ _ #[_, _, .agg #[.int .i64 kind, .int .i64 i, .int .u8 (c : Int), .string s, .bool odd, .int .u64 (mask : Int)]] w _
  replace hp1 : Pair w0 (w.alloc (.cells #[.int .i64 kind, .int .i64 i, .int .u8 (c : Int), .string s, .bool odd, .int .u64 (mask : Int)] 34)) (fun k => P k ∨ k = w.heap.size) g r S S := hp1
  replace hoa : OAt (w.alloc (.cells #[.int .i64 kind, .int .i64 i, .int .u8 (c : Int), .string s, .bool odd, .int .u64 (mask : Int)] 34)) w.heap.size kind i c s odd mask := hoa
  have HOA := Lib.hid hoa
  have HP := Lib.hid hp1
  clear CW h hp1 hoa HO hwd
  by_cases h0 : kind = 0
  · have e0 : S.doL ⟨kind, i, c, s, odd, mask⟩ = (S.wr i X).1 := by unfold DS.doL; rw [hX]; exact if_pos h0
    rw [e0]
    clear e0 hX
    subst h0
    have CD : ∀ W, Pair w0 W (fun k => P k ∨ k = w.heap.size) g r S S → Calls Try.prog 16 #[.pointer (some ⟨g, 0, none⟩), .int .i64 i, .string X] W fun e w' => e = .returned (.int .i64 (S.wr i X).2) ∧ Pair w0 w' (fun k => P k ∨ k = w.heap.size) g r (S.wr i X).1 S ∧ Only (fun k => ¬(P k ∨ k = w.heap.size)) W w' :=
      fun W h => h.stepD (Ans := fun e => e = .returned (.int .i64 (S.wr i X).2)) (fun F hd => d_write i X W hd (by omega) (by omega))
    have CR : ∀ W T, Pair w0 W (fun k => P k ∨ k = w.heap.size) g r T S → Calls Try.prog 26 #[.pointer (some ⟨r, 0, none⟩), .int .i64 i, .string X] W fun e w' => e = .returned (.int .i64 (S.wr i X).2) ∧ Pair w0 w' (fun k => P k ∨ k = w.heap.size) g r T (S.wr i X).1 ∧ Only (fun k => ¬(P k ∨ k = w.heap.size)) W w' :=
      fun W T h => h.stepR (Ans := fun e => e = .returned (.int .i64 (S.wr i X).2)) (fun F hd => r_write i X W hd (by omega) (by omega))
    have cd := Lib.hid CD
    have cr := Lib.hid (fun W => CR W (S.wr i X).1)
    clear CD CR
    generalize (S.wr i X).2 = er at cd cr
    generalize (S.wr i X).1 = T at cd cr ⊢
    go_enter Try.func9, Try.ntmps9
    have c0 := HOA.out.c0
    go_wp2_with fail
    clear c0
    generalize World.alloc w _ = W1 at HP HOA ⊢
    have hS0 : OAll W1.drew w.heap.size 0 i c s odd mask := (HOA.out.of_block (W' := W1.drew) rfl (Nat.le_refl _)).all
    have hD0 : Pair w0 W1.drew (fun k => P k ∨ k = w.heap.size) g r S S := HP.out.later ⟨rfl, rfl, rfl, Nat.le_refl _, fun _ _ => rfl⟩
    clear HP HOA HH0
    go_region_held3 (fun W => W.cell? ⟨w.heap.size, 0, none⟩ = some (.int .i64 0) ∧ W.cell? ⟨w.heap.size, 1, none⟩ = some (.int .i64 i) ∧ W.cell? ⟨w.heap.size, 2, none⟩ = some (.int .u8 (c : Int)) ∧ W.cell? ⟨w.heap.size, 3, none⟩ = some (.string s) ∧ W.cell? ⟨w.heap.size, 4, none⟩ = some (.bool odd) ∧ W.cell? ⟨w.heap.size, 5, none⟩ = some (.int .u64 (mask : Int)) ∧ OAt W w.heap.size 0 i c s odd mask) (first | assumption | exact oall_later (by assumption) (by assumption) | exact oall_only (by assumption) (by assumption)) (first
      | (go_at_call 25; (with_reducible refine (cw.out _).mono ?_); rintro e W3 ⟨rfl, hb⟩; first | have hd := Pair.later (T := T) (S := S) (g := g) (r := r) (P := fun k => P k ∨ k = w.heap.size) (w0 := w0) (by assumption) hb | have hd := Pair.later (T := S) (S := S) (g := g) (r := r) (P := fun k => P k ∨ k = w.heap.size) (w0 := w0) (by assumption) hb)
      | (go_at_call 16; (with_reducible refine (cd.out _ (by assumption)).mono ?_); rintro e W4 ⟨rfl, hd, ho⟩)
      | (go_at_call 26; (with_reducible refine (cr.out _ (by assumption)).mono ?_); rintro e W4 ⟨rfl, hd, ho⟩))
    have hz := ‹Pair w0 _ (fun k => P k ∨ k = w.heap.size) g r T T›
    have HZ := Lib.hid (hz.less (D := P) (fun k hk => .inl hk))
    clear hz hS0 hD0
    go_wp2
    go_ret2
    exact ⟨_, rfl, HZ.out⟩
  · by_cases h1 : kind = 1
    · have u0 : (kind == 0) = false := by simpa using h0
      have v0 : decide (kind = 0) = false := decide_eq_false h0
      have e0 : S.doL ⟨kind, i, c, s, odd, mask⟩ = S.sy.1 := by unfold DS.doL; rw [if_neg (show ¬kind = 0 by omega)]; exact if_pos h1
      rw [e0]
      clear e0 hX cw
      subst h1
      have CD : ∀ W, Pair w0 W (fun k => P k ∨ k = w.heap.size) g r S S → Calls Try.prog 17 #[.pointer (some ⟨g, 0, none⟩)] W fun e w' => e = .returned (.int .i64 S.sy.2) ∧ Pair w0 w' (fun k => P k ∨ k = w.heap.size) g r S.sy.1 S ∧ Only (fun k => ¬(P k ∨ k = w.heap.size)) W w' :=
        fun W h => h.stepD (Ans := fun e => e = .returned (.int .i64 S.sy.2)) (fun F hd => d_sync W hd (by omega) (by omega))
      have CR : ∀ W T, Pair w0 W (fun k => P k ∨ k = w.heap.size) g r T S → Calls Try.prog 27 #[.pointer (some ⟨r, 0, none⟩)] W fun e w' => e = .returned (.int .i64 S.sy.2) ∧ Pair w0 w' (fun k => P k ∨ k = w.heap.size) g r T S.sy.1 ∧ Only (fun k => ¬(P k ∨ k = w.heap.size)) W w' :=
        fun W T h => h.stepR (Ans := fun e => e = .returned (.int .i64 S.sy.2)) (fun F hd => r_sync W hd (by omega) (by omega))
      have cd := Lib.hid CD
      have cr := Lib.hid (fun W => CR W S.sy.1)
      clear CD CR
      generalize S.sy.2 = er at cd cr
      generalize S.sy.1 = T at cd cr ⊢
      go_enter Try.func9, Try.ntmps9
      have c0 := HOA.out.c0
      go_wp2_with fail
      clear c0
      generalize World.alloc w _ = W1 at HP HOA ⊢
      refine (cd.out W1 HP.out).mono ?_
      rintro e W2 ⟨rfl, hd, -⟩
      have HD := Lib.hid hd
      clear hd
      go_wp2_with fail
      refine (cr.out W2 HD.out).mono ?_
      rintro e W3 ⟨rfl, hd, -⟩
      have HZ := Lib.hid (hd.less (D := P) (fun k hk => .inl hk))
      clear hd HD
      go_wp2
      go_ret2
      exact ⟨_, rfl, HZ.out⟩
    · by_cases h2 : kind = 2
      · have u0 : (kind == 0) = false := by simpa using h0
        have v0 : decide (kind = 0) = false := decide_eq_false h0
        have u1 : (kind == 1) = false := by simpa using h1
        have v1 : decide (kind = 1) = false := decide_eq_false h1
        have e0 : S.doL ⟨kind, i, c, s, odd, mask⟩ = S := by unfold DS.doL; rw [if_neg (show ¬kind = 0 by omega), if_neg (show ¬kind = 1 by omega), if_neg (show ¬kind = 3 by omega), if_neg (show ¬kind = 4 by omega), if_neg (show ¬kind = 5 by omega)]
        rw [e0]
        clear e0 hX cw
        subst h2
        have CD : ∀ W, Pair w0 W (fun k => P k ∨ k = w.heap.size) g r S S → Calls Try.prog 18 #[.pointer (some ⟨g, 0, none⟩), .int .i64 i] W fun e w' => e = .returned (.tuple #[.string (S.rd i).1, .int .i64 (S.rd i).2]) ∧ Pair w0 w' (fun k => P k ∨ k = w.heap.size) g r S S ∧ Below W.heap.size W w' := fun W h => h.readD i (by omega)
        have CR : ∀ W, Pair w0 W (fun k => P k ∨ k = w.heap.size) g r S S → Calls Try.prog 28 #[.pointer (some ⟨r, 0, none⟩), .int .i64 i] W fun e w' => e = .returned (.tuple #[.string (S.rd i).1, .int .i64 (S.rd i).2]) ∧ W = w' := fun W h => h.readR i (by omega)
        have cd := Lib.hid CD
        have cr := Lib.hid CR
        clear CD CR
        generalize (S.rd i).1 = a at cd cr
        generalize (S.rd i).2 = er at cd cr
        go_enter Try.func9, Try.ntmps9
        have c0 := HOA.out.c0
        have c1 := HOA.out.c1
        go_wp2_with fail
        clear c0 c1
        generalize World.alloc w _ = W1 at HP HOA ⊢
        refine (cd.out W1 HP.out).mono ?_
        rintro e W2 ⟨rfl, hd, hb⟩
        have c1 := (HOA.out.of_block (hb.block _ HOA.out.lt) hb.size).c1
        have HD := Lib.hid hd
        clear hd hb
        go_wp2_with fail
        clear c1
        refine (cr.out W2 HD.out).mono ?_
        rintro e W3 ⟨rfl, rfl⟩
        have HZ := Lib.hid (HD.out.less (D := P) (fun k hk => .inl hk))
        clear HD
        go_wp2
        go_ret2
        exact ⟨_, rfl, HZ.out⟩
      · by_cases h3 : kind = 3
        · have u0 : (kind == 0) = false := by simpa using h0
          have v0 : decide (kind = 0) = false := decide_eq_false h0
          have u1 : (kind == 1) = false := by simpa using h1
          have v1 : decide (kind = 1) = false := decide_eq_false h1
          have u2 : (kind == 2) = false := by simpa using h2
          have v2 : decide (kind = 2) = false := decide_eq_false h2
          have e0 : S.doL ⟨kind, i, c, s, odd, mask⟩ = (S.cu i mask).1 := by unfold DS.doL; rw [if_neg (show ¬kind = 0 by omega)]; rw [if_neg (show ¬kind = 1 by omega)]; exact if_pos h3
          rw [e0]
          clear e0 hX cw
          subst h3
          have CD : ∀ W, Pair w0 W (fun k => P k ∨ k = w.heap.size) g r S S → Calls Try.prog 21 #[.pointer (some ⟨g, 0, none⟩), .int .i64 i, .int .u64 (mask : Int)] W fun e w' => e = .returned (.int .i64 (S.cu i mask).2) ∧ Pair w0 w' (fun k => P k ∨ k = w.heap.size) g r (S.cu i mask).1 S ∧ Only (fun k => ¬(P k ∨ k = w.heap.size)) W w' :=
            fun W h => h.stepD (Ans := fun e => e = .returned (.int .i64 (S.cu i mask).2)) (fun F hd => d_cut i mask W hd (by omega) hmask)
          have CR : ∀ W T, Pair w0 W (fun k => P k ∨ k = w.heap.size) g r T S → Calls Try.prog 29 #[.pointer (some ⟨r, 0, none⟩), .int .i64 i, .int .u64 (mask : Int)] W fun e w' => e = .returned (.int .i64 (S.cu i mask).2) ∧ Pair w0 w' (fun k => P k ∨ k = w.heap.size) g r T (S.cu i mask).1 ∧ Only (fun k => ¬(P k ∨ k = w.heap.size)) W w' :=
            fun W T h => h.stepR (Ans := fun e => e = .returned (.int .i64 (S.cu i mask).2)) (fun F hd => r_cut i mask W hd (by omega) hmask)
          have cd := Lib.hid CD
          have cr := Lib.hid (fun W => CR W (S.cu i mask).1)
          clear CD CR
          generalize (S.cu i mask).2 = er at cd cr
          generalize (S.cu i mask).1 = T at cd cr ⊢
          go_enter Try.func9, Try.ntmps9
          have c0 := HOA.out.c0
          go_wp2_with fail
          clear c0
          generalize World.alloc w _ = W1 at HP HOA ⊢
          have hS0 : OAll W1.drew w.heap.size 3 i c s odd mask := (HOA.out.of_block (W' := W1.drew) rfl (Nat.le_refl _)).all
          have hD0 : Pair w0 W1.drew (fun k => P k ∨ k = w.heap.size) g r S S := HP.out.later ⟨rfl, rfl, rfl, Nat.le_refl _, fun _ _ => rfl⟩
          clear HP HOA HH0
          go_region_held3 (fun W => W.cell? ⟨w.heap.size, 0, none⟩ = some (.int .i64 3) ∧ W.cell? ⟨w.heap.size, 1, none⟩ = some (.int .i64 i) ∧ W.cell? ⟨w.heap.size, 2, none⟩ = some (.int .u8 (c : Int)) ∧ W.cell? ⟨w.heap.size, 3, none⟩ = some (.string s) ∧ W.cell? ⟨w.heap.size, 4, none⟩ = some (.bool odd) ∧ W.cell? ⟨w.heap.size, 5, none⟩ = some (.int .u64 (mask : Int)) ∧ OAt W w.heap.size 3 i c s odd mask) (first | assumption | exact oall_later (by assumption) (by assumption) | exact oall_only (by assumption) (by assumption)) (first
            | (go_at_call 21; (with_reducible refine (cd.out _ (by assumption)).mono ?_); rintro e W4 ⟨rfl, hd, ho⟩)
            | (go_at_call 29; (with_reducible refine (cr.out _ (by assumption)).mono ?_); rintro e W4 ⟨rfl, hd, ho⟩))
          have hz := ‹Pair w0 _ (fun k => P k ∨ k = w.heap.size) g r T T›
          have HZ := Lib.hid (hz.less (D := P) (fun k hk => .inl hk))
          clear hz hS0 hD0
          go_wp2
          go_ret2
          exact ⟨_, rfl, HZ.out⟩
        · by_cases h4 : kind = 4
          · have u0 : (kind == 0) = false := by simpa using h0
            have v0 : decide (kind = 0) = false := decide_eq_false h0
            have u1 : (kind == 1) = false := by simpa using h1
            have v1 : decide (kind = 1) = false := decide_eq_false h1
            have u2 : (kind == 2) = false := by simpa using h2
            have v2 : decide (kind = 2) = false := decide_eq_false h2
            have u3 : (kind == 3) = false := by simpa using h3
            have v3 : decide (kind = 3) = false := decide_eq_false h3
            have e0 : S.doL ⟨kind, i, c, s, odd, mask⟩ = S.fail mask := by unfold DS.doL; rw [if_neg (show ¬kind = 0 by omega)]; rw [if_neg (show ¬kind = 1 by omega)]; rw [if_neg (show ¬kind = 3 by omega)]; exact if_pos h4
            rw [e0]
            clear e0 hX cw
            subst h4
            have CD : ∀ W, Pair w0 W (fun k => P k ∨ k = w.heap.size) g r S S → Calls Try.prog 19 #[.pointer (some ⟨g, 0, none⟩), .int .u64 (mask : Int)] W fun e w' => e = .returned (.tuple #[]) ∧ Pair w0 w' (fun k => P k ∨ k = w.heap.size) g r (S.fail mask) S ∧ Only (fun k => ¬(P k ∨ k = w.heap.size)) W w' :=
              fun W h => h.stepD (Ans := fun e => e = .returned (.tuple #[])) (fun F hd => d_fail mask W hd hmask (by omega))
            have CR : ∀ W T, Pair w0 W (fun k => P k ∨ k = w.heap.size) g r T S → Calls Try.prog 30 #[.pointer (some ⟨r, 0, none⟩), .int .u64 (mask : Int)] W fun e w' => e = .returned (.tuple #[]) ∧ Pair w0 w' (fun k => P k ∨ k = w.heap.size) g r T (S.fail mask) ∧ Only (fun k => ¬(P k ∨ k = w.heap.size)) W w' :=
              fun W T h => h.stepR (Ans := fun e => e = .returned (.tuple #[])) (fun F hd => r_fail mask W hd hmask (by omega))
            have cd := Lib.hid CD
            have cr := Lib.hid (fun W => CR W (S.fail mask))
            clear CD CR
            generalize S.fail mask = T at cd cr ⊢
            go_enter Try.func9, Try.ntmps9
            have c0 := HOA.out.c0
            have c5 := HOA.out.c5
            go_wp2_with fail
            clear c0 c5
            generalize World.alloc w _ = W1 at HP HOA ⊢
            refine (cd.out W1 HP.out).mono ?_
            rintro e W2 ⟨rfl, hd, ho⟩
            have c5 := (HOA.out.of_block (ho.block _ HOA.out.lt (fun e => e (.inr rfl))) ho.size).c5
            have HD := Lib.hid hd
            clear hd ho
            go_wp2_with fail
            clear c5
            refine (cr.out W2 HD.out).mono ?_
            rintro e W3 ⟨rfl, hd, -⟩
            have HZ := Lib.hid (hd.less (D := P) (fun k hk => .inl hk))
            clear hd HD
            go_wp2
            go_ret2
            exact ⟨_, rfl, HZ.out⟩
          · by_cases h5 : kind = 5
            · have u0 : (kind == 0) = false := by simpa using h0
              have v0 : decide (kind = 0) = false := decide_eq_false h0
              have u1 : (kind == 1) = false := by simpa using h1
              have v1 : decide (kind = 1) = false := decide_eq_false h1
              have u2 : (kind == 2) = false := by simpa using h2
              have v2 : decide (kind = 2) = false := decide_eq_false h2
              have u3 : (kind == 3) = false := by simpa using h3
              have v3 : decide (kind = 3) = false := decide_eq_false h3
              have u4 : (kind == 4) = false := by simpa using h4
              have v4 : decide (kind = 4) = false := decide_eq_false h4
              have e0 : S.doL ⟨kind, i, c, s, odd, mask⟩ = S.start := by unfold DS.doL; rw [if_neg (show ¬kind = 0 by omega)]; rw [if_neg (show ¬kind = 1 by omega)]; rw [if_neg (show ¬kind = 3 by omega)]; rw [if_neg (show ¬kind = 4 by omega)]; exact if_pos h5
              rw [e0]
              clear e0 hX cw
              subst h5
              have CD : ∀ W, Pair w0 W (fun k => P k ∨ k = w.heap.size) g r S S → Calls Try.prog 20 #[.pointer (some ⟨g, 0, none⟩)] W fun e w' => e = .returned (.tuple #[]) ∧ Pair w0 w' (fun k => P k ∨ k = w.heap.size) g r S.start S ∧ Only (fun k => ¬(P k ∨ k = w.heap.size)) W w' :=
                fun W h => h.stepD (Ans := fun e => e = .returned (.tuple #[])) (fun F hd => d_start W hd)
              have cd := Lib.hid CD
              clear CD
              go_enter Try.func9, Try.ntmps9
              have c0 := HOA.out.c0
              go_wp2_with fail
              clear c0
              generalize World.alloc w _ = W1 at HP HOA ⊢
              refine (cd.out W1 HP.out).mono ?_
              rintro e W2 ⟨rfl, hd, -⟩
              obtain ⟨cr2, fr2, hr, -⟩ := hd.startR
              have HZ := Lib.hid (hr.less (D := P) (fun k hk => .inl hk))
              clear hd hr
              go_wp2
              go_ret2
              exact ⟨_, rfl, HZ.out⟩
            · have u0 : (kind == 0) = false := by simpa using h0
              have v0 : decide (kind = 0) = false := decide_eq_false h0
              have u1 : (kind == 1) = false := by simpa using h1
              have v1 : decide (kind = 1) = false := decide_eq_false h1
              have u2 : (kind == 2) = false := by simpa using h2
              have v2 : decide (kind = 2) = false := decide_eq_false h2
              have u3 : (kind == 3) = false := by simpa using h3
              have v3 : decide (kind = 3) = false := decide_eq_false h3
              have u4 : (kind == 4) = false := by simpa using h4
              have v4 : decide (kind = 4) = false := decide_eq_false h4
              have u5 : (kind == 5) = false := by simpa using h5
              have v5 : decide (kind = 5) = false := decide_eq_false h5
              have e0 : S.doL ⟨kind, i, c, s, odd, mask⟩ = S := by unfold DS.doL; rw [if_neg (show ¬kind = 0 by omega)]; rw [if_neg (show ¬kind = 1 by omega)]; rw [if_neg (show ¬kind = 3 by omega)]; rw [if_neg (show ¬kind = 4 by omega)]; rw [if_neg (show ¬kind = 5 by omega)]
              rw [e0]
              clear e0 hX cw
              have CD : ∀ W, Pair w0 W (fun k => P k ∨ k = w.heap.size) g r S S → Calls Try.prog 23 #[.pointer (some ⟨g, 0, none⟩)] W fun e w' => e = .returned (.pointer (some ⟨W.heap.size, 0, none⟩)) ∧ Old w0 w' (fun k => P k ∨ k = w.heap.size) W.heap.size g r S S := fun W h => h.copyD (by omega)
              have cd := Lib.hid CD
              have CF := fun W => full_any 122 W
              generalize hfz : strOf (fullB 122) = Z at CF
              have cf := Lib.hid CF
              clear CD CF
              go_enter Try.func9, Try.ntmps9
              have c0 := HOA.out.c0
              go_wp2_with fail
              clear c0
              generalize World.alloc w _ = W1 at HP HOA ⊢
              refine (cd.out W1 HP.out).mono ?_
              rintro e W2 ⟨rfl, hd⟩
              have HD := Lib.hid hd
              clear hd
              go_wp2_with fail
              refine (cf.out W2).mono ?_
              rintro e W3 ⟨rfl, hb⟩
              have HD3 := Lib.hid (HD.out.later hb)
              clear hb HD
              go_wp2_with fail
              refine (HD3.out.step (Ans := fun e => e = .returned (.int .i64 (S.wr 0 Z).2)) (fun F hd => d_write 0 Z W3 hd (by omega) (by omega))).mono ?_
              rintro e W4 ⟨rfl, hd⟩
              have HD4 := Lib.hid hd
              have hfew := wr_few S 0 Z
              generalize (S.wr 0 Z).1 = T1 at HD4 hfew
              clear hd HD3
              go_wp2_with fail
              refine (HD4.out.step (Ans := fun e => e = .returned (.int .i64 T1.sy.2)) (fun F hd => d_sync W4 hd (by omega) (by omega))).mono ?_
              rintro e W5 ⟨rfl, hd⟩
              have HD5 := Lib.hid hd
              have hfew2 := sy_few T1
              generalize T1.sy.1 = T2 at HD5 hfew2
              clear hd HD4
              go_wp2_with fail
              refine (HD5.out.step (Ans := fun e => e = .returned (.tuple #[])) (fun F hd => d_fail 0 W5 hd (by decide) (by omega))).mono ?_
              rintro e W6 ⟨rfl, hd⟩
              have HZ := Lib.hid (hd.pair.less (D := P) (fun k hk => .inl hk))
              clear hd HD5
              go_wp2
              go_ret2
              exact ⟨_, rfl, HZ.out⟩

end Go.Proofs.Ytmnbkopfmhdijaa.Dk
