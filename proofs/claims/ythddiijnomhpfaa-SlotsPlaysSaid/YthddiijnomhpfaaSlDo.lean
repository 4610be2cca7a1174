/- The walk of does: what an operation does to both disks. No condition but those that each states. -/
import Derived.Test.YthddiijnomhpfaaSlT
import Derived.Test.YthddiijnomhpfaaSlE
namespace Go.Proofs.Ythddiijnomhpfaa.Sl
open Go.RowKit Dk

/-- An operation of a script, as its cells hold it. -/
structure OpV where
  kind : Int
  slot : Int
  s : ByteArray
  size : Int
  mask : Nat

def OpV.cells (o : OpV) : List Value := [.int .i64 o.kind, .int .i64 o.slot, .string o.s, .int .i64 o.size, .int .u64 (o.mask : Int)]

structure OpV.Ok (o : OpV) : Prop where
  kind : (Lit.int .i64 o.kind).wf = true
  slot : (Lit.int .i64 o.slot).wf = true
  s : o.s.size ≤ maxLen
  size : (Lit.int .i64 o.size).wf = true
  mask : o.mask < 2 ^ 64

/-- What an operation makes of a state. -/
def DS.doS (S : DS) (o : OpV) : DS :=
  if o.kind = 0 then (DS.sw S o.slot o.s).1 else if o.kind = 1 then S else if o.kind = 2 then (S.cu o.size o.mask).1 else if o.kind = 3 then S.fail o.mask else if o.kind = 4 then S.start else S

theorem doS_few (S : DS) (o : OpV) (hS : S.Ok) : (DS.doS S o).c ≤ S.c + 252 ∧ (DS.doS S o).ops ≤ S.ops + 253 := by
  have h1 := sw_few S o.slot o.s hS
  have h3 := cu_few S o.size o.mask
  have h4 := fail_few S o.mask
  have h5 : S.start.c = S.c ∧ S.start.ops = S.ops := ⟨rfl, rfl⟩
  unfold DS.doS
  repeat' split
  all_goals first | exact h1 | omega

/-- An operation lies in block A. -/
structure OAt (W : World) (A : Nat) (kind slot : Int) (s : ByteArray) (size : Int) (mask : Nat) : Prop where
  c0 : W.cell? ⟨A, 0, none⟩ = some (.int .i64 kind)
  c1 : W.cell? ⟨A, 1, none⟩ = some (.int .i64 slot)
  c2 : W.cell? ⟨A, 2, none⟩ = some (.string s)
  c3 : W.cell? ⟨A, 3, none⟩ = some (.int .i64 size)
  c4 : W.cell? ⟨A, 4, none⟩ = some (.int .u64 (mask : Int))
  lt : A < W.heap.size

section
variable {W W' : World} {A : Nat} {kind slot : Int} {s : ByteArray} {size : Int} {mask : Nat}
theorem OAt.of_block (h : OAt W A kind slot s size mask) (hb : W'.heap[A]? = W.heap[A]?) (hs : W.heap.size ≤ W'.heap.size) : OAt W' A kind slot s size mask :=
  have e : ∀ o, W'.cell? ⟨A, o, none⟩ = W.cell? ⟨A, o, none⟩ := fun o => World.cell?_of_block (a := ⟨A, o, none⟩) hb
  ⟨(e _).trans h.c0, (e _).trans h.c1, (e _).trans h.c2, (e _).trans h.c3, (e _).trans h.c4, Nat.lt_of_lt_of_le h.lt hs⟩
/-- The cells, one by one. -/
def OAll (W : World) (A : Nat) (kind slot : Int) (s : ByteArray) (size : Int) (mask : Nat) : Prop :=
  W.cell? ⟨A, 0, none⟩ = some (.int .i64 kind) ∧ W.cell? ⟨A, 1, none⟩ = some (.int .i64 slot) ∧ W.cell? ⟨A, 2, none⟩ = some (.string s) ∧ W.cell? ⟨A, 3, none⟩ = some (.int .i64 size) ∧ W.cell? ⟨A, 4, none⟩ = some (.int .u64 (mask : Int)) ∧ OAt W A kind slot s size mask
theorem OAt.all (h : OAt W A kind slot s size mask) : OAll W A kind slot s size mask := ⟨h.c0, h.c1, h.c2, h.c3, h.c4, h⟩
theorem oall_later (hb : Below W.heap.size W W') (h : OAll W A kind slot s size mask) : OAll W' A kind slot s size mask := (h.2.2.2.2.2.of_block (hb.block A h.2.2.2.2.2.lt) hb.size).all
theorem oall_only {P : Nat → Prop} (hb : Only (fun k => ¬(P k ∨ k = A)) W W') (h : OAll W A kind slot s size mask) : OAll W' A kind slot s size mask := (h.2.2.2.2.2.of_block (hb.block A h.2.2.2.2.2.lt (fun e => e (.inr rfl))) hb.size).all
end

theorem oAt_new (w : World) (kind slot : Int) (s : ByteArray) (size : Int) (mask : Nat) (t : TypeId) : OAt (w.alloc (.cells #[.int .i64 kind, .int .i64 slot, .string s, .int .i64 size, .int .u64 (mask : Int)] t)) w.heap.size kind slot s size mask := by
  have hr := range_new w [.int .i64 kind, .int .i64 slot, .string s, .int .i64 size, .int .u64 (mask : Int)] t
  have hc : ∀ j v, [Value.int .i64 kind, .int .i64 slot, .string s, .int .i64 size, .int .u64 (mask : Int)][j]? = some v → (w.alloc (.cells #[.int .i64 kind, .int .i64 slot, .string s, .int .i64 size, .int .u64 (mask : Int)] t)).cell? ⟨w.heap.size, j, none⟩ = some v := fun j v hv => by
    have := hr j v hv; rwa [Nat.zero_add] at this
  exact ⟨hc 0 _ rfl, hc 1 _ rfl, hc 2 _ rfl, hc 3 _ rfl, hc 4 _ rfl, by simp⟩

section
variable {w0 w : World} {P : Nat → Prop} {g r : Nat} {S : DS}

set_option maxHeartbeats 2000000 in
set_option maxRecDepth 100000 in
theorem does_0 (kind slot : Int) (s : ByteArray) (size : Int) (mask : Nat) (h0 : kind = 0) (_hsz : size < 2 ^ 63) (_hmask : mask < 2 ^ 64) (h : Pair w0 w P g r S S) (hc : S.c < 2 ^ 39) (hops : S.ops < 2 ^ 39) :
    Calls Try.prog 11 #[.pointer (some ⟨g, 0, none⟩), .pointer (some ⟨r, 0, none⟩), .agg #[.int .i64 kind, .int .i64 slot, .string s, .int .i64 size, .int .u64 (mask : Int)]] w fun e w' => e = .returned (.bool true) ∧ Pair w0 w' P g r (DS.sw S slot s).1 (DS.sw S slot s).1 := by
  have HOA := Lib.hid (oAt_new w kind slot s size mask 33)
  have HP : Hid (Pair w0 (w.alloc (.cells #[.int .i64 kind, .int .i64 slot, .string s, .int .i64 size, .int .u64 (mask : Int)] 33)) (fun k => P k ∨ k = w.heap.size) g r S S) := Lib.hid (h.fresh ((Below.refl _ _).alloc (Nat.le_refl _) _) (fun i hi => ⟨Nat.le_of_eq hi.symm, by subst hi; simp⟩))
  subst h0
  have cd : Hid (∀ W, Pair w0 W (fun k => P k ∨ k = w.heap.size) g r S S → Calls Try.prog 19 #[.pointer (some ⟨g, 0, none⟩), .int .i64 slot, .string s] W fun e w' => e = .returned (.int .i64 (DS.sw S slot s).2) ∧ Pair w0 w' (fun k => P k ∨ k = w.heap.size) g r (DS.sw S slot s).1 S ∧ Only (fun k => ¬(P k ∨ k = w.heap.size)) W w') :=
    Lib.hid (fun W h => h.stepD (Ans := fun e => e = .returned (.int .i64 (DS.sw S slot s).2)) (fun F hd => d_sw slot s W hd (by omega) (by omega)))
  have cr : Hid (∀ W, Pair w0 W (fun k => P k ∨ k = w.heap.size) g r (DS.sw S slot s).1 S → Calls Try.prog 25 #[.pointer (some ⟨r, 0, none⟩), .int .i64 slot, .string s] W fun e w' => e = .returned (.int .i64 (DS.sw S slot s).2) ∧ Pair w0 w' (fun k => P k ∨ k = w.heap.size) g r (DS.sw S slot s).1 (DS.sw S slot s).1 ∧ Only (fun k => ¬(P k ∨ k = w.heap.size)) W w') :=
    Lib.hid (fun W h => h.stepR (Ans := fun e => e = .returned (.int .i64 (DS.sw S slot s).2)) (fun F hd => r_sw slot s W hd (by omega) (by omega)))
  clear h
  generalize (DS.sw S slot s).2 = er at cd cr
  generalize (DS.sw S slot s).1 = T at cd cr ⊢
  go_enter Try.func11, Try.ntmps11
  have c0 := HOA.out.c0
  go_wp2_with fail
  clear c0
  generalize World.alloc w _ = W1 at HP HOA ⊢
  have hS0 : OAll W1.drew w.heap.size 0 slot s size mask := (HOA.out.of_block (W' := W1.drew) rfl (Nat.le_refl _)).all
  have hD0 : Pair w0 W1.drew (fun k => P k ∨ k = w.heap.size) g r S S := HP.out.later ⟨rfl, rfl, rfl, Nat.le_refl _, fun _ _ => rfl⟩
  clear HP HOA
  go_region_held3 (fun W => W.cell? ⟨w.heap.size, 0, none⟩ = some (.int .i64 0) ∧ W.cell? ⟨w.heap.size, 1, none⟩ = some (.int .i64 slot) ∧ W.cell? ⟨w.heap.size, 2, none⟩ = some (.string s) ∧ W.cell? ⟨w.heap.size, 3, none⟩ = some (.int .i64 size) ∧ W.cell? ⟨w.heap.size, 4, none⟩ = some (.int .u64 (mask : Int)) ∧ OAt W w.heap.size 0 slot s size mask) (first | assumption | exact oall_later (by assumption) (by assumption) | exact oall_only (by assumption) (by assumption)) (first
    | (go_at_call 19; (with_reducible refine (cd.out _ (by assumption)).mono ?_); rintro e W4 ⟨rfl, hd, ho⟩)
    | (go_at_call 25; (with_reducible refine (cr.out _ (by assumption)).mono ?_); rintro e W4 ⟨rfl, hd, ho⟩))
  have hz := ‹Pair w0 _ (fun k => P k ∨ k = w.heap.size) g r T T›
  have HZ := Lib.hid (hz.less (D := P) (fun k hk => .inl hk))
  clear hz hS0 hD0
  go_wp2
  go_ret
  exact ⟨rfl, HZ.out⟩

theorem Pair.srD (slot size : Int) (h : Pair w0 w P g r S S) (hc : S.c ≤ 2 ^ 40) :
    Calls Try.prog 22 #[.pointer (some ⟨g, 0, none⟩), .int .i64 slot, .int .i64 size] w fun e w' => e = .returned (.tuple #[.string (DS.sr S slot size).1, .int .i64 (DS.sr S slot size).2]) ∧ Pair w0 w' P g r S S ∧ Below w.heap.size w w' := by
  have hh := h
  obtain ⟨F, G, h, -⟩ := h
  exact (d_sr slot size w h.d hc).mono fun _ _ ⟨a, b⟩ => ⟨a, hh.later b, b⟩
theorem Pair.srR (slot size : Int) (h : Pair w0 w P g r S S) (hc : S.c ≤ 2 ^ 40) :
    Calls Try.prog 26 #[.pointer (some ⟨r, 0, none⟩), .int .i64 slot, .int .i64 size] w fun e w' => e = .returned (.tuple #[.string (DS.sr S slot size).1, .int .i64 (DS.sr S slot size).2]) ∧ w = w' := by
  obtain ⟨F, G, h, -⟩ := h
  exact r_sr slot size w h.r hc

set_option maxHeartbeats 2000000 in
set_option maxRecDepth 100000 in
theorem does_1 (kind slot : Int) (s : ByteArray) (size : Int) (mask : Nat) (h0 : ¬kind = 0) (h1 : kind = 1) (_hsz : size < 2 ^ 63) (_hmask : mask < 2 ^ 64) (h : Pair w0 w P g r S S) (hc : S.c < 2 ^ 39) (_hops : S.ops < 2 ^ 39) :
    Calls Try.prog 11 #[.pointer (some ⟨g, 0, none⟩), .pointer (some ⟨r, 0, none⟩), .agg #[.int .i64 kind, .int .i64 slot, .string s, .int .i64 size, .int .u64 (mask : Int)]] w fun e w' => e = .returned (.bool true) ∧ Pair w0 w' P g r S S := by
  have HOA := Lib.hid (oAt_new w kind slot s size mask 33)
  have HP : Hid (Pair w0 (w.alloc (.cells #[.int .i64 kind, .int .i64 slot, .string s, .int .i64 size, .int .u64 (mask : Int)] 33)) (fun k => P k ∨ k = w.heap.size) g r S S) := Lib.hid (h.fresh ((Below.refl _ _).alloc (Nat.le_refl _) _) (fun i hi => ⟨Nat.le_of_eq hi.symm, by subst hi; simp⟩))
  have u0 : (kind == 0) = false := by simpa using h0
  have v0 : decide (kind = 0) = false := decide_eq_false h0
  subst h1
  have cd : Hid (∀ W, Pair w0 W (fun k => P k ∨ k = w.heap.size) g r S S → Calls Try.prog 22 #[.pointer (some ⟨g, 0, none⟩), .int .i64 slot, .int .i64 size] W fun e w' => e = .returned (.tuple #[.string (DS.sr S slot size).1, .int .i64 (DS.sr S slot size).2]) ∧ Pair w0 w' (fun k => P k ∨ k = w.heap.size) g r S S ∧ Below W.heap.size W w') := Lib.hid (fun W h => Pair.srD slot size h (by omega))
  have cr : Hid (∀ W, Pair w0 W (fun k => P k ∨ k = w.heap.size) g r S S → Calls Try.prog 26 #[.pointer (some ⟨r, 0, none⟩), .int .i64 slot, .int .i64 size] W fun e w' => e = .returned (.tuple #[.string (DS.sr S slot size).1, .int .i64 (DS.sr S slot size).2]) ∧ W = w') := Lib.hid (fun W h => Pair.srR slot size h (by omega))
  clear h
  generalize (DS.sr S slot size).1 = a at cd cr
  generalize (DS.sr S slot size).2 = er at cd cr
  go_enter Try.func11, Try.ntmps11
  have c0 := HOA.out.c0
  have c1 := HOA.out.c1
  have c3 := HOA.out.c3
  go_wp2_with fail
  clear c0 c1 c3
  generalize World.alloc w _ = W1 at HP HOA ⊢
  refine (cd.out W1 HP.out).mono ?_
  rintro e W2 ⟨rfl, hd, hb⟩
  have c1 := (HOA.out.of_block (hb.block _ HOA.out.lt) hb.size).c1
  have c3 := (HOA.out.of_block (hb.block _ HOA.out.lt) hb.size).c3
  have HD := Lib.hid hd
  clear hd hb
  go_wp2_with fail
  clear c1 c3
  refine (cr.out W2 HD.out).mono ?_
  rintro e W3 ⟨rfl, rfl⟩
  have HZ := Lib.hid (HD.out.less (D := P) (fun k hk => .inl hk))
  clear HD
  go_wp2
  go_ret
  exact ⟨rfl, HZ.out⟩

set_option maxHeartbeats 2000000 in
set_option maxRecDepth 100000 in
theorem does_2 (kind slot : Int) (s : ByteArray) (size : Int) (mask : Nat) (h0 : ¬kind = 0) (h1 : ¬kind = 1) (h2 : kind = 2) (hsz : size < 2 ^ 63) (hmask : mask < 2 ^ 64) (h : Pair w0 w P g r S S) (_hc : S.c < 2 ^ 39) (_hops : S.ops < 2 ^ 39) :
    Calls Try.prog 11 #[.pointer (some ⟨g, 0, none⟩), .pointer (some ⟨r, 0, none⟩), .agg #[.int .i64 kind, .int .i64 slot, .string s, .int .i64 size, .int .u64 (mask : Int)]] w fun e w' => e = .returned (.bool true) ∧ Pair w0 w' P g r (S.cu size mask).1 (S.cu size mask).1 := by
  have HOA := Lib.hid (oAt_new w kind slot s size mask 33)
  have HP : Hid (Pair w0 (w.alloc (.cells #[.int .i64 kind, .int .i64 slot, .string s, .int .i64 size, .int .u64 (mask : Int)] 33)) (fun k => P k ∨ k = w.heap.size) g r S S) := Lib.hid (h.fresh ((Below.refl _ _).alloc (Nat.le_refl _) _) (fun i hi => ⟨Nat.le_of_eq hi.symm, by subst hi; simp⟩))
  have u0 : (kind == 0) = false := by simpa using h0
  have v0 : decide (kind = 0) = false := decide_eq_false h0
  have u1 : (kind == 1) = false := by simpa using h1
  have v1 : decide (kind = 1) = false := decide_eq_false h1
  subst h2
  have cd : Hid (∀ W, Pair w0 W (fun k => P k ∨ k = w.heap.size) g r S S → Calls Try.prog 23 #[.pointer (some ⟨g, 0, none⟩), .int .i64 size, .int .u64 (mask : Int)] W fun e w' => e = .returned (.int .i64 (S.cu size mask).2) ∧ Pair w0 w' (fun k => P k ∨ k = w.heap.size) g r (S.cu size mask).1 S ∧ Only (fun k => ¬(P k ∨ k = w.heap.size)) W w') :=
    Lib.hid (fun W h => h.stepD (Ans := fun e => e = .returned (.int .i64 (S.cu size mask).2)) (fun F hd => d_cut size mask W hd hsz hmask))
  have cr : Hid (∀ W, Pair w0 W (fun k => P k ∨ k = w.heap.size) g r (S.cu size mask).1 S → Calls Try.prog 27 #[.pointer (some ⟨r, 0, none⟩), .int .i64 size, .int .u64 (mask : Int)] W fun e w' => e = .returned (.int .i64 (S.cu size mask).2) ∧ Pair w0 w' (fun k => P k ∨ k = w.heap.size) g r (S.cu size mask).1 (S.cu size mask).1 ∧ Only (fun k => ¬(P k ∨ k = w.heap.size)) W w') :=
    Lib.hid (fun W h => h.stepR (Ans := fun e => e = .returned (.int .i64 (S.cu size mask).2)) (fun F hd => r_cut size mask W hd hsz hmask))
  clear h
  generalize (S.cu size mask).2 = er at cd cr
  generalize (S.cu size mask).1 = T at cd cr ⊢
  go_enter Try.func11, Try.ntmps11
  have c0 := HOA.out.c0
  go_wp2_with fail
  clear c0
  generalize World.alloc w _ = W1 at HP HOA ⊢
  have hS0 : OAll W1.drew w.heap.size 2 slot s size mask := (HOA.out.of_block (W' := W1.drew) rfl (Nat.le_refl _)).all
  have hD0 : Pair w0 W1.drew (fun k => P k ∨ k = w.heap.size) g r S S := HP.out.later ⟨rfl, rfl, rfl, Nat.le_refl _, fun _ _ => rfl⟩
  clear HP HOA
  go_region_held3 (fun W => W.cell? ⟨w.heap.size, 0, none⟩ = some (.int .i64 2) ∧ W.cell? ⟨w.heap.size, 1, none⟩ = some (.int .i64 slot) ∧ W.cell? ⟨w.heap.size, 2, none⟩ = some (.string s) ∧ W.cell? ⟨w.heap.size, 3, none⟩ = some (.int .i64 size) ∧ W.cell? ⟨w.heap.size, 4, none⟩ = some (.int .u64 (mask : Int)) ∧ OAt W w.heap.size 2 slot s size mask) (first | assumption | exact oall_later (by assumption) (by assumption) | exact oall_only (by assumption) (by assumption)) (first
    | (go_at_call 23; (with_reducible refine (cd.out _ (by assumption)).mono ?_); rintro e W4 ⟨rfl, hd, ho⟩)
    | (go_at_call 27; (with_reducible refine (cr.out _ (by assumption)).mono ?_); rintro e W4 ⟨rfl, hd, ho⟩))
  have hz := ‹Pair w0 _ (fun k => P k ∨ k = w.heap.size) g r T T›
  have HZ := Lib.hid (hz.less (D := P) (fun k hk => .inl hk))
  clear hz hS0 hD0
  go_wp2
  go_ret
  exact ⟨rfl, HZ.out⟩

set_option maxHeartbeats 2000000 in
set_option maxRecDepth 100000 in
theorem does_3 (kind slot : Int) (s : ByteArray) (size : Int) (mask : Nat) (h0 : ¬kind = 0) (h1 : ¬kind = 1) (h2 : ¬kind = 2) (h3 : kind = 3) (_hsz : size < 2 ^ 63) (hmask : mask < 2 ^ 64) (h : Pair w0 w P g r S S) (hc : S.c < 2 ^ 39) (_hops : S.ops < 2 ^ 39) :
    Calls Try.prog 11 #[.pointer (some ⟨g, 0, none⟩), .pointer (some ⟨r, 0, none⟩), .agg #[.int .i64 kind, .int .i64 slot, .string s, .int .i64 size, .int .u64 (mask : Int)]] w fun e w' => e = .returned (.bool true) ∧ Pair w0 w' P g r (S.fail mask) (S.fail mask) := by
  have HOA := Lib.hid (oAt_new w kind slot s size mask 33)
  have HP : Hid (Pair w0 (w.alloc (.cells #[.int .i64 kind, .int .i64 slot, .string s, .int .i64 size, .int .u64 (mask : Int)] 33)) (fun k => P k ∨ k = w.heap.size) g r S S) := Lib.hid (h.fresh ((Below.refl _ _).alloc (Nat.le_refl _) _) (fun i hi => ⟨Nat.le_of_eq hi.symm, by subst hi; simp⟩))
  have u0 : (kind == 0) = false := by simpa using h0
  have v0 : decide (kind = 0) = false := decide_eq_false h0
  have u1 : (kind == 1) = false := by simpa using h1
  have v1 : decide (kind = 1) = false := decide_eq_false h1
  have u2 : (kind == 2) = false := by simpa using h2
  have v2 : decide (kind = 2) = false := decide_eq_false h2
  subst h3
  have cd : Hid (∀ W, Pair w0 W (fun k => P k ∨ k = w.heap.size) g r S S → Calls Try.prog 20 #[.pointer (some ⟨g, 0, none⟩), .int .u64 (mask : Int)] W fun e w' => e = .returned (.tuple #[]) ∧ Pair w0 w' (fun k => P k ∨ k = w.heap.size) g r (S.fail mask) S ∧ Only (fun k => ¬(P k ∨ k = w.heap.size)) W w') :=
    Lib.hid (fun W h => h.stepD (Ans := fun e => e = .returned (.tuple #[])) (fun F hd => d_fail mask W hd hmask (by omega)))
  have cr : Hid (∀ W, Pair w0 W (fun k => P k ∨ k = w.heap.size) g r (S.fail mask) S → Calls Try.prog 28 #[.pointer (some ⟨r, 0, none⟩), .int .u64 (mask : Int)] W fun e w' => e = .returned (.tuple #[]) ∧ Pair w0 w' (fun k => P k ∨ k = w.heap.size) g r (S.fail mask) (S.fail mask) ∧ Only (fun k => ¬(P k ∨ k = w.heap.size)) W w') :=
    Lib.hid (fun W h => h.stepR (Ans := fun e => e = .returned (.tuple #[])) (fun F hd => r_fail mask W hd hmask (by omega)))
  clear h
  generalize S.fail mask = T at cd cr ⊢
  go_enter Try.func11, Try.ntmps11
  have c0 := HOA.out.c0
  have c4 := HOA.out.c4
  go_wp2_with fail
  clear c0 c4
  generalize World.alloc w _ = W1 at HP HOA ⊢
  refine (cd.out W1 HP.out).mono ?_
  rintro e W2 ⟨rfl, hd, ho⟩
  have c4 := (HOA.out.of_block (ho.block _ HOA.out.lt (fun e => e (.inr rfl))) ho.size).c4
  have HD := Lib.hid hd
  clear hd ho
  go_wp2_with fail
  clear c4
  refine (cr.out W2 HD.out).mono ?_
  rintro e W3 ⟨rfl, hd, -⟩
  have HZ := Lib.hid (hd.less (D := P) (fun k hk => .inl hk))
  clear hd HD
  go_wp2
  go_ret
  exact ⟨rfl, HZ.out⟩

set_option maxHeartbeats 2000000 in
set_option maxRecDepth 100000 in
theorem does_4 (kind slot : Int) (s : ByteArray) (size : Int) (mask : Nat) (h0 : ¬kind = 0) (h1 : ¬kind = 1) (h2 : ¬kind = 2) (h3 : ¬kind = 3) (h4 : kind = 4) (_hsz : size < 2 ^ 63) (_hmask : mask < 2 ^ 64) (h : Pair w0 w P g r S S) (_hc : S.c < 2 ^ 39) (_hops : S.ops < 2 ^ 39) :
    Calls Try.prog 11 #[.pointer (some ⟨g, 0, none⟩), .pointer (some ⟨r, 0, none⟩), .agg #[.int .i64 kind, .int .i64 slot, .string s, .int .i64 size, .int .u64 (mask : Int)]] w fun e w' => e = .returned (.bool true) ∧ Pair w0 w' P g r S.start S.start := by
  have HOA := Lib.hid (oAt_new w kind slot s size mask 33)
  have HP : Hid (Pair w0 (w.alloc (.cells #[.int .i64 kind, .int .i64 slot, .string s, .int .i64 size, .int .u64 (mask : Int)] 33)) (fun k => P k ∨ k = w.heap.size) g r S S) := Lib.hid (h.fresh ((Below.refl _ _).alloc (Nat.le_refl _) _) (fun i hi => ⟨Nat.le_of_eq hi.symm, by subst hi; simp⟩))
  have u0 : (kind == 0) = false := by simpa using h0
  have v0 : decide (kind = 0) = false := decide_eq_false h0
  have u1 : (kind == 1) = false := by simpa using h1
  have v1 : decide (kind = 1) = false := decide_eq_false h1
  have u2 : (kind == 2) = false := by simpa using h2
  have v2 : decide (kind = 2) = false := decide_eq_false h2
  have u3 : (kind == 3) = false := by simpa using h3
  have v3 : decide (kind = 3) = false := decide_eq_false h3
  subst h4
  have cd : Hid (∀ W, Pair w0 W (fun k => P k ∨ k = w.heap.size) g r S S → Calls Try.prog 21 #[.pointer (some ⟨g, 0, none⟩)] W fun e w' => e = .returned (.tuple #[]) ∧ Pair w0 w' (fun k => P k ∨ k = w.heap.size) g r S.start S ∧ Only (fun k => ¬(P k ∨ k = w.heap.size)) W w') :=
    Lib.hid (fun W h => h.stepD (Ans := fun e => e = .returned (.tuple #[])) (fun F hd => d_start W hd))
  clear h
  go_enter Try.func11, Try.ntmps11
  have c0 := HOA.out.c0
  go_wp2_with fail
  clear c0
  generalize World.alloc w _ = W1 at HP HOA ⊢
  refine (cd.out W1 HP.out).mono ?_
  rintro e W2 ⟨rfl, hd, -⟩
  obtain ⟨cr2, fr2, hr, -⟩ := hd.startR
  have HZ := Lib.hid (hr.less (D := P) (fun k hk => .inl hk))
  clear hd hr
  go_wp2
  go_ret
  exact ⟨rfl, HZ.out⟩

set_option maxHeartbeats 2000000 in
set_option maxRecDepth 100000 in
theorem does_5 (kind slot : Int) (s : ByteArray) (size : Int) (mask : Nat) (h0 : ¬kind = 0) (h1 : ¬kind = 1) (h2 : ¬kind = 2) (h3 : ¬kind = 3) (h4 : ¬kind = 4) (_hsz : size < 2 ^ 63) (_hmask : mask < 2 ^ 64) (h : Pair w0 w P g r S S) (hc : S.c < 2 ^ 39) (_hops : S.ops < 2 ^ 39) :
    Calls Try.prog 11 #[.pointer (some ⟨g, 0, none⟩), .pointer (some ⟨r, 0, none⟩), .agg #[.int .i64 kind, .int .i64 slot, .string s, .int .i64 size, .int .u64 (mask : Int)]] w fun e w' => e = .returned (.bool true) ∧ Pair w0 w' P g r S S := by
  have HOA := Lib.hid (oAt_new w kind slot s size mask 33)
  have HP : Hid (Pair w0 (w.alloc (.cells #[.int .i64 kind, .int .i64 slot, .string s, .int .i64 size, .int .u64 (mask : Int)] 33)) (fun k => P k ∨ k = w.heap.size) g r S S) := Lib.hid (h.fresh ((Below.refl _ _).alloc (Nat.le_refl _) _) (fun i hi => ⟨Nat.le_of_eq hi.symm, by subst hi; simp⟩))
  have u0 : (kind == 0) = false := by simpa using h0
  have v0 : decide (kind = 0) = false := decide_eq_false h0
  have u1 : (kind == 1) = false := by simpa using h1
  have v1 : decide (kind = 1) = false := decide_eq_false h1
  have u2 : (kind == 2) = false := by simpa using h2
  have v2 : decide (kind = 2) = false := decide_eq_false h2
  have u3 : (kind == 3) = false := by simpa using h3
  have v3 : decide (kind = 3) = false := decide_eq_false h3
  have u4 : (kind == 4) = false := by simpa using h4
  have v4 : decide (kind = 4) = false := decide_eq_false h4
  have cd : Hid (∀ W, Pair w0 W (fun k => P k ∨ k = w.heap.size) g r S S → Calls Try.prog 16 #[.pointer (some ⟨g, 0, none⟩), .int .i64 size] W fun e w' => e = .returned (.tuple #[.string (S.rd size).1, .int .i64 (S.rd size).2]) ∧ Pair w0 w' (fun k => P k ∨ k = w.heap.size) g r S S ∧ Below W.heap.size W w') := Lib.hid (fun W h => h.readD size (by omega))
  have cr : Hid (∀ W, Pair w0 W (fun k => P k ∨ k = w.heap.size) g r S S → Calls Try.prog 17 #[.pointer (some ⟨r, 0, none⟩), .int .i64 size] W fun e w' => e = .returned (.tuple #[.string (S.rd size).1, .int .i64 (S.rd size).2]) ∧ W = w') := Lib.hid (fun W h => h.readR size (by omega))
  clear h
  generalize (S.rd size).1 = a at cd cr
  generalize (S.rd size).2 = er at cd cr
  go_enter Try.func11, Try.ntmps11
  have c0 := HOA.out.c0
  have c3 := HOA.out.c3
  go_wp2_with fail
  clear c0 c3
  generalize World.alloc w _ = W1 at HP HOA ⊢
  refine (cd.out W1 HP.out).mono ?_
  rintro e W2 ⟨rfl, hd, hb⟩
  have c3 := (HOA.out.of_block (hb.block _ HOA.out.lt) hb.size).c3
  have HD := Lib.hid hd
  clear hd hb
  go_wp2_with fail
  clear c3
  refine (cr.out W2 HD.out).mono ?_
  rintro e W3 ⟨rfl, rfl⟩
  have HZ := Lib.hid (HD.out.less (D := P) (fun k hk => .inl hk))
  clear HD
  go_wp2
  go_ret
  exact ⟨rfl, HZ.out⟩

theorem does_any (o : OpV) (ho : o.Ok) (h : Pair w0 w P g r S S) (hc : S.c < 2 ^ 39) (hops : S.ops < 2 ^ 39) :
    Calls Try.prog 11 #[.pointer (some ⟨g, 0, none⟩), .pointer (some ⟨r, 0, none⟩), .agg o.cells.toArray] w fun e w' => e = .returned (.bool true) ∧ Pair w0 w' P g r (DS.doS S o) (DS.doS S o) := by
  obtain ⟨kind, slot, s, size, mask⟩ := o
  have hz := wf_i64 ho.size
  have hsz : size < 2 ^ 63 := by have : size ≤ 9223372036854775807 := hz.2; omega
  have hm : mask < 2 ^ 64 := ho.mask
  show Calls _ _ #[_, _, .agg #[.int .i64 kind, .int .i64 slot, .string s, .int .i64 size, .int .u64 (mask : Int)]] w _
  by_cases h0 : kind = 0
  · rw [show DS.doS S ⟨kind, slot, s, size, mask⟩ = (DS.sw S slot s).1 from if_pos h0]
    exact does_0 kind slot s size mask h0 hsz hm h hc hops
  by_cases h1 : kind = 1
  · rw [show DS.doS S ⟨kind, slot, s, size, mask⟩ = S from (if_neg h0).trans (if_pos h1)]
    exact does_1 kind slot s size mask h0 h1 hsz hm h hc hops
  by_cases h2 : kind = 2
  · rw [show DS.doS S ⟨kind, slot, s, size, mask⟩ = (S.cu size mask).1 from (if_neg h0).trans ((if_neg h1).trans (if_pos h2))]
    exact does_2 kind slot s size mask h0 h1 h2 hsz hm h hc hops
  by_cases h3 : kind = 3
  · rw [show DS.doS S ⟨kind, slot, s, size, mask⟩ = S.fail mask from (if_neg h0).trans ((if_neg h1).trans ((if_neg h2).trans (if_pos h3)))]
    exact does_3 kind slot s size mask h0 h1 h2 h3 hsz hm h hc hops
  by_cases h4 : kind = 4
  · rw [show DS.doS S ⟨kind, slot, s, size, mask⟩ = S.start from (if_neg h0).trans ((if_neg h1).trans ((if_neg h2).trans ((if_neg h3).trans (if_pos h4))))]
    exact does_4 kind slot s size mask h0 h1 h2 h3 h4 hsz hm h hc hops
  · rw [show DS.doS S ⟨kind, slot, s, size, mask⟩ = S from (if_neg h0).trans ((if_neg h1).trans ((if_neg h2).trans ((if_neg h3).trans (if_neg h4))))]
    exact does_5 kind slot s size mask h0 h1 h2 h3 h4 hsz hm h hc hops
end

end Go.Proofs.Ythddiijnomhpfaa.Sl
