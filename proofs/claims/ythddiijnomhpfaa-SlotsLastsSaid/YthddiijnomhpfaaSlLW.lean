/- The walk of SlotsLasts: it returns true. No condition but those that each states. -/
import Derived.Test.YthddiijnomhpfaaSlAW
namespace Go.Proofs.Ythddiijnomhpfaa.Sl
open Go.RowKit Dk

theorem lose_empty {T : DS} (h : T.W = []) (m : Nat) : (T.lose m).L = T.L := by
  show stl m T.W T.L T.W.length = T.L
  rw [h]; rfl

/-- The power fails while nothing waits, and comes back. -/
theorem fail_start {T : DS} (hT : T.Ok) (hW : T.W = []) (m : Nat) : (T.fail m).start.Ok ∧ (T.fail m).start.on = true ∧ (T.fail m).start.W = [] ∧ (T.fail m).start.L = T.L ∧ (T.fail m).start.next = T.next ∧ (T.fail m).start.c = T.c ∧ (T.fail m).start.ops = T.ops := by
  refine ⟨(hT.fail m).start, rfl, ?_⟩
  unfold DS.fail
  split
  · exact ⟨rfl, lose_empty hW m, rfl, rfl, rfl⟩
  · exact ⟨hW, rfl, rfl, rfl, rfl⟩

theorem read_empty {T : DS} (h : T.W = []) (i : Nat) : T.read i = bAt T.L i := by
  unfold DS.read DS.readUpto
  rw [h]; rfl

/-- The states of SlotsLasts, one behind the other. -/
structure LastsC (a b : ByteArray) (σ τ : Int) (k m : Nat) (T1 T5 : DS) (g : Int) (t : ByteArray) : Prop where
  w1 : SwOk (new 40) T1 σ a
  r3 : DS.sr (T1.fail m).start σ (a.size : Int) = (a, 0)
  w5 : DS.sw ((T1.fail m).start.plan k m) τ b = (T5, g)
  code : g = 0 ∧ t = b ∨ g = 7
  r8 : DS.sr ((T5.plan 1099511627776 0).fail 0).start σ (a.size : Int) = (a, 0)
  r9 : DS.sr ((T5.plan 1099511627776 0).fail 0).start τ (b.size : Int) = (t, 0)
  on8 : ((T5.plan 1099511627776 0).fail 0).start.on = true
  len8 : ((T5.plan 1099511627776 0).fail 0).start.L.length = 40
  head : ((T5.plan 1099511627776 0).fail 0).start.read 7 = zeroB
  few : T1.c ≤ 252 ∧ T1.ops ≤ 253 ∧ T5.c ≤ 504 ∧ T5.ops ≤ 506

theorem lastsC (a b : ByteArray) (ha : a.size ≤ 1000) (hb : b.size ≤ 1000) (σ τ : Int) (hst : σ = 0 ∧ τ = 1 ∨ σ = 1 ∧ τ = 0) (k m : Nat) (hk : k < 2 ^ 63) (hm : m < 2 ^ 64) : ∃ T1 T5 g t, LastsC a b σ τ k m T1 T5 g t := by
  have c0 : (new 40).c = 0 := rfl
  have o0 : (new 40).ops = 0 := rfl
  have f0 : first (new 40) 0 = 8 := by kernel_rfl
  have f1 : first (new 40) 1 = 24 := by kernel_rfl
  have l0 : (new 40).L.length = 40 := by simp [new]
  have bs : badSlot σ = false ∧ badSlot τ = false := by rcases hst with ⟨rfl, rfl⟩ | ⟨rfl, rfl⟩ <;> exact ⟨rfl, rfl⟩
  have fs : 8 ≤ first (new 40) σ ∧ 8 ≤ first (new 40) τ := by
    rcases hst with ⟨rfl, rfl⟩ | ⟨rfl, rfl⟩
    · rw [f0, f1]; decide
    · rw [f0, f1]; decide
  have na : nb a.size ≤ 16 := nb_le (by omega)
  have nb' : nb b.size ≤ 16 := nb_le (by omega)
  have O1 := swOk (new_ok (n := 40) (by decide) (by decide)) rfl rfl (slot := σ) bs.1 (s := a) (by rw [new40_each]; omega)
  refine ⟨(DS.sw (new 40) σ a).1, ?_⟩
  generalize (DS.sw (new 40) σ a).1 = T1 at O1 ⊢
  obtain ⟨p1, p2, p3, p4, p5, p6, p7⟩ := fail_start O1.ok O1.wait m
  have q1 := O1.few
  rw [c0, o0] at q1
  have r3 : ∀ i, (T1.fail m).start.read i = T1.read i := fun i => by rw [read_empty p3, p4, read_empty O1.wait]
  have l3 : (T1.fail m).start.L.length = (new 40).L.length := by rw [p4, O1.len]
  have e3 := each_of_len l3
  have F3 := fun slot => first_of_len l3 slot
  have hr1 := O1.read
  have x3 : DS.sr (T1.fail m).start σ (a.size : Int) = (a, 0) := sr_text p2 bs.1 (by rw [e3, new40_each]; omega) (fun j hj => by rw [F3, r3, hr1, if_pos (by omega)]; congr 1; omega)
  have hOk4 : ((T1.fail m).start.plan k m).Ok := p1.plan hk hm
  have l4 : ((T1.fail m).start.plan k m).L.length = (new 40).L.length := l3
  have w4 : ((T1.fail m).start.plan k m).W = [] := p3
  have on4 : ((T1.fail m).start.plan k m).on = true := p2
  have L4 : ((T1.fail m).start.plan k m).L = T1.L := p4
  have c4 : ((T1.fail m).start.plan k m).c = T1.c ∧ ((T1.fail m).start.plan k m).ops = T1.ops := ⟨p6, p7⟩
  generalize hT4 : (T1.fail m).start.plan k m = T4 at *
  have e4 := each_of_len l4
  have F4 := fun slot => first_of_len l4 slot
  have hf4 : b.size ≤ 64 * each T4 := by rw [e4, new40_each]; omega
  have hkeep : Keep (fun i => first T4 τ ≤ i ∧ i < first T4 τ + 16) T4.L T4 := ⟨fun _ _ => rfl, fun j hj => by rw [w4] at hj; exact absurd hj (Nat.not_lt_zero j)⟩
  have K5 := sw_keep hOk4 on4 bs.2 hf4 (fun i h1 h2 => ⟨h1, by rw [e4, new40_each] at h2; exact h2⟩) hkeep
  obtain ⟨s1, s2, s3⟩ := sw_ok hOk4 on4 bs.2 hf4
  have s5 := sw_few T4 τ b hOk4
  refine ⟨(DS.sw T4 τ b).1, (DS.sw T4 τ b).2, ?_⟩
  have hw5 : DS.sw T4 τ b = ((DS.sw T4 τ b).1, (DS.sw T4 τ b).2) := rfl
  generalize (DS.sw T4 τ b).1 = T5 at *
  generalize (DS.sw T4 τ b).2 = g at *
  have w5 : T5.W = [] := s3.elim (fun e => e.2.2.1) (fun e => e.2.2)
  obtain ⟨y1, y2, y3, y4, _, _, _⟩ := fail_start (T := T5.plan 1099511627776 0) (s1.plan (by decide) (by decide)) w5 0
  have r8 : ∀ i, ((T5.plan 1099511627776 0).fail 0).start.read i = T5.read i := fun i => by rw [read_empty y3, y4, read_empty w5]; rfl
  have l8 : ((T5.plan 1099511627776 0).fail 0).start.L.length = (new 40).L.length := by rw [y4]; exact s2.trans l4
  have e8 := each_of_len l8
  have F8 := fun slot => first_of_len l8 slot
  have same : ∀ i, ¬(first T4 τ ≤ i ∧ i < first T4 τ + 16) → T5.read i = T1.read i := fun i hi => by rw [K5.read hi, L4, read_empty O1.wait]
  have x8 : DS.sr ((T5.plan 1099511627776 0).fail 0).start σ (a.size : Int) = (a, 0) := sr_text y2 bs.1 (by rw [e8, new40_each]; omega) (fun j hj => by
    rw [F8, r8, same _ (by rw [F4]; rcases hst with ⟨rfl, rfl⟩ | ⟨rfl, rfl⟩ <;> rw [f0, f1] <;> omega), hr1, if_pos (by omega)]; congr 1; omega)
  have hd : ((T5.plan 1099511627776 0).fail 0).start.read 7 = zeroB := by
    rw [r8, same _ (by rw [F4]; omega), hr1, if_neg (by omega)]
    exact bAt_rep (k := 7) 40 zeroB (by omega)
  have hsr9 : (DS.sr ((T5.plan 1099511627776 0).fail 0).start τ (b.size : Int)).2 = 0 := by
    unfold DS.sr
    rw [if_neg (by rw [bs.2]; decide), if_neg (by rw [e8, new40_each]; omega), if_neg (fun e => by rw [y2] at e; cases e.1)]
  refine ⟨(DS.sr ((T5.plan 1099511627776 0).fail 0).start τ (b.size : Int)).1, ⟨O1, x3, by rw [hT4]; exact hw5, ?_, x8, Prod.ext rfl hsr9, y2, l8.trans l0, hd, by omega⟩⟩
  rcases s3 with ⟨g0, _, _, hr5⟩ | ⟨g7, _, _⟩
  · refine .inl ⟨g0, ?_⟩
    have := sr_text (T := ((T5.plan 1099511627776 0).fail 0).start) y2 bs.2 (s := b) (by rw [e8, new40_each]; omega) (fun j hj => by rw [F8, r8, hr5, F4, if_pos (by omega)]; congr 1; omega)
    rw [this]
  · exact .inr g7

set_option maxHeartbeats 2000000 in
set_option maxRecDepth 100000 in
theorem slotsLasts_long (a b : ByteArray) (f : Bool) (k m : Int) (w : World) (h : ¬(a.size ≤ 1000 ∧ b.size ≤ 1000)) :
    Calls Try.prog 4 #[.agg #[.string a, .string b, .bool f, .int .u8 k, .int .u64 m]] w fun e w' => e = .returned (.bool true) ∧ Below w.heap.size w w' := by
  have hb0 : Below w.heap.size w (w.alloc (.cells #[.string a, .string b, .bool f, .int .u8 k, .int .u64 m] 47)) := (Below.refl _ _).alloc (Nat.le_refl _) _
  have HB0 := Lib.hid hb0
  have CN := Lib.hid (new_dk 40 (by decide) (by decide) (w.alloc (.cells #[.string a, .string b, .bool f, .int .u8 k, .int .u64 m] 47)))
  clear hb0
  by_cases h1 : (1000 : Int) < (a.size : Int)
  · have t1 : decide ((1000 : Int) < (a.size : Int)) = true := decide_eq_true h1
    go_enter Try.func4, Try.ntmps4
    go_wp2_with fail
    refine CN.out.mono ?_
    rintro e w1 ⟨rfl, hb⟩
    have H1 := Lib.hid (chain2 HB0.out hb.below)
    clear hb
    go_wp2_with fail
    refine (known6 w1).mono ?_
    rintro e w2 ⟨rfl, hb⟩
    have H2 := Lib.hid (chain2 H1.out hb)
    clear hb
    go_wp2
    go_ret
    exact ⟨rfl, H2.out⟩
  · have t1 : decide ((1000 : Int) < (a.size : Int)) = false := decide_eq_false h1
    have t2 : decide ((1000 : Int) < (b.size : Int)) = true := decide_eq_true (by omega)
    go_enter Try.func4, Try.ntmps4
    go_wp2_with fail
    refine CN.out.mono ?_
    rintro e w1 ⟨rfl, hb⟩
    have H1 := Lib.hid (chain2 HB0.out hb.below)
    clear hb
    go_wp2_with fail
    refine (known6 w1).mono ?_
    rintro e w2 ⟨rfl, hb⟩
    have H2 := Lib.hid (chain2 H1.out hb)
    clear hb
    go_wp2
    go_ret
    exact ⟨rfl, H2.out⟩

/-- The disk, and the case in its block beside it. -/
structure LsW (w W0 W : World) (f : Bool) (k : Int) (S : DS) : Prop where
  dk : Dk W0 W (fun k => W0.heap.size ≤ k) (W0.heap.size + 2) S
  c2 : W.cell? ⟨w.heap.size, 2, none⟩ = some (.bool f)
  c3 : W.cell? ⟨w.heap.size, 3, none⟩ = some (.int .u8 k)

theorem lsW {w W0 W : World} {f : Bool} {k : Int} {S : DS} (h : Dk W0 W (fun k => W0.heap.size ≤ k) (W0.heap.size + 2) S) (h0 : w.heap.size < W0.heap.size) (h2 : W0.cell? ⟨w.heap.size, 2, none⟩ = some (.bool f)) (h3 : W0.cell? ⟨w.heap.size, 3, none⟩ = some (.int .u8 k)) : LsW w W0 W f k S :=
  ⟨h, (h.below.cell (p := ⟨w.heap.size, 2, none⟩) h0).trans h2, (h.below.cell (p := ⟨w.heap.size, 3, none⟩) h0).trans h3⟩

variable {w0 : World} {F : Nat → Prop} {g : Nat} {S : DS}

theorem dk_plan (k m : Nat) (w : World) (h : Dk w0 w F g S) (hk : k < 2 ^ 63) (hm : m < 2 ^ 64) :
    Calls Try.prog 23 #[.pointer (some ⟨g, 0, none⟩), .int .i64 (k : Int), .int .u64 (m : Int)] w fun e w' => e = .returned (.int .i64 0) ∧ Dk w0 w' F g (S.plan k m) :=
  (dk_cut k m w h hk hm).mono fun _ _ ⟨a, b, _⟩ => ⟨a, b⟩

set_option maxHeartbeats 4000000 in
set_option maxRecDepth 100000 in
theorem slotsLasts_short (a b : ByteArray) (f : Bool) (k : Int) (m : Nat) (w : World) (ha : a.size ≤ 1000) (hb : b.size ≤ 1000) (hk : 0 ≤ k ∧ k < 256) (hm : m < 2 ^ 64) :
    Calls Try.prog 4 #[.agg #[.string a, .string b, .bool f, .int .u8 k, .int .u64 (m : Int)]] w fun e w' => e = .returned (.bool true) ∧ Below w.heap.size w w' := by
  obtain ⟨σ, τ, hst⟩ : ∃ σ τ : Int, f = false ∧ σ = 0 ∧ τ = 1 ∨ f = true ∧ σ = 1 ∧ τ = 0 := by
    cases f
    · exact ⟨0, 1, .inl ⟨rfl, rfl, rfl⟩⟩
    · exact ⟨1, 0, .inr ⟨rfl, rfl, rfl⟩⟩
  obtain ⟨kk, hkk⟩ : ∃ kk : Nat, (kk : Int) = k % 20 := ⟨(k % 20).toNat, by omega⟩
  have hkb : kk < 20 := by omega
  obtain ⟨T1, T5, gg, tt, L⟩ := lastsC a b ha hb σ τ (hst.imp (fun e => e.2) (fun e => e.2)) kk m (by omega) hm
  have t1 : decide ((1000 : Int) < (a.size : Int)) = false := decide_eq_false (by omega)
  have t2 : decide ((1000 : Int) < (b.size : Int)) = false := decide_eq_false (by omega)
  have hf := L.few
  have f2 := (fail_few T1 m)
  have f8 := (fail_few (T5.plan 1099511627776 0) 0)
  obtain ⟨W0, hW0⟩ : ∃ W0, w.alloc (.cells #[.string a, .string b, .bool f, .int .u8 k, .int .u64 (m : Int)] 47) = W0 := ⟨_, rfl⟩
  have hb0 : Below w.heap.size w W0 := by rw [← hW0]; exact (Below.refl _ _).alloc (Nat.le_refl _) _
  have hs0 : w.heap.size < W0.heap.size := by rw [← hW0]; simp
  have k2 : W0.cell? ⟨w.heap.size, 2, none⟩ = some (.bool f) := by rw [← hW0, World.cell?_alloc_mark]; rfl
  have k3 : W0.cell? ⟨w.heap.size, 3, none⟩ = some (.int .u8 k) := by rw [← hW0, World.cell?_alloc_mark]; rfl
  have HL : Hid (∀ W S, Dk W0 W (fun k => W0.heap.size ≤ k) (W0.heap.size + 2) S → LsW w W0 W f k S) := Lib.hid (fun W S h => lsW h hs0 k2 k3)
  have CN : Hid (Calls Try.prog 9 #[.int .i64 40] W0 fun e w' => e = .returned (.tuple #[.pointer (some ⟨W0.heap.size + 2, 0, none⟩), .int .i64 0]) ∧ LsW w W0 w' f k (new 40)) := Lib.hid ((new_dk 40 (by decide) (by decide) W0).mono fun _ _ ⟨a, b⟩ => ⟨a, HL.out _ _ b⟩)
  have C0 : Hid (∀ W, LsW w W0 W f k (new 40) → Calls Try.prog 16 #[.pointer (some ⟨W0.heap.size + 2, 0, none⟩), .int .i64 7] W fun e w' => e = .returned (.tuple #[.string (strOf zeroB), .int .i64 0]) ∧ LsW w W0 w' f k (new 40)) :=
    Lib.hid (fun W h => (dk_rd 7 W h.dk rfl (by decide) (by decide) (bAt_rep (k := 7) 40 zeroB (by decide))).mono fun _ _ ⟨a, b⟩ => ⟨a, HL.out _ _ b⟩)
  have C1 : Hid (∀ W, LsW w W0 W f k (new 40) → Calls Try.prog 19 #[.pointer (some ⟨W0.heap.size + 2, 0, none⟩), .int .i64 σ, .string a] W fun e w' => e = .returned (.int .i64 0) ∧ LsW w W0 w' f k T1) :=
    Lib.hid (fun W h => (dk_swOk L.w1 W h.dk (by decide) (by decide)).mono fun _ _ ⟨a, b⟩ => ⟨a, HL.out _ _ b⟩)
  have C2 : Hid (∀ W, LsW w W0 W f k T1 → Calls Try.prog 20 #[.pointer (some ⟨W0.heap.size + 2, 0, none⟩), .int .u64 (m : Int)] W fun e w' => e = .returned (.tuple #[]) ∧ LsW w W0 w' f k (T1.fail m)) :=
    Lib.hid (fun W h => (dk_fail m W h.dk hm (by omega)).mono fun _ _ ⟨a, b, _⟩ => ⟨a, HL.out _ _ b⟩)
  have C3 : Hid (∀ W, LsW w W0 W f k (T1.fail m) → Calls Try.prog 21 #[.pointer (some ⟨W0.heap.size + 2, 0, none⟩)] W fun e w' => e = .returned (.tuple #[]) ∧ LsW w W0 w' f k (T1.fail m).start) :=
    Lib.hid (fun W h => (dk_start W h.dk).mono fun _ _ ⟨a, b, _⟩ => ⟨a, HL.out _ _ b⟩)
  have C4 : Hid (∀ W, LsW w W0 W f k (T1.fail m).start → Calls Try.prog 22 #[.pointer (some ⟨W0.heap.size + 2, 0, none⟩), .int .i64 σ, .int .i64 (a.size : Int)] W fun e w' => e = .returned (.tuple #[.string a, .int .i64 0]) ∧ LsW w W0 w' f k (T1.fail m).start) :=
    Lib.hid (fun W h => (dk_srOk L.r3 W h.dk (by show (T1.fail m).c ≤ _; omega)).mono fun _ _ ⟨a, b⟩ => ⟨a, HL.out _ _ b⟩)
  have C5 : Hid (∀ W, LsW w W0 W f k (T1.fail m).start → Calls Try.prog 23 #[.pointer (some ⟨W0.heap.size + 2, 0, none⟩), .int .i64 (k % 20), .int .u64 (m : Int)] W fun e w' => e = .returned (.int .i64 0) ∧ LsW w W0 w' f k ((T1.fail m).start.plan kk m)) :=
    Lib.hid (fun W h => by rw [← hkk]; exact (dk_plan kk m W h.dk (by omega) hm).mono fun _ _ ⟨a, b⟩ => ⟨a, HL.out _ _ b⟩)
  have C6 : Hid (∀ W, LsW w W0 W f k ((T1.fail m).start.plan kk m) → Calls Try.prog 19 #[.pointer (some ⟨W0.heap.size + 2, 0, none⟩), .int .i64 τ, .string b] W fun e w' => e = .returned (.int .i64 gg) ∧ LsW w W0 w' f k T5) :=
    Lib.hid (fun W h => (dk_sw τ b W h.dk (by show (T1.fail m).c + 1000 ≤ _; omega) (by show (T1.fail m).ops + 1000 ≤ _; omega)).mono fun _ _ ⟨a, b, _⟩ => by
      rw [L.w5] at a b
      exact ⟨a, HL.out _ _ b⟩)
  have C7 : Hid (∀ W, LsW w W0 W f k T5 → Calls Try.prog 23 #[.pointer (some ⟨W0.heap.size + 2, 0, none⟩), .int .i64 1099511627776, .int .u64 0] W fun e w' => e = .returned (.int .i64 0) ∧ LsW w W0 w' f k (T5.plan 1099511627776 0)) :=
    Lib.hid (fun W h => (dk_plan 1099511627776 0 W h.dk (by decide) (by decide)).mono fun _ _ ⟨a, b⟩ => ⟨a, HL.out _ _ b⟩)
  have C8 : Hid (∀ W, LsW w W0 W f k (T5.plan 1099511627776 0) → Calls Try.prog 20 #[.pointer (some ⟨W0.heap.size + 2, 0, none⟩), .int .u64 0] W fun e w' => e = .returned (.tuple #[]) ∧ LsW w W0 w' f k ((T5.plan 1099511627776 0).fail 0)) :=
    Lib.hid (fun W h => (dk_fail 0 W h.dk (by decide) (by show T5.c ≤ _; omega)).mono fun _ _ ⟨a, b, _⟩ => ⟨a, HL.out _ _ b⟩)
  have C9 : Hid (∀ W, LsW w W0 W f k ((T5.plan 1099511627776 0).fail 0) → Calls Try.prog 21 #[.pointer (some ⟨W0.heap.size + 2, 0, none⟩)] W fun e w' => e = .returned (.tuple #[]) ∧ LsW w W0 w' f k ((T5.plan 1099511627776 0).fail 0).start) :=
    Lib.hid (fun W h => (dk_start W h.dk).mono fun _ _ ⟨a, b, _⟩ => ⟨a, HL.out _ _ b⟩)
  have f8c : ((T5.plan 1099511627776 0).fail 0).start.c ≤ 2 ^ 40 := by show ((T5.plan 1099511627776 0).fail 0).c ≤ _; rw [f8.1]; show T5.c ≤ _; omega
  have CA : Hid (∀ W, LsW w W0 W f k ((T5.plan 1099511627776 0).fail 0).start → Calls Try.prog 22 #[.pointer (some ⟨W0.heap.size + 2, 0, none⟩), .int .i64 σ, .int .i64 (a.size : Int)] W fun e w' => e = .returned (.tuple #[.string a, .int .i64 0]) ∧ LsW w W0 w' f k ((T5.plan 1099511627776 0).fail 0).start) :=
    Lib.hid (fun W h => (dk_srOk L.r8 W h.dk f8c).mono fun _ _ ⟨a, b⟩ => ⟨a, HL.out _ _ b⟩)
  have CB : Hid (∀ W, LsW w W0 W f k ((T5.plan 1099511627776 0).fail 0).start → Calls Try.prog 22 #[.pointer (some ⟨W0.heap.size + 2, 0, none⟩), .int .i64 τ, .int .i64 (b.size : Int)] W fun e w' => e = .returned (.tuple #[.string tt, .int .i64 0]) ∧ LsW w W0 w' f k ((T5.plan 1099511627776 0).fail 0).start) :=
    Lib.hid (fun W h => (dk_sr τ _ W h.dk f8c).mono fun _ _ ⟨a, b, _⟩ => by
      rw [L.r9] at a
      exact ⟨a, HL.out _ _ b⟩)
  have CC : Hid (∀ W, LsW w W0 W f k ((T5.plan 1099511627776 0).fail 0).start → Calls Try.prog 16 #[.pointer (some ⟨W0.heap.size + 2, 0, none⟩), .int .i64 7] W fun e w' => e = .returned (.tuple #[.string (strOf zeroB), .int .i64 0]) ∧ LsW w W0 w' f k ((T5.plan 1099511627776 0).fail 0).start) :=
    Lib.hid (fun W h => (dk_rd 7 W h.dk L.on8 (by rw [L.len8]; decide) f8c L.head).mono fun _ _ ⟨a, b⟩ => ⟨a, HL.out _ _ b⟩)
  have hcode := L.code
  have HB0 := Lib.hid hb0
  clear hb0 hs0 k2 k3 HL L hf f2 f8 f8c hkk hkb hm ha hb
  generalize ((T5.plan 1099511627776 0).fail 0).start = T8 at *
  generalize (T5.plan 1099511627776 0).fail 0 = T7 at *
  generalize T5.plan 1099511627776 0 = T6 at *
  generalize (T1.fail m).start.plan kk m = T4 at *
  generalize (T1.fail m).start = T3 at *
  generalize T1.fail m = T2 at *
  generalize new 40 = S0 at *
  generalize strOf zeroB = Z at *
  have r0 := hk.1
  have r1 := hk.2
  clear hk
  have HW0 := Lib.hid hW0
  clear hW0
  rcases hst with ⟨rfl, rfl, rfl⟩ | ⟨rfl, rfl, rfl⟩
  all_goals
    go_enter Try.func4, Try.ntmps4
    go_wp2_with fail
    rw [HW0.out]
    refine CN.out.mono ?_
    rintro e w1 ⟨rfl, hb⟩
    have H1 := Lib.hid hb
    clear hb CN HW0
    have x2 := H1.out.c2
    go_wp2_with fail
    refine (C0.out w1 H1.out).mono ?_
    rintro e w2 ⟨rfl, hb⟩
    have H2 := Lib.hid hb
    clear hb H1 C0
    clear x2
    go_wp2_with fail
    refine (C1.out w2 H2.out).mono ?_
    rintro e w3 ⟨rfl, hb⟩
    have H3 := Lib.hid hb
    clear hb H2 C1
    go_wp2_with fail
    refine (C2.out w3 H3.out).mono ?_
    rintro e w4 ⟨rfl, hb⟩
    have H4 := Lib.hid hb
    clear hb H3 C2
    go_wp2_with fail
    refine (C3.out w4 H4.out).mono ?_
    rintro e w5 ⟨rfl, hb⟩
    have H5 := Lib.hid hb
    clear hb H4 C3
    go_wp2_with fail
    refine (C4.out w5 H5.out).mono ?_
    rintro e w6 ⟨rfl, hb⟩
    have H6 := Lib.hid hb
    clear hb H5 C4
    have x3 := H6.out.c3
    go_wp2_with fail
    refine (C5.out w6 H6.out).mono ?_
    rintro e w7 ⟨rfl, hb⟩
    have H7 := Lib.hid hb
    clear hb H6 C5
    clear x3
    go_wp2_with fail
    refine (C6.out w7 H7.out).mono ?_
    rintro e w8 ⟨rfl, hb⟩
    have H8 := Lib.hid hb
    clear hb H7 C6
    go_wp2_with fail
    refine (C7.out w8 H8.out).mono ?_
    rintro e w9 ⟨rfl, hb⟩
    have H9 := Lib.hid hb
    clear hb H8 C7
    go_wp2_with fail
    refine (C8.out w9 H9.out).mono ?_
    rintro e wA ⟨rfl, hb⟩
    have HA := Lib.hid hb
    clear hb H9 C8
    go_wp2_with fail
    refine (C9.out wA HA.out).mono ?_
    rintro e wB ⟨rfl, hb⟩
    have HB := Lib.hid hb
    clear hb HA C9
    go_wp2_with fail
    refine (CA.out wB HB.out).mono ?_
    rintro e wC ⟨rfl, hb⟩
    have HC := Lib.hid hb
    clear hb HB CA
    go_wp2_with fail
    refine (CB.out wC HC.out).mono ?_
    rintro e wD ⟨rfl, hb⟩
    have HD := Lib.hid hb
    clear hb HC CB
    go_wp2_with fail
    refine (CC.out wD HD.out).mono ?_
    rintro e wE ⟨rfl, hb⟩
    have HE := Lib.hid hb
    clear hb HD CC
    have HF := Lib.hid (chain2 HB0.out HE.out.dk.below)
    clear HE HB0
    rcases hcode with ⟨rfl, rfl⟩ | rfl
    all_goals
      go_wp2_with fail
      refine (known6 _).mono ?_
      rintro e wF ⟨rfl, hb⟩
      have HG := Lib.hid (chain2 HF.out hb)
      clear hb
      go_wp2
      go_ret
      exact ⟨rfl, HG.out⟩

end Go.Proofs.Ythddiijnomhpfaa.Sl
