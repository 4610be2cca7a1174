/- Each call of a disk, and of the document's disk, as one function over states; both side by side. No condition but those that each states. -/
import Derived.Test.YtkplmaaeggnbgaaDoorDkRx
namespace Go.Proofs.YtkplmaaeggnbgaaDoor.Dk
open Go.RowKit

/-! what each call does, and answers -/
def DS.wr (S : DS) (i : Int) (s : ByteArray) : DS × Int :=
  if S.on = false then (S, 7) else if hasB i S.L.length = false ∨ s.size ≠ 64 then (S, 1) else ((S.write i.toNat s.data.toList).1, errOf (S.write i.toNat s.data.toList).2)
def DS.sy (S : DS) : DS × Int := if S.on = false then (S, 7) else (S.sync.1, errOf S.sync.2)
def DS.cu (S : DS) (k : Int) (m : Nat) : DS × Int := if k < 0 then (S, 1) else (S.plan k.toNat m, 0)
def DS.rd (S : DS) (i : Int) : ByteArray × Int :=
  if S.on = false then (ByteArray.empty, 7) else if hasB i S.L.length = false then (ByteArray.empty, 1) else (strOf (S.read i.toNat), 0)

theorem hasB_yes {i : Int} {n : Nat} (h : ¬(hasB i n = false)) : ∃ k : Nat, i = k ∧ k < n := by
  have h2 : hasB i n = true := by cases e : hasB i n; exact absurd e h; rfl
  have h3 := of_decide_eq_true h2
  exact ⟨i.toNat, by omega, by omega⟩
theorem hasB_no {i : Int} {n : Nat} (h : hasB i n = false) : i < 0 ∨ (n : Int) ≤ i := by
  have := of_decide_eq_false h
  omega

variable {F : Nat → Prop} {g : Nat} {S : DS}

theorem DiskAt.more {w : World} (h : DiskAt w F g S) : DiskAt w (More F w) g S := h.mono (fun _ e => .inl e)
theorem RefAt.more {w : World} (h : RefAt w F g S) : RefAt w (More F w) g S := h.mono (fun _ e => .inl e)

theorem d_write (i : Int) (s : ByteArray) (w : World) (h : DiskAt w F g S) (hc : S.c < 2 ^ 40) (ho : S.ops ≤ 2 ^ 40) :
    Calls Tryd.prog 20 #[.pointer (some ⟨g, 0, none⟩), .int .i64 i, .string s] w fun e w' => e = .returned (.int .i64 (S.wr i s).2) ∧ DiskAt w' (More F w) g (S.wr i s).1 ∧ Only F w w' := by
  unfold DS.wr
  by_cases hon : S.on = false
  · rw [if_pos hon]
    exact (write_off F g S i s w h hon).mono fun _ _ ⟨a, b⟩ => by subst b; exact ⟨a, h.more, Only.refl _ _⟩
  · rw [if_neg hon]
    have hon' : S.on = true := by cases e : S.on; exact absurd e hon; rfl
    by_cases hb : hasB i S.L.length = false ∨ s.size ≠ 64
    · rw [if_pos hb]
      exact (write_bad F g S i s w h hon' hb).mono fun _ _ ⟨a, b⟩ => by subst b; exact ⟨a, h.more, Only.refl _ _⟩
    · rw [if_neg hb]
      obtain ⟨k, rfl, hk⟩ := hasB_yes (fun e => hb (.inl e))
      have hl : s.data.toList.length = 64 := by
        have : s.size = 64 := Decidable.byContradiction fun e => hb (.inr e)
        simpa using this
      have := write_ok F g S k s.data.toList w h hon' hk hl hc ho
      rwa [strOf_self] at this

theorem r_write (i : Int) (s : ByteArray) (w : World) (h : RefAt w F g S) (hc : S.c < 2 ^ 40) (ho : S.ops ≤ 2 ^ 40) :
    Calls Tryd.prog 21 #[.pointer (some ⟨g, 0, none⟩), .int .i64 i, .string s] w fun e w' => e = .returned (.int .i64 (S.wr i s).2) ∧ RefAt w' (More F w) g (S.wr i s).1 ∧ Only F w w' := by
  unfold DS.wr
  by_cases hon : S.on = false
  · rw [if_pos hon]
    exact (ref_write_off g S i s F w h hon).mono fun _ _ ⟨a, b⟩ => by subst b; exact ⟨a, h.more, Only.refl _ _⟩
  · rw [if_neg hon]
    have hon' : S.on = true := by cases e : S.on; exact absurd e hon; rfl
    by_cases hb : hasB i S.L.length = false ∨ s.size ≠ 64
    · rw [if_pos hb]
      exact (ref_write_bad g S i s F w h hon' (hb.elim (fun e => (hasB_no e).elim .inl (fun e => .inr (.inl e))) (fun e => .inr (.inr e)))).mono fun _ _ ⟨a, b⟩ => by subst b; exact ⟨a, h.more, Only.refl _ _⟩
    · rw [if_neg hb]
      obtain ⟨k, rfl, hk⟩ := hasB_yes (fun e => hb (.inl e))
      have hl : s.data.toList.length = 64 := by
        have : s.size = 64 := Decidable.byContradiction fun e => hb (.inr e)
        simpa using this
      have := ref_write_ok g k S s.data.toList F w h hon' hk hl hc ho
      rwa [strOf_self] at this

theorem d_sync (w : World) (h : DiskAt w F g S) (hc : S.c ≤ 2 ^ 40) (ho : S.ops ≤ 2 ^ 40) :
    Calls Tryd.prog 22 #[.pointer (some ⟨g, 0, none⟩)] w fun e w' => e = .returned (.int .i64 S.sy.2) ∧ DiskAt w' (More F w) g S.sy.1 ∧ Only F w w' := by
  unfold DS.sy
  by_cases hon : S.on = false
  · rw [if_pos hon]
    exact (sync_off F g S w h hon).mono fun _ _ ⟨a, b⟩ => by subst b; exact ⟨a, h.more, Only.refl _ _⟩
  · rw [if_neg hon]
    have hon' : S.on = true := by cases e : S.on; exact absurd e hon; rfl
    exact (sync_ok F g S w h hon' hc ho).mono fun _ _ ⟨a, b, c⟩ => ⟨a, b.mono (fun _ e => .inl e), c⟩

theorem r_sync (w : World) (h : RefAt w F g S) (hc : S.c ≤ 2 ^ 40) (ho : S.ops ≤ 2 ^ 40) :
    Calls Tryd.prog 23 #[.pointer (some ⟨g, 0, none⟩)] w fun e w' => e = .returned (.int .i64 S.sy.2) ∧ RefAt w' (More F w) g S.sy.1 ∧ Only F w w' := by
  unfold DS.sy
  by_cases hon : S.on = false
  · rw [if_pos hon]
    exact (ref_sync_off g S F w h hon).mono fun _ _ ⟨a, b⟩ => by subst b; exact ⟨a, h.more, Only.refl _ _⟩
  · rw [if_neg hon]
    have hon' : S.on = true := by cases e : S.on; exact absurd e hon; rfl
    exact ref_sync_on g S F w h hon' hc ho

theorem d_cut (k : Int) (m : Nat) (w : World) (h : DiskAt w F g S) (hk : k < 2 ^ 63) (hm : m < 2 ^ 64) :
    Calls Tryd.prog 24 #[.pointer (some ⟨g, 0, none⟩), .int .i64 k, .int .u64 (m : Int)] w fun e w' => e = .returned (.int .i64 (S.cu k m).2) ∧ DiskAt w' (More F w) g (S.cu k m).1 ∧ Only F w w' := by
  unfold DS.cu
  by_cases h0 : k < 0
  · rw [if_pos h0]
    exact (cut_bad F g S k m w h h0).mono fun _ _ ⟨a, b⟩ => by subst b; exact ⟨a, h.more, Only.refl _ _⟩
  · rw [if_neg h0]
    obtain ⟨n, rfl⟩ := Int.eq_ofNat_of_zero_le (show 0 ≤ k by omega)
    exact (cut_ok F g S n m w h (by omega) hm).mono fun _ _ ⟨a, b, c⟩ => ⟨a, b.mono (fun _ e => .inl e), c⟩

theorem r_cut (k : Int) (m : Nat) (w : World) (h : RefAt w F g S) (hk : k < 2 ^ 63) (hm : m < 2 ^ 64) :
    Calls Tryd.prog 25 #[.pointer (some ⟨g, 0, none⟩), .int .i64 k, .int .u64 (m : Int)] w fun e w' => e = .returned (.int .i64 (S.cu k m).2) ∧ RefAt w' (More F w) g (S.cu k m).1 ∧ Only F w w' := by
  unfold DS.cu
  by_cases h0 : k < 0
  · rw [if_pos h0]
    exact (ref_cut_bad (some ⟨g, 0, none⟩) k m h0 w).mono fun _ _ ⟨a, b⟩ => by subst b; exact ⟨a, h.more, Only.refl _ _⟩
  · rw [if_neg h0]
    obtain ⟨n, rfl⟩ := Int.eq_ofNat_of_zero_le (show 0 ≤ k by omega)
    exact (ref_cut_ok g S n m (by omega) hm F w h).mono fun _ _ ⟨a, b, c⟩ => ⟨a, b.mono (fun _ e => .inl e), c⟩

theorem d_fail (m : Nat) (w : World) (h : DiskAt w F g S) (hm : m < 2 ^ 64) (hc : S.c ≤ 2 ^ 40) :
    Calls Tryd.prog 26 #[.pointer (some ⟨g, 0, none⟩), .int .u64 (m : Int)] w fun e w' => e = .returned (.tuple #[]) ∧ DiskAt w' (More F w) g (S.fail m) ∧ Only F w w' :=
  (fail_any F g m S w h hm hc).mono fun _ _ ⟨a, b, c⟩ => ⟨a, b.mono (fun _ e => .inl e), c⟩

theorem r_fail (m : Nat) (w : World) (h : RefAt w F g S) (hm : m < 2 ^ 64) (hc : S.c ≤ 2 ^ 40) :
    Calls Tryd.prog 27 #[.pointer (some ⟨g, 0, none⟩), .int .u64 (m : Int)] w fun e w' => e = .returned (.tuple #[]) ∧ RefAt w' (More F w) g (S.fail m) ∧ Only F w w' := by
  by_cases hon : S.on = false
  · have e : S.fail m = S := by unfold DS.fail; rw [hon]; rfl
    rw [e]
    exact (ref_fail_off g S m F w h hon).mono fun _ _ ⟨a, b⟩ => by subst b; exact ⟨a, h.more, Only.refl _ _⟩
  · have hon' : S.on = true := by cases e : S.on; exact absurd e hon; rfl
    exact ref_fail_on g S m hm F w h hon' hc

theorem d_start (w : World) (h : DiskAt w F g S) :
    Calls Tryd.prog 28 #[.pointer (some ⟨g, 0, none⟩)] w fun e w' => e = .returned (.tuple #[]) ∧ DiskAt w' (More F w) g S.start ∧ Only F w w' :=
  (start_any F g S w h).mono fun _ _ ⟨a, b, c⟩ => ⟨a, b.mono (fun _ e => .inl e), c⟩

/-- What switches the document's disk on: a store. -/
theorem RefAt.start {w : World} (h : RefAt w F g S) : RefAt (w.setCell ⟨g, 2, none⟩ (.bool false)) F g S.start ∧ Only F w (w.setCell ⟨g, 2, none⟩ (.bool false)) ∧ w.cell? ⟨g, 2, none⟩ = some (.bool (!S.on)) ∧ w.frozen? ⟨g, 2, none⟩ = false := by
  obtain ⟨vl, vw, a, m, hR, h1, h2, h3⟩ := h
  have := hR.put 2 (by decide) (.bool false) (a' := a) (m' := m) (T := S.start) (by unfold rcells; rfl) rfl rfl hR.ok.start hR.plan hR.size
  exact ⟨⟨vl, vw, a, m, this, h1, h2, h3⟩, (Only.refl F w).setCell ⟨g, 2, none⟩ h1 _, hR.cell (i := 2) rfl, hR.free 2 (by decide)⟩

theorem d_read (i : Int) (w : World) (h : DiskAt w F g S) (hc : S.c ≤ 2 ^ 40) :
    Calls Tryd.prog 66 #[.pointer (some ⟨g, 0, none⟩), .int .i64 i] w fun e w' => e = .returned (.tuple #[.string (S.rd i).1, .int .i64 (S.rd i).2]) ∧ Below w.heap.size w w' := by
  unfold DS.rd
  by_cases hon : S.on = false
  · rw [if_pos hon]
    exact (read_off F g S i w h hon).mono fun _ _ ⟨a, b⟩ => by subst b; exact ⟨a, Below.refl _ _⟩
  · rw [if_neg hon]
    have hon' : S.on = true := by cases e : S.on; exact absurd e hon; rfl
    by_cases hb : hasB i S.L.length = false
    · rw [if_pos hb]
      exact (read_bad F g S i w h hon' hb).mono fun _ _ ⟨a, b⟩ => by subst b; exact ⟨a, Below.refl _ _⟩
    · rw [if_neg hb]
      obtain ⟨k, rfl, hk⟩ := hasB_yes hb
      exact read_any F g S k w h hon' hk hc

theorem r_read (i : Int) (w : World) (h : RefAt w F g S) (hc : S.c ≤ 2 ^ 40) :
    Calls Tryd.prog 69 #[.pointer (some ⟨g, 0, none⟩), .int .i64 i] w fun e w' => e = .returned (.tuple #[.string (S.rd i).1, .int .i64 (S.rd i).2]) ∧ w = w' := by
  unfold DS.rd
  by_cases hon : S.on = false
  · rw [if_pos hon]
    exact ref_read_off g S i F w h hon
  · rw [if_neg hon]
    have hon' : S.on = true := by cases e : S.on; exact absurd e hon; rfl
    by_cases hb : hasB i S.L.length = false
    · rw [if_pos hb]
      exact ref_read_bad g S i F w h hon' (hasB_no hb)
    · rw [if_neg hb]
      obtain ⟨k, rfl, hk⟩ := hasB_yes hb
      exact ref_read_ok g S k F w h hon' hk hc

/-! a disk in the state T and the document's in the state S; none of P's blocks is one of theirs -/
structure Two (w0 w : World) (F G : Nat → Prop) (g r : Nat) (T S : DS) : Prop where
  d : DiskAt w F g T
  r : RefAt w G r S
  ap : ∀ k, F k → ¬G k
  lf : ∀ k, F k → w0.heap.size ≤ k ∧ k < w.heap.size
  lg : ∀ k, G k → w0.heap.size ≤ k ∧ k < w.heap.size
  below : Below w0.heap.size w0 w

def Pair (w0 w : World) (P : Nat → Prop) (g r : Nat) (T S : DS) : Prop := ∃ F G, Two w0 w F G g r T S ∧ ∀ k, P k → k < w.heap.size ∧ ¬F k ∧ ¬G k

section
variable {w0 w w' : World} {P D : Nat → Prop} {r : Nat} {T T' S' : DS}

theorem Pair.below (h : Pair w0 w P g r T S) : Below w0.heap.size w0 w := by obtain ⟨F, G, h, -⟩ := h; exact h.below
theorem Pair.later (h : Pair w0 w P g r T S) (k : Below w.heap.size w w') : Pair w0 w' P g r T S := by
  obtain ⟨F, G, h, hp⟩ := h
  have := k.size
  exact ⟨F, G, ⟨h.d.below k, h.r.below k, h.ap, fun i hi => ⟨(h.lf i hi).1, Nat.lt_of_lt_of_le (h.lf i hi).2 this⟩, fun i hi => ⟨(h.lg i hi).1, Nat.lt_of_lt_of_le (h.lg i hi).2 this⟩, chain2 h.below k⟩, fun i hi => ⟨Nat.lt_of_lt_of_le (hp i hi).1 this, (hp i hi).2⟩⟩
theorem Pair.less (h : Pair w0 w P g r T S) (hPD : ∀ k, D k → P k) : Pair w0 w D g r T S := by
  obtain ⟨F, G, h, hp⟩ := h; exact ⟨F, G, h, fun k hk => hp k (hPD k hk)⟩
/-- Blocks that came behind both are none of theirs. -/
theorem Pair.fresh (h : Pair w0 w P g r T S) (k : Below w.heap.size w w') (hD : ∀ i, D i → w.heap.size ≤ i ∧ i < w'.heap.size) : Pair w0 w' (fun i => P i ∨ D i) g r T S := by
  obtain ⟨F, G, h', hp⟩ := h.later k
  obtain ⟨F, G, h, hp⟩ := h
  have := k.size
  exact ⟨F, G, ⟨h.d.below k, h.r.below k, h.ap, fun i hi => ⟨(h.lf i hi).1, Nat.lt_of_lt_of_le (h.lf i hi).2 this⟩, fun i hi => ⟨(h.lg i hi).1, Nat.lt_of_lt_of_le (h.lg i hi).2 this⟩, chain2 h.below k⟩,
    fun i hi => hi.elim (fun e => ⟨Nat.lt_of_lt_of_le (hp i e).1 this, (hp i e).2⟩) (fun e => ⟨(hD i e).2, fun hf => absurd (h.lf i hf).2 (Nat.not_lt.2 (hD i e).1), fun hg => absurd (h.lg i hg).2 (Nat.not_lt.2 (hD i e).1)⟩)⟩
theorem Pair.lt (h : Pair w0 w P g r T S) : g < w.heap.size ∧ r < w.heap.size ∧ w0.heap.size ≤ g := by
  obtain ⟨F, G, h, -⟩ := h
  obtain ⟨vl, vw, a, m, hR, h1, -⟩ := h.r
  exact ⟨h.d.lt, hR.lt, (h.lf g h.d.in_F).1⟩

theorem Pair.stepD {f : Nat} {args : Array Value} {Ans : Ending → Prop} (h : Pair w0 w P g r T S) (C : ∀ F, DiskAt w F g T → Calls Tryd.prog f args w fun e w' => Ans e ∧ DiskAt w' (More F w) g T' ∧ Only F w w') :
    Calls Tryd.prog f args w fun e w' => Ans e ∧ Pair w0 w' P g r T' S ∧ Only (fun k => ¬P k) w w' := by
  obtain ⟨F, G, h, hp⟩ := h
  refine (C F h.d).mono fun e w' ⟨ha, hd, ho⟩ => ⟨ha, ⟨fun k => More F w k ∧ k < w'.heap.size, G, ⟨hd.tight, h.r.kept ho (fun i h1 h2 => h.ap i h2 h1), fun k hk hg => hk.1.elim (fun e => h.ap k e hg) (fun e => absurd (h.lg k hg).2 (Nat.not_lt.2 e)), fun k hk => ⟨hk.1.elim (fun e => (h.lf k e).1) (fun e => Nat.le_trans h.below.size e), hk.2⟩, fun k hk => ⟨(h.lg k hk).1, Nat.lt_of_lt_of_le (h.lg k hk).2 ho.size⟩, ho.below h.below (fun i hi => (h.lf i hi).1) (Nat.le_refl _)⟩,
    fun k hk => ⟨Nat.lt_of_lt_of_le (hp k hk).1 ho.size, fun e => e.1.elim (hp k hk).2.1 (fun e => absurd (hp k hk).1 (Nat.not_lt.2 e)), (hp k hk).2.2⟩⟩, ho.mono (fun k e e2 => (hp k e2).2.1 e)⟩

theorem Pair.stepR {f : Nat} {args : Array Value} {Ans : Ending → Prop} (h : Pair w0 w P g r T S) (C : ∀ G, RefAt w G r S → Calls Tryd.prog f args w fun e w' => Ans e ∧ RefAt w' (More G w) r S' ∧ Only G w w') :
    Calls Tryd.prog f args w fun e w' => Ans e ∧ Pair w0 w' P g r T S' ∧ Only (fun k => ¬P k) w w' := by
  obtain ⟨F, G, h, hp⟩ := h
  refine (C G h.r).mono fun e w' ⟨ha, hd, ho⟩ => ⟨ha, ⟨F, fun k => More G w k ∧ k < w'.heap.size, ⟨h.d.kept ho (fun i h1 h2 => h.ap i h1 h2), hd.tight, fun k hk hg => hg.1.elim (fun e => h.ap k hk e) (fun e => absurd (h.lf k hk).2 (Nat.not_lt.2 e)), fun k hk => ⟨(h.lf k hk).1, Nat.lt_of_lt_of_le (h.lf k hk).2 ho.size⟩, fun k hk => ⟨hk.1.elim (fun e => (h.lg k e).1) (fun e => Nat.le_trans h.below.size e), hk.2⟩, ho.below h.below (fun i hi => (h.lg i hi).1) (Nat.le_refl _)⟩,
    fun k hk => ⟨Nat.lt_of_lt_of_le (hp k hk).1 ho.size, (hp k hk).2.1, fun e => e.1.elim (hp k hk).2.2 (fun e => absurd (hp k hk).1 (Nat.not_lt.2 e))⟩⟩, ho.mono (fun k e e2 => (hp k e2).2.2 e)⟩

theorem Pair.startR (h : Pair w0 w P g r T S) : w.cell? ⟨r, 2, none⟩ = some (.bool (!S.on)) ∧ w.frozen? ⟨r, 2, none⟩ = false ∧ Pair w0 (w.setCell ⟨r, 2, none⟩ (.bool false)) P g r T S.start ∧ Only (fun k => ¬P k) w (w.setCell ⟨r, 2, none⟩ (.bool false)) := by
  obtain ⟨F, G, h, hp⟩ := h
  obtain ⟨h1, h2, h3, h4⟩ := h.r.start
  have e : (w.setCell ⟨r, 2, none⟩ (.bool false)).heap.size = w.heap.size := by simp
  exact ⟨h3, h4, ⟨F, G, ⟨h.d.kept h2 (fun i h1 h2 => h.ap i h1 h2), h1, h.ap, fun k hk => by rw [e]; exact h.lf k hk, fun k hk => by rw [e]; exact h.lg k hk, h2.below h.below (fun i hi => (h.lg i hi).1) (Nat.le_refl _)⟩, fun k hk => by rw [e]; exact hp k hk⟩, h2.mono (fun k e e2 => (hp k e2).2.2 e)⟩

theorem Pair.readD (i : Int) (h : Pair w0 w P g r T S) (hc : T.c ≤ 2 ^ 40) :
    Calls Tryd.prog 66 #[.pointer (some ⟨g, 0, none⟩), .int .i64 i] w fun e w' => e = .returned (.tuple #[.string (T.rd i).1, .int .i64 (T.rd i).2]) ∧ Pair w0 w' P g r T S ∧ Below w.heap.size w w' := by
  have hh := h
  obtain ⟨F, G, h, -⟩ := h
  exact (d_read i w h.d hc).mono fun _ _ ⟨a, b⟩ => ⟨a, hh.later b, b⟩
theorem Pair.readR (i : Int) (h : Pair w0 w P g r T S) (hc : S.c ≤ 2 ^ 40) :
    Calls Tryd.prog 69 #[.pointer (some ⟨r, 0, none⟩), .int .i64 i] w fun e w' => e = .returned (.tuple #[.string (S.rd i).1, .int .i64 (S.rd i).2]) ∧ w = w' := by
  obtain ⟨F, G, h, -⟩ := h
  exact r_read i w h.r hc
end

/-! what does not grow much -/
theorem step_few (S : DS) : S.step.1.c = S.c ∧ S.step.1.ops = S.ops + 1 := by
  unfold DS.step; split <;> exact ⟨rfl, rfl⟩
theorem wr_few (S : DS) (i : Int) (s : ByteArray) : (S.wr i s).1.c ≤ S.c + 1 ∧ (S.wr i s).1.ops ≤ S.ops + 1 := by
  unfold DS.wr
  split
  · exact ⟨Nat.le_succ _, Nat.le_succ _⟩
  · split
    · exact ⟨Nat.le_succ _, Nat.le_succ _⟩
    · have := step_few (S.put i.toNat s.data.toList)
      exact ⟨Nat.le_of_eq this.1, Nat.le_of_eq this.2⟩
theorem sy_few (S : DS) : S.sy.1.c ≤ S.c ∧ S.sy.1.ops ≤ S.ops + 1 := by
  have := step_few S
  unfold DS.sy DS.sync
  split
  · exact ⟨Nat.le_refl _, Nat.le_succ _⟩
  · split
    · exact ⟨Nat.le_of_eq this.1, Nat.le_of_eq this.2⟩
    · exact ⟨Nat.le_of_eq this.1, Nat.le_of_eq this.2⟩
theorem cu_few (S : DS) (k : Int) (m : Nat) : (S.cu k m).1.c = S.c ∧ (S.cu k m).1.ops = S.ops := by
  unfold DS.cu; split <;> exact ⟨rfl, rfl⟩
theorem fail_few (S : DS) (m : Nat) : (S.fail m).c = S.c ∧ (S.fail m).ops = S.ops := by
  unfold DS.fail; split <;> exact ⟨rfl, rfl⟩

end Go.Proofs.YtkplmaaeggnbgaaDoor.Dk
