/- A round of RingCrashes, over states; no walk. No condition but those that each states. -/
import Derived.Test.YtkplmaaeggnbgaaDoorRgM
namespace Go.Proofs.YtkplmaaeggnbgaaDoor.Rg
open Go.RowKit Dk

theorem stl_one (m k : Nat) (s : Bytes) (L : List Bytes) : stl m [(k, s)] L 1 = if bit m 0 then L.set k s else L := rfl
theorem readE {T : DS} (h : T.W = []) (i : Nat) : T.read i = bAt T.L i := by
  unfold DS.read DS.readUpto
  rw [h]; rfl
theorem stepF (S : DS) : S.step.1.c = S.c ∧ S.step.1.ops = S.ops + 1 := by
  unfold DS.step; split <;> exact ⟨rfl, rfl⟩
theorem write_few (S : DS) (a : Nat) (s : Bytes) : (S.write a s).1.c = S.c + 1 ∧ (S.write a s).1.ops = S.ops + 1 := stepF (S.put a s)
theorem sync_few (S : DS) : S.sync.1.c = S.c ∧ S.sync.1.ops = S.ops + 1 := by
  have := stepF S
  unfold DS.sync
  split
  · exact this
  · exact this

theorem write_len (S : DS) (a : Nat) (s : Bytes) : (S.write a s).1.L.length = S.L.length := by
  rcases write_cases S a s with ⟨_, _, e, _⟩ | ⟨_, _, _, m, e⟩
  · rw [e]
  · rw [e, stl_length]
theorem sync_len (S : DS) : S.sync.1.L.length = S.L.length := by
  rcases sync_cases S with ⟨_, _, _, e⟩ | ⟨_, _, _, m, e⟩ <;> rw [e, stl_length]

/-- An Append of a good entry, while nothing waits. -/
theorem app_cases {S : DS} {e : Ent} (hS : S.Ok) (hon : S.on = true) (hW : S.W = []) (hn : e.number = lastN S + 1) (hv : e.valid = true) {k : Nat} (hk : e.number % 8 = (k : Int)) :
    (DS.app S e).1.Ok ∧ (DS.app S e).1.W = [] ∧ (DS.app S e).1.L.length = S.L.length ∧ (DS.app S e).1.c ≤ S.c + 1 ∧ (DS.app S e).1.ops ≤ S.ops + 2 ∧
    ((DS.app S e).2 = (e, 0) ∧ (DS.app S e).1.on = true ∧ (∀ i, (DS.app S e).1.read i = if k = i then e.blk else S.read i) ∨
     (DS.app S e).2 = (Ent.zero, 7) ∧ (DS.app S e).1.on = false ∧ ((∀ i, (DS.app S e).1.read i = S.read i) ∨ (∀ i, (DS.app S e).1.read i = if k = i then e.blk else S.read i))) := by
  obtain ⟨b0, b1⟩ := lastN_ok S
  have hnum := valid_number hv
  have he : e.num (lastN S + 1) = e := by rw [← hn]; rfl
  have hkk : (e.number % 8).toNat = k := by omega
  have hlo := hS.lo
  have hk8 : k < S.L.length := by omega
  have hb64 := blk_length (valid_sum hv)
  have hset : ∀ L : List Bytes, L.length = S.L.length → (∀ i, bAt L i = S.read i) → ∀ i, bAt (L.set k e.blk) i = if k = i then e.blk else S.read i := fun L hl hL i => by
    rw [bAt_set, ← hL i]
    by_cases h : k = i
    · rw [if_pos ⟨h.symm, by omega⟩, if_pos h]
    · rw [if_neg (fun x => h x.1.symm), if_neg h]
  unfold DS.app
  rw [if_neg (by rw [hon]; decide), if_neg (by omega), he, if_neg (by rw [hv]; decide), hkk]
  have O1 := hS.write hk8 hb64
  have L1 := write_len S k e.blk
  have f1 := write_few S k e.blk
  rcases write_cases S k e.blk with ⟨a1, a2, a3, a4⟩ | ⟨a1, a2, a3, m, a4⟩
  · rw [if_neg (by rw [a1]; decide)]
    have hrd := write_true_read (S := S) (T := (S.write k e.blk).1) (k := k) (s := e.blk) (Prod.ext rfl a1)
    generalize (S.write k e.blk).1 = T at *
    have O2 := O1.sync
    have L2 := sync_len T
    have f2 := sync_few T
    rcases sync_cases T with ⟨c1, c2, c3, c4⟩ | ⟨c1, c2, c3, m, c4⟩
    · rw [if_neg (by rw [c1]; decide)]
      have hr2 := sync_true_read (U := T.sync.1) O1 (Prod.ext rfl c1)
      refine ⟨O2, c3, L2.trans L1, by show T.sync.1.c ≤ _; omega, by show T.sync.1.ops ≤ _; omega, .inl ⟨rfl, c2.trans (a2.trans hon), fun i => ?_⟩⟩
      show T.sync.1.read i = _
      rw [hr2 i, hrd i]
    · rw [if_pos c1]
      refine ⟨O2, c3, L2.trans L1, by show T.sync.1.c ≤ _; omega, by show T.sync.1.ops ≤ _; omega, .inr ⟨rfl, c2, ?_⟩⟩
      rw [a4, hW, a3] at c4
      replace c4 : T.sync.1.L = stl m [(k, e.blk)] S.L 1 := c4
      rw [stl_one] at c4
      by_cases hbit : bit m 0 = true
      · rw [if_pos hbit] at c4
        refine .inr (fun i => ?_)
        show T.sync.1.read i = _
        rw [readE c3, c4]
        exact hset S.L rfl (fun i => (readE hW i).symm) i
      · rw [if_neg hbit] at c4
        refine .inl (fun i => ?_)
        show T.sync.1.read i = _
        rw [readE c3, c4, readE hW]
  · rw [if_pos a1]
    refine ⟨O1, a3, L1, by show (S.write k e.blk).1.c ≤ _; omega, by show (S.write k e.blk).1.ops ≤ _; omega, .inr ⟨rfl, a2, ?_⟩⟩
    rw [hW] at a4
    replace a4 : (S.write k e.blk).1.L = stl m [(k, e.blk)] S.L 1 := a4
    rw [stl_one] at a4
    by_cases hbit : bit m 0 = true
    · rw [if_pos hbit] at a4
      refine .inr (fun i => ?_)
      show (S.write k e.blk).1.read i = _
      rw [readE a3, a4]
      exact hset S.L rfl (fun i => (readE hW i).symm) i
    · rw [if_neg hbit] at a4
      refine .inl (fun i => ?_)
      show (S.write k e.blk).1.read i = _
      rw [readE a3, a4, readE hW]

/-- What lies behind a round: the failure that is far off, the power gone and back. -/
def crU (S : DS) (m : Nat) : DS := ((S.plan 1099511627776 0).fail m).start

/-- What holds of a round's beginning. -/
structure CrOk (i : Nat) (S : DS) : Prop where
  ok : S.Ok
  on : S.on = true
  wait : S.W = []
  len : S.L.length = 16
  few : S.c ≤ i ∧ S.ops ≤ 2 * i
  last : lastN S ≤ i

theorem CrOk.plan {i : Nat} {S : DS} (h : CrOk i S) {k m : Nat} (hk : k < 2 ^ 63) (hm : m < 2 ^ 64) : CrOk i (S.plan k m) := ⟨h.ok.plan hk hm, h.on, h.wait, h.len, h.few, h.last⟩
theorem crOk_new : CrOk 0 (new 16) := ⟨new_ok (by decide) (by decide), rfl, rfl, rfl, ⟨Nat.le_refl _, Nat.le_refl _⟩, by rw [new_lastN 16 (by decide)]; exact Int.le_refl _⟩

/-- A round: how the Append answered, what the last entry is behind it, what stays. -/
structure CrR (S : DS) (e : Ent) (m : Nat) (x : Ent) (f : Int) : Prop where
  app : (DS.app S e).2 = (x, f)
  code : f = 0 ∧ x = e ∧ lastE (crU (DS.app S e).1 m) = some e ∨ f = 7 ∧ (lastE (crU (DS.app S e).1 m) = some e ∨ lastE (crU (DS.app S e).1 m) = lastE S)
  stay : ∀ y ∈ scan S.read 8, e.number - 8 < y.number → y ∈ scan (crU (DS.app S e).1 m).read 8

theorem crU_all {T : DS} (hT : T.Ok) (hW : T.W = []) {m : Nat} : (crU T m).Ok ∧ (crU T m).on = true ∧ (crU T m).W = [] ∧ (crU T m).L = T.L ∧ (crU T m).c = T.c ∧ (crU T m).ops = T.ops := by
  have hp : (T.plan 1099511627776 0).Ok := hT.plan (by decide) (by decide)
  refine ⟨(hp.fail m).start, rfl, ?_⟩
  unfold crU DS.fail
  split
  · refine ⟨rfl, ?_, rfl, rfl⟩
    show stl m T.W T.L T.W.length = T.L
    rw [hW]; rfl
  · exact ⟨hW, rfl, rfl, rfl⟩

theorem cr_step {i : Nat} {S : DS} {e : Ent} {m : Nat} (h : CrOk i S) (_ : i < 1000) (hn : e.number = lastN S + 1) (hv : e.valid = true) : ∃ x f, CrR S e m x f ∧ CrOk (i + 1) (crU (DS.app S e).1 m) := by
  obtain ⟨b0, b1⟩ := lastN_ok S
  obtain ⟨k, hk⟩ : ∃ k : Nat, e.number % 8 = (k : Int) := ⟨(e.number % 8).toNat, by omega⟩
  obtain ⟨a1, a2, a3, a4, a5, a6⟩ := app_cases h.ok h.on h.wait hn hv hk
  obtain ⟨u1, u2, u3, u4, u5, u6⟩ := crU_all (m := m) a1 a2
  have hrd : ∀ i, (crU (DS.app S e).1 m).read i = (DS.app S e).1.read i := fun i => by rw [readE u3, u4, readE a2]
  have hfew := h.few
  have hlast := h.last
  have hmod : ∀ y ∈ scan S.read 8, e.number - 8 < y.number → y.number % 8 ≠ e.number % 8 := fun y hy hlt => by
    have := num_le_last hy
    omega
  have key : ∀ f x, (DS.app S e).2 = (x, f) → ((f = 0 ∧ x = e) ∧ (∀ i, (DS.app S e).1.read i = if k = i then e.blk else S.read i) ∨ f = 7 ∧ ((∀ i, (DS.app S e).1.read i = S.read i) ∨ (∀ i, (DS.app S e).1.read i = if k = i then e.blk else S.read i))) →
      CrR S e m x f ∧ lastN (crU (DS.app S e).1 m) ≤ i + 1 := by
    intro f x hx hc
    have hnew : (∀ i, (DS.app S e).1.read i = if k = i then e.blk else S.read i) → lastE (crU (DS.app S e).1 m) = some e ∧ ∀ y ∈ scan S.read 8, e.number - 8 < y.number → y ∈ scan (crU (DS.app S e).1 m).read 8 := fun hr => by
      obtain ⟨l1, l2, l3⟩ := last_new (S := S) (T := crU (DS.app S e).1 m) hv hk (by omega) (fun i _ => by rw [hrd i, hr i])
      exact ⟨l1, fun y hy hlt => l2 y hy (hmod y hy hlt)⟩
    have hold : (∀ i, (DS.app S e).1.read i = S.read i) → lastE (crU (DS.app S e).1 m) = lastE S ∧ ∀ y ∈ scan S.read 8, e.number - 8 < y.number → y ∈ scan (crU (DS.app S e).1 m).read 8 := fun hr => by
      have hs : scan (crU (DS.app S e).1 m).read 8 = scan S.read 8 := scan_congr 8 (fun i _ => by rw [hrd i, hr i])
      exact ⟨lastE_congr (fun i _ => by rw [hrd i, hr i]), fun y hy _ => by rw [hs]; exact hy⟩
    have n1 : lastE (crU (DS.app S e).1 m) = some e → lastN (crU (DS.app S e).1 m) ≤ i + 1 := fun h => by
      unfold lastN at *; rw [h]; show e.number ≤ _; rw [hn]; omega
    have n2 : lastE (crU (DS.app S e).1 m) = lastE S → lastN (crU (DS.app S e).1 m) ≤ i + 1 := fun h => by
      unfold lastN at *; rw [h]; omega
    rcases hc with ⟨⟨hf, hxe⟩, hr⟩ | ⟨hf, hr | hr⟩
    · obtain ⟨q1, q2⟩ := hnew hr
      exact ⟨⟨hx, .inl ⟨hf, hxe, q1⟩, q2⟩, n1 q1⟩
    · obtain ⟨q1, q2⟩ := hold hr
      exact ⟨⟨hx, .inr ⟨hf, .inr q1⟩, q2⟩, n2 q1⟩
    · obtain ⟨q1, q2⟩ := hnew hr
      exact ⟨⟨hx, .inr ⟨hf, .inl q1⟩, q2⟩, n1 q1⟩
  have hOK : ∀ hl : lastN (crU (DS.app S e).1 m) ≤ i + 1, CrOk (i + 1) (crU (DS.app S e).1 m) := fun hl => ⟨u1, u2, u3, by rw [u4, a3]; exact h.len, ⟨by omega, by omega⟩, by exact_mod_cast hl⟩
  rcases a6 with ⟨g1, _, g3⟩ | ⟨g1, _, g3⟩
  · obtain ⟨q1, q2⟩ := key 0 e g1 (.inl ⟨⟨rfl, rfl⟩, g3⟩)
    exact ⟨_, _, q1, hOK q2⟩
  · obtain ⟨q1, q2⟩ := key 7 Ent.zero g1 (.inr ⟨rfl, g3⟩)
    exact ⟨_, _, q1, hOK q2⟩

end Go.Proofs.YtkplmaaeggnbgaaDoor.Rg
