/- Branches as they lie in memory, rows of pointers, the parser's block: facts that walks want. The walks of kind, sign, fail, accept and expect: their contracts. The walks of token, name, number, grow and param: their contracts. Rows of branches of a call's own, a node above them; the walk of param. The walk of list: its contract, whatever reader it is given. The walks of slices.Contains over texts and of row: their contracts. The walk of row: its contract, whatever reader it is given. slices.Backward over pointers, ranged over: the contract of its iterator. No condition but those that each states. -/
import Derived.Test.YtemlceicmpcboaaGreatDoorMgA
import Derived.Test.YtemlceicmpcboaaGreatDoorMgC
import Derived.Laws.OwnMore
import Derived.Deep.Cut
import Derived.Deep.CutRange
import Derived.Deep.DeepCutAuto
import Derived.Deep.CutBlock
import Derived.Deep.RegionHeld3
import Derived.Deep.AppendLies
import Derived.Deep.RegionLaw
import Derived.IntWalk
import Derived.RangeFuncNested
import Derived.RangeFuncBox
import Derived.RangeFuncLeaves
import Derived.Shelf.Abstract
import Derived.WalkKit
import Derived.OwnWalkIn
import Derived.TacticsInMore
import Derived.LoopNIn
import Derived.LoopIn
import Derived.Maps.AppendAt
namespace Go.Proofs.YtemlceicmpcboaaGreatDoor.Pa
open Go.RowKit Dk Lx Tr

/-- Where a block lies. -/
abbrev ptr (b : Nat) : Value := .pointer (some ⟨b, 0, none⟩)
def bp (ps : List Nat) : List Value := ps.map ptr
theorem bp_len (ps : List Nat) : (bp ps).length = ps.length := by simp [bp]
theorem bp_app (a b : List Nat) : bp (a ++ b) = bp a ++ bp b := by simp [bp]
theorem bp_one (ps : List Nat) : ∀ u ∈ bp ps, u.oneCell' = true := by
  intro u hu
  simp [bp] at hu
  obtain ⟨b, _, rfl⟩ := hu
  rfl

/-- A slice of pointers, in no block of X. -/
def Row (W : World) (X : Nat → Prop) (v : Value) (ps : List Nat) : Prop := ∃ p c, v = .slice p ps.length c ∧ ps.length ≤ c ∧ (ps = [] ∨ ∃ r o, p = some ⟨r, o, none⟩ ∧ r < W.heap.size ∧ ¬X r ∧ W.rangeAt r o (bp ps))

/-- What a branch's block holds. -/
def bcells (x : Nd) (k : Int) (v : Value) : List Value := [.int .i64 x.kind, .int .i64 k, .string (strOf x.name), .int .i64 x.n, .string (strOf x.text), v]

/-- In block b lies a branch, and below it others, in no block of X: the tree t. The number of kids that its node bears is not looked at. -/
inductive Br (W : World) (X : Nat → Prop) : Nat → List Nd → Prop
  | mk (b : Nat) (x : Nd) (k : Int) (v : Value) (cs : List (Nat × List Nd)) (hc : W.rangeAt b 0 (bcells x k v)) (ht : W.there b 0 6) (hb : b < W.heap.size) (hX : ¬X b)
      (hr : Row W X v (cs.map (·.1))) (hs : ∀ c ∈ cs, Br W X c.1 c.2) : Br W X b (join x (cs.map (·.2)))

theorem Row.only {F X : Nat → Prop} {W W' : World} {v : Value} {ps : List Nat} (h : Row W X v ps) (ho : Only F W W') (hF : ∀ i, i < W.heap.size → F i → X i) : Row W' X v ps := by
  obtain ⟨p, c, hv, hc, h | ⟨r, o, hp, hr, hx, hq⟩⟩ := h
  · exact ⟨p, c, hv, hc, .inl h⟩
  · exact ⟨p, c, hv, hc, .inr ⟨r, o, hp, Nat.lt_of_lt_of_le hr ho.size, hx, rangeAt_block hq (ho.block r hr (fun hf => hx (hF r hr hf)))⟩⟩
theorem Br.only {F X : Nat → Prop} {W W' : World} {b : Nat} {t : List Nd} (h : Br W X b t) (ho : Only F W W') (hF : ∀ i, i < W.heap.size → F i → X i) : Br W' X b t := by
  induction h with
  | mk b x k v cs hc ht hb hX hr _ ih =>
    have hk := ho.block b hb (fun hf => hX (hF b hb hf))
    exact .mk b x k v cs (rangeAt_block hc hk) (there_block ht hk) (Nat.lt_of_lt_of_le hb ho.size) hX (hr.only ho hF) ih
theorem Row.weaken {X Y : Nat → Prop} {W : World} {v : Value} {ps : List Nat} (h : Row W X v ps) (hXY : ∀ i, i < W.heap.size → Y i → X i) : Row W Y v ps := by
  obtain ⟨p, c, hv, hc, h | ⟨r, o, hp, hr, hx, hq⟩⟩ := h
  · exact ⟨p, c, hv, hc, .inl h⟩
  · exact ⟨p, c, hv, hc, .inr ⟨r, o, hp, hr, fun hy => hx (hXY r hr hy), hq⟩⟩
theorem Br.weaken {X Y : Nat → Prop} {W : World} {b : Nat} {t : List Nd} (h : Br W X b t) (hXY : ∀ i, i < W.heap.size → Y i → X i) : Br W Y b t := by
  induction h with
  | mk b x k v cs hc ht hb hX hr _ ih => exact .mk b x k v cs hc ht hb (fun hy => hX (hXY b hb hy)) (hr.weaken hXY) ih
theorem Br.lt {X : Nat → Prop} {W : World} {b : Nat} {t : List Nd} (h : Br W X b t) : b < W.heap.size ∧ ¬X b := by cases h with | mk => exact ⟨by assumption, by assumption⟩

/-- Only blocks below B, but F's, are looked at. -/
theorem Only.cut {F : Nat → Prop} {W W' : World} (h : Only F W W') : Only (fun k => F k ∨ W.heap.size ≤ k) W W' := h.mono (fun _ h => .inl h)

/-- Where a reader could not go on: the offset. -/
def offK (L : List Tk) (k : Nat) : Int := match L[k]? with
  | some t => t.place
  | none => match L.getLast? with
    | some t => t.place + 1
    | none => 0
def nx (L : List Tk) : St → Nat
  | .ok i => i
  | .bad _ => L.length
def isBad : St → Bool
  | .ok _ => false
  | .bad _ => true
def foff (L : List Tk) : St → Int
  | .ok _ => 0
  | .bad k => offK L k

/-- A slice of tokens, not in block g. -/
def ToksX (W : World) (g : Nat) (v : Value) (ts : List Tk) : Prop := ∃ p c, v = .slice p ts.length c ∧ ts.length ≤ c ∧ (ts = [] ∨ ∃ r o, p = some ⟨r, o, none⟩ ∧ r < W.heap.size ∧ r ≠ g ∧ W.rangeAt r o (tcells ts))

/-- Places that an int is not too small for. -/
def Places (L : List Tk) : Prop := ∀ t ∈ L, -9223372036854775808 ≤ t.place ∧ t.place ≤ 1099511627776

/-- The parser's block. -/
structure PS (L : List Tk) (g : Nat) (vt : Value) (W : World) (s : St) : Prop where
  cells : W.rangeAt g 0 [vt, .int .i64 (nx L s : Int), .bool (isBad s), .int .i64 (foff L s)]
  room : W.there g 0 4
  lt : g < W.heap.size
  toks : ToksX W g vt L
  le : nx L s ≤ L.length
  few : L.length ≤ 1000000
  places : Places L

theorem ToksX.only {F : Nat → Prop} {W W' : World} {g : Nat} {v : Value} {ts : List Tk} (h : ToksX W g v ts) (ho : Only F W W') (hF : ∀ i, i < W.heap.size → F i → i = g) : ToksX W' g v ts := by
  obtain ⟨p, c, hv, hc, h | ⟨r, o, hp, hr, hx, hq⟩⟩ := h
  · exact ⟨p, c, hv, hc, .inl h⟩
  · exact ⟨p, c, hv, hc, .inr ⟨r, o, hp, Nat.lt_of_lt_of_le hr ho.size, hx, rangeAt_block hq (ho.block r hr (fun hf => hx (hF r hr hf)))⟩⟩

theorem PS.below {L : List Tk} {g : Nat} {vt : Value} {W W' : World} {s : St} (h : PS L g vt W s) (hb : Below W.heap.size W W') : PS L g vt W' s :=
  ⟨rangeAt_block h.cells (hb.block g h.lt), there_block h.room (hb.block g h.lt), Nat.lt_of_lt_of_le h.lt hb.size, h.toks.only (Only.of_below (F := fun _ => False) hb) (fun _ _ h => h.elim), h.le, h.few, h.places⟩
/-- What lies in no block that lay there when B was. -/
theorem PS.only {L : List Tk} {g : Nat} {vt : Value} {W W' : World} {s : St} {F : Nat → Prop} (h : PS L g vt W s) (ho : Only F W W') (hF : ∀ i, i < W.heap.size → ¬F i) : PS L g vt W' s :=
  ⟨rangeAt_block h.cells (ho.block g h.lt (hF g h.lt)), there_block h.room (ho.block g h.lt (hF g h.lt)), Nat.lt_of_lt_of_le h.lt ho.size, h.toks.only ho (fun i hi hf => absurd hf (hF i hi)), h.le, h.few, h.places⟩
theorem PS.at {L : List Tk} {g : Nat} {vt : Value} {W : World} {s : St} (h : PS L g vt W s) : W.cell? ⟨g, 0, none⟩ = some vt ∧ W.cell? ⟨g, 1, none⟩ = some (.int .i64 (nx L s : Int)) ∧ W.cell? ⟨g, 2, none⟩ = some (.bool (isBad s)) ∧ W.cell? ⟨g, 3, none⟩ = some (.int .i64 (foff L s)) :=
  ⟨h.cells 0 _ rfl, h.cells 1 _ rfl, h.cells 2 _ rfl, h.cells 3 _ rfl⟩

theorem Only.of_setCell {g j : Nat} {W : World} (v : Value) : Only (fun k => k = g) W (W.setCell ⟨g, j, none⟩ v) := Only.setCell (F := fun k => k = g) (Only.refl _ _) ⟨g, j, none⟩ rfl v

/-- The next place is put. -/
theorem PS.next {L : List Tk} {g i : Nat} {vt : Value} {W : World} (h : PS L g vt W (.ok i)) (hi : i < L.length) : PS L g vt (W.setCell ⟨g, 1, none⟩ (.int .i64 ((i : Int) + 1))) (.ok (i + 1)) := by
  refine ⟨?_, there_setCell h.room _ _, by simpa using h.lt, h.toks.only (Only.of_setCell (g := g) (j := 1) _) (fun _ _ h => h), hi, h.few, h.places⟩
  obtain ⟨h0, h1, h2, h3⟩ := h.at
  intro j u hj
  rcases (show j = 0 ∨ j = 1 ∨ j = 2 ∨ j = 3 by have := (List.getElem?_eq_some_iff.1 hj).1; simp at this; omega) with rfl | rfl | rfl | rfl
  · rw [World.cell?_setCell_other _ _ _ _ (by simp)]; simp at hj; subst hj; exact h0
  · rw [show (0 + 1) = 1 from rfl, World.cell?_setCell_same _ _ _ h1]; simp at hj; subst hj; rfl
  · rw [World.cell?_setCell_other _ _ _ _ (by simp)]; simp at hj; subst hj; exact h2
  · rw [World.cell?_setCell_other _ _ _ _ (by simp)]; simp at hj; subst hj; exact h3

/-- What remains of it where it could not go on. -/
def failS : St → St
  | .ok i => .bad i
  | .bad k => .bad k

/-- All is read, at a failure. -/
theorem PS.failed {L : List Tk} {g i : Nat} {vt : Value} {W : World} (h : PS L g vt W (.ok i)) : PS L g vt (((W.setCell ⟨g, 2, none⟩ (.bool true)).setCell ⟨g, 3, none⟩ (.int .i64 (offK L i))).setCell ⟨g, 1, none⟩ (.int .i64 (L.length : Int))) (.bad i) := by
  obtain ⟨h0, h1, h2, h3⟩ := h.at
  refine ⟨?_, there_setCell (there_setCell (there_setCell h.room _ _) _ _) _ _, by simpa using h.lt, h.toks.only (((Only.of_setCell (g := g) (j := 2) _).setCell ⟨g, 3, none⟩ rfl _).setCell ⟨g, 1, none⟩ rfl _) (fun _ _ h => h), Nat.le_refl _, h.few, h.places⟩
  intro j u hj
  rcases (show j = 0 ∨ j = 1 ∨ j = 2 ∨ j = 3 by have := (List.getElem?_eq_some_iff.1 hj).1; simp at this; omega) with rfl | rfl | rfl | rfl
  · rw [World.cell?_setCell_other _ _ _ _ (by simp), World.cell?_setCell_other _ _ _ _ (by simp), World.cell?_setCell_other _ _ _ _ (by simp)]; simp at hj; subst hj; exact h0
  · rw [World.cell?_setCell_same _ _ _ (by rw [World.cell?_setCell_other _ _ _ _ (by simp), World.cell?_setCell_other _ _ _ _ (by simp)]; exact h1)]; simp at hj; subst hj; rfl
  · rw [World.cell?_setCell_other _ _ _ _ (by simp), World.cell?_setCell_other _ _ _ _ (by simp), World.cell?_setCell_same _ _ _ h2]; simp at hj; subst hj; rfl
  · rw [World.cell?_setCell_other _ _ _ _ (by simp), World.cell?_setCell_same _ _ _ (by rw [World.cell?_setCell_other _ _ _ _ (by simp)]; exact h3)]; simp at hj; subst hj; rfl

/-- What lies at a token's place. -/
theorem ToksX.tok {W : World} {g : Nat} {p : Option Addr} {m c : Nat} {ts : List Tk} (h : ToksX W g (.slice p m c) ts) (i : Nat) (hi : i < ts.length) :
    ∃ r o, p = some ⟨r, o, none⟩ ∧ W.cell? ⟨r, o + i * 4, none⟩ = some (.int .i64 ts[i].kind) ∧ W.cell? ⟨r, o + i * 4 + 1, none⟩ = some (.string (strOf ts[i].text)) ∧ W.cell? ⟨r, o + i * 4 + 2, none⟩ = some (.int .i64 ts[i].n) ∧ W.cell? ⟨r, o + i * 4 + 3, none⟩ = some (.int .i64 ts[i].place) ∧ W.rangeAt r (o + i * 4) (ts[i]).cells := by
  obtain ⟨p', c', e, hc, h0 | ⟨r, o, hp, hg, hx, hr⟩⟩ := h
  · subst h0; simp at hi
  · cases e
    have q : ∀ j (hj : j < 4) u, (ts[i]).cells[j]? = some u → W.cell? ⟨r, o + i * 4 + j, none⟩ = some u := fun j hj u hu => by
      have := hr (i * 4 + j) u (by rw [tcells_at hi j hj]; exact hu)
      rwa [← Nat.add_assoc] at this
    refine ⟨r, o, hp, q 0 (by decide) _ rfl, q 1 (by decide) _ rfl, q 2 (by decide) _ rfl, q 3 (by decide) _ rfl, fun j u hu => ?_⟩
    exact q j (by have := (List.getElem?_eq_some_iff.1 hu).1; exact this) u hu

theorem kd_at {L : List Tk} {i : Nat} (h : i < L.length) : kd L i = L[i].kind := by unfold kd; rw [List.getElem?_eq_getElem h]
theorem tx_at {L : List Tk} {i : Nat} (h : i < L.length) : tx L i = L[i].text := by unfold tx; rw [List.getElem?_eq_getElem h]
theorem nm_at {L : List Tk} {i : Nat} (h : i < L.length) : nm L i = L[i].n := by unfold nm; rw [List.getElem?_eq_getElem h]
theorem sg_at {L : List Tk} {i : Nat} (h : i < L.length) : sg L i = if L[i].kind = 5 ∨ L[i].kind = 4 then L[i].text else [] := by unfold sg; rw [List.getElem?_eq_getElem h]
theorem kd_end {L : List Tk} {i : Nat} (h : L.length ≤ i) : kd L i = 0 := by unfold kd; rw [List.getElem?_eq_none h]
theorem sg_end {L : List Tk} {i : Nat} (h : L.length ≤ i) : sg L i = [] := by unfold sg; rw [List.getElem?_eq_none h]
theorem sg_lt {L : List Tk} {i : Nat} (h : sg L i ≠ []) : i < L.length := by
  rcases Nat.lt_or_ge i L.length with h1 | h1
  · exact h1
  · exact absurd (sg_end h1) h
theorem kd_lt {L : List Tk} {i : Nat} (h : kd L i ≠ 0) : i < L.length := by
  rcases Nat.lt_or_ge i L.length with h1 | h1
  · exact h1
  · exact absurd (kd_end h1) h
theorem sg_kd {L : List Tk} {i : Nat} (h : sg L i ≠ []) : kd L i = 5 ∨ kd L i = 4 := by
  have hl := sg_lt h
  rw [kd_at hl]
  rw [sg_at hl] at h
  by_cases hk : L[i].kind = 5 ∨ L[i].kind = 4
  · exact hk
  · rw [if_neg hk] at h; exact absurd rfl h

/-- The kind, and the text, of what comes next. -/
def kdS (L : List Tk) (s : St) : Int := kd L (nx L s)
def sgS (L : List Tk) (s : St) : List UInt8 := sg L (nx L s)
theorem kdS_bad (L : List Tk) (k : Nat) : kdS L (.bad k) = 0 := kd_end (Nat.le_refl _)
theorem sgS_bad (L : List Tk) (k : Nat) : sgS L (.bad k) = [] := sg_end (Nat.le_refl _)

/-- A branch, or, behind a failure, what is left of one. -/
def SB (W : World) (X : Nat → Prop) (b : Nat) (t : List Nd) : St → Prop
  | .ok _ => Br W X b t
  | .bad _ => b < W.heap.size ∧ ¬X b ∧ ∃ k, W.cell? ⟨b, 0, none⟩ = some (.int .i64 k)
theorem SB.lt {W : World} {X : Nat → Prop} {b : Nat} {t : List Nd} {s : St} (h : SB W X b t s) : b < W.heap.size ∧ ¬X b := by
  cases s with
  | ok i => exact Br.lt h
  | bad k => exact ⟨h.1, h.2.1⟩
theorem SB.only {F X : Nat → Prop} {W W' : World} {b : Nat} {t : List Nd} {s : St} (h : SB W X b t s) (ho : Only F W W') (hF : ∀ i, i < W.heap.size → F i → X i) : SB W' X b t s := by
  cases s with
  | ok i => exact Br.only h ho hF
  | bad k =>
    obtain ⟨h1, h2, q, h3⟩ := h
    exact ⟨Nat.lt_of_lt_of_le h1 ho.size, h2, q, (World.cell?_of_block (a := ⟨b, 0, none⟩) (ho.block b h1 (fun hf => h2 (hF b h1 hf)))).trans h3⟩
theorem SB.weaken {X Y : Nat → Prop} {W : World} {b : Nat} {t : List Nd} {s : St} (h : SB W X b t s) (hXY : ∀ i, i < W.heap.size → Y i → X i) : SB W Y b t s := by
  cases s with
  | ok i => exact Br.weaken h hXY
  | bad k => exact ⟨h.1, fun hy => h.2.1 (hXY b h.1 hy), h.2.2⟩
theorem SB.bad {W : World} {X : Nat → Prop} {b i k : Nat} {t t' : List Nd} (h : SB W X b t (.ok i)) : SB W X b t' (.bad k) := by
  cases h with
  | mk b x q v cs hc ht hb hX hr hs => exact ⟨hb, hX, x.kind, hc 0 _ rfl⟩

/-- What a reader's call leaves: the pointer to a branch, of what it read. -/
structure RdOk (L : List Tk) (g : Nat) (vt : Value) (A : List Sy) (s : St) (w : World) (e : Ending) (w' : World) (b : Nat) (t : List Nd) (s' : St) : Prop where
  ret : e = .returned (ptr b)
  leads : Leads L A [] s [] [t] s'
  ps : PS L g vt w' s'
  only : Only (fun k => k = g) w w'
  br : SB w' (fun k => k < w.heap.size) b t s'
  le : nx L s ≤ nx L s'

/-- A reader. -/
def Rd (L : List Tk) (f : FuncId) (A : List Sy) (s : St) : Prop := ∀ (g : Nat) (vt : Value) (w : World), PS L g vt w s →
  Calls Tryz.prog f #[ptr g] w fun e w' => ∃ b t s', RdOk L g vt A s w e w' b t s'

end Go.Proofs.YtemlceicmpcboaaGreatDoor.Pa
namespace Go.Proofs.YtemlceicmpcboaaGreatDoor.Pa
open Go.RowKit Dk Lx Tr

theorem PS.form {L : List Tk} {g : Nat} {vt : Value} {W : World} {s : St} (h : PS L g vt W s) : ∃ p c, vt = .slice p L.length c ∧ L.length ≤ c := by
  obtain ⟨p, c, hv, hc, -⟩ := h.toks
  exact ⟨p, c, hv, hc⟩

theorem bdN {B : Nat} {a b : World} (h : Below B a b) (n : Nat) : Below B a (b.drewN n) := ⟨h.os, h.tape, h.output, h.size, h.block⟩

set_option maxHeartbeats 1000000 in
set_option maxRecDepth 100000 in
theorem kind_any {L : List Tk} {g : Nat} {vt : Value} {w : World} {s : St} (h : PS L g vt w s) :
    Calls Tryz.prog 177 #[ptr g] w fun e w' => e = .returned (.int .i64 (kdS L s)) ∧ Below w.heap.size w w' := by
  obtain ⟨c0, c1, -, -⟩ := h.at
  obtain ⟨p, c, rfl, hc⟩ := h.form
  have hle := h.le
  have hfew := h.few
  obtain ⟨i, hi⟩ : ∃ i, i = nx L s := ⟨_, rfl⟩
  obtain ⟨n, hn⟩ : ∃ n, n = L.length := ⟨_, rfl⟩
  have HK : Hid (kdS L s = kd L i) := Lib.hid (by rw [hi]; rfl)
  rw [HK.out]
  rw [← hi, ← hn] at hle
  rw [← hn] at hc hfew c0
  rw [← hi] at c1
  by_cases hlt : i < n
  · obtain ⟨r, o, hp, t0, -⟩ := h.toks.tok i (by rw [← hn]; exact hlt)
    subst hp
    rw [← kd_at] at t0
    have z0 : (0 : Int) ≤ (i : Int) := by omega
    have z1 : (i : Int) < (n : Int) := by omega
    have z2 : ((i : Int) == (n : Int)) = false := by simp; omega
    clear h hi hn HK hle hc hlt
    go_enter Tryz.func177, Tryz.ntmps177
    go_wp2_with fail
    go_quiet (fail)
    go_wp2_with fail
    go_quiet (fail)
    go_wp2
    go_ret
    exact ⟨rfl, bdN (bdN (Below.refl _ _) _) _⟩
  · obtain rfl : i = n := by omega
    have HE : Hid (kd L i = 0) := Lib.hid (kd_end (by omega))
    have z2 : ((i : Int) == (i : Int)) = true := by simp
    rw [HE.out]
    clear h hi hn HK hle hc hlt
    go_enter Tryz.func177, Tryz.ntmps177
    go_wp2_with fail
    go_quiet (fail)
    go_wp2
    go_ret
    exact ⟨rfl, bdN (Below.refl _ _) _⟩

set_option maxHeartbeats 1000000 in
set_option maxRecDepth 100000 in
theorem sign_any {L : List Tk} {g : Nat} {vt : Value} {w : World} {s : St} (h : PS L g vt w s) :
    Calls Tryz.prog 129 #[ptr g] w fun e w' => e = .returned (.string (strOf (sgS L s))) ∧ Below w.heap.size w w' := by
  have K := Lib.hid (kind_any h)
  obtain ⟨p, c, rfl, hc⟩ := h.form
  have hle := h.le
  have hfew := h.few
  obtain ⟨i, hi⟩ : ∃ i, i = nx L s := ⟨_, rfl⟩
  obtain ⟨n, hn⟩ : ∃ n, n = L.length := ⟨_, rfl⟩
  have HK : Hid (kdS L s = kd L i) := Lib.hid (by rw [hi]; rfl)
  have HS : Hid (sgS L s = sg L i) := Lib.hid (by rw [hi]; rfl)
  rw [HS.out]
  rw [HK.out] at K
  rw [← hi, ← hn] at hle
  rw [← hn] at hfew
  by_cases hk : kd L i = 5 ∨ kd L i = 4
  · have hil : i < n := by rw [hn]; exact kd_lt (by omega)
    have HI := Lib.hid hi
    have HN := Lib.hid hn
    have HSG : Hid (∀ h : i < L.length, L[i].text = sg L i) := Lib.hid (fun h => by rw [sg_at h]; rw [kd_at h] at hk; rw [if_pos hk])
    generalize sg L i = q at *
    have HH := Lib.hid h
    generalize hkk : kd L i = k at *
    have z0 : (0 : Int) ≤ (i : Int) := by omega
    have z1 : (i : Int) < (n : Int) := by omega
    clear h HS HK hi hkk
    go_enter Tryz.func129, Tryz.ntmps129
    go_wp2_with fail
    refine K.out.mono ?_
    rintro e w1 ⟨rfl, hb1⟩
    have HP1 := Lib.hid (HH.out.below hb1)
    have HB1 := Lib.hid hb1
    obtain ⟨c0, c1, -, -⟩ := HP1.out.at
    rw [← HN.out] at c0
    rw [← HI.out] at c1
    obtain ⟨r, o, hp, -, t0, -⟩ := HP1.out.toks.tok i (by rw [← HN.out]; exact hil)
    subst hp
    rw [HSG.out] at t0
    clear hb1 hn HSG
    rcases hk with rfl | rfl
    · go_wp2_with fail
      go_quiet (fail)
      go_wp2
      go_ret
      exact ⟨rfl, bdN HB1.out _⟩
    · go_wp2_with fail
      go_quiet (fail)
      go_wp2
      go_ret
      exact ⟨rfl, bdN HB1.out _⟩
  · have HSG : Hid (sg L i = []) := Lib.hid (by
      cases hs : sg L i with
      | nil => rfl
      | cons c r => exact absurd (sg_kd (by rw [hs]; simp)) hk)
    rw [HSG.out]
    generalize kd L i = k at *
    have z5 : (k != 5) = true := by simp; omega
    have z4 : (k != 4) = true := by simp; omega
    clear h hi hn HK HS HSG hk
    go_enter Tryz.func129, Tryz.ntmps129
    go_wp2_with fail
    refine K.out.mono ?_
    rintro e w1 ⟨rfl, hb1⟩
    have HB1 := Lib.hid hb1
    clear hb1
    go_wp2
    go_ret
    exact ⟨rfl, HB1.out⟩

theorem PS.free {L : List Tk} {g : Nat} {vt : Value} {W : World} {s : St} (h : PS L g vt W s) : W.frozen? ⟨g, 1, none⟩ = false ∧ W.frozen? ⟨g, 2, none⟩ = false ∧ W.frozen? ⟨g, 3, none⟩ = false :=
  ⟨(h.room 1 (by decide)).2, (h.room 2 (by decide)).2, (h.room 3 (by decide)).2⟩

theorem offK_at {L : List Tk} {i : Nat} (h : i < L.length) : offK L i = L[i].place := by unfold offK; rw [List.getElem?_eq_getElem h]
theorem offK_end {L : List Tk} {i : Nat} (h : L.length ≤ i) (h0 : 0 < L.length) : offK L i = (L[L.length - 1]'(by omega)).place + 1 := by
  unfold offK
  rw [List.getElem?_eq_none h]
  rw [List.getLast?_eq_getElem?, List.getElem?_eq_getElem (by omega)]
theorem offK_nil {L : List Tk} {i : Nat} (h : L.length = 0) : offK L i = 0 := by
  rw [List.eq_nil_of_length_eq_zero h]; rfl

theorem PS.failed' {L : List Tk} {g i : Nat} {vt : Value} {w W : World} (h : PS L g vt w (.ok i)) (hb : Below w.heap.size (((w.setCell ⟨g, 2, none⟩ (.bool true)).setCell ⟨g, 3, none⟩ (.int .i64 (offK L i))).setCell ⟨g, 1, none⟩ (.int .i64 (L.length : Int))) W) : PS L g vt W (.bad i) ∧ Only (fun k => k = g) w W := by
  have h1 := h.failed
  have hs : (((w.setCell ⟨g, 2, none⟩ (.bool true)).setCell ⟨g, 3, none⟩ (.int .i64 (offK L i))).setCell ⟨g, 1, none⟩ (.int .i64 (L.length : Int))).heap.size = w.heap.size := by simp
  refine ⟨h1.below (by rw [hs]; exact hb), ?_⟩
  refine (((Only.of_setCell (g := g) (j := 2) _).setCell ⟨g, 3, none⟩ rfl _).setCell ⟨g, 1, none⟩ rfl _).trans (Only.of_below (F := fun k => k = g) (by rw [hs]; exact hb)) (fun _ _ h => h)

theorem PS.failed0 {L : List Tk} {g i : Nat} {vt : Value} {W : World} (h : PS L g vt W (.ok i)) (h0 : L.length = 0) : PS L g vt ((W.setCell ⟨g, 2, none⟩ (.bool true)).setCell ⟨g, 1, none⟩ (.int .i64 (0 : Int))) (.bad i) ∧ Only (fun k => k = g) W ((W.setCell ⟨g, 2, none⟩ (.bool true)).setCell ⟨g, 1, none⟩ (.int .i64 (0 : Int))) := by
  obtain ⟨c0, h1, h2, h3⟩ := h.at
  have ho : Only (fun k => k = g) W ((W.setCell ⟨g, 2, none⟩ (.bool true)).setCell ⟨g, 1, none⟩ (.int .i64 (0 : Int))) := (Only.of_setCell (g := g) (j := 2) _).setCell ⟨g, 1, none⟩ rfl _
  refine ⟨⟨?_, there_setCell (there_setCell h.room _ _) _ _, by simpa using h.lt, h.toks.only ho (fun _ _ h => h), Nat.le_refl _, h.few, h.places⟩, ho⟩
  intro j u hj
  have e1 : nx L (.bad i) = 0 := h0
  have e2 : foff L (.bad i) = 0 := offK_nil h0
  rw [e1, e2] at hj
  rcases (show j = 0 ∨ j = 1 ∨ j = 2 ∨ j = 3 by have := (List.getElem?_eq_some_iff.1 hj).1; simp at this; omega) with rfl | rfl | rfl | rfl
  · rw [World.cell?_setCell_other _ _ _ _ (by simp), World.cell?_setCell_other _ _ _ _ (by simp)]; simp at hj; subst hj; exact c0
  · rw [World.cell?_setCell_same _ _ _ (by rw [World.cell?_setCell_other _ _ _ _ (by simp)]; exact h1)]; simp at hj; subst hj; rfl
  · rw [World.cell?_setCell_other _ _ _ _ (by simp), World.cell?_setCell_same _ _ _ h2]; simp at hj; subst hj; rfl
  · rw [World.cell?_setCell_other _ _ _ _ (by simp), World.cell?_setCell_other _ _ _ _ (by simp)]; simp at hj; subst hj; exact h3

set_option maxHeartbeats 1000000 in
set_option maxRecDepth 100000 in
theorem fail_any {L : List Tk} {g : Nat} {vt : Value} {w : World} {s : St} (h : PS L g vt w s) :
    Calls Tryz.prog 73 #[ptr g] w fun e w' => e = .returned (.tuple #[]) ∧ PS L g vt w' (failS s) ∧ Only (fun k => k = g) w w' := by
  have HH := Lib.hid h
  obtain ⟨c0, c1, c2, c3⟩ := h.at
  cases s with
  | bad k =>
    rw [show isBad (.bad k) = true from rfl] at c2
    clear h c0 c1 c3
    go_enter Tryz.func73, Tryz.ntmps73
    go_wp2
    refine bodyPost_ret (results_none rfl _ _ _) rfl ?_
    exact ⟨rfl, HH.out, Only.refl _ _⟩
  | ok i =>
    rw [show isBad (.ok i) = false from rfl] at c2
    rw [show nx L (.ok i) = i from rfl] at c1
    obtain ⟨p, c, rfl, hc⟩ := h.form
    have hle : i ≤ L.length := h.le
    have hfew := h.few
    obtain ⟨n, hn⟩ : ∃ n, n = L.length := ⟨_, rfl⟩
    have HN := Lib.hid hn
    rw [← hn] at c0 hle hc hfew
    have HF : Hid (∀ W, Below w.heap.size (((w.setCell ⟨g, 2, none⟩ (.bool true)).setCell ⟨g, 3, none⟩ (.int .i64 (offK L i))).setCell ⟨g, 1, none⟩ (.int .i64 (n : Int))) W → PS L g (.slice p L.length c) W (.bad i) ∧ Only (fun k => k = g) w W) := Lib.hid (fun W hb => HH.out.failed' (by rw [← HN.out]; exact hb))
    obtain ⟨off, hoff⟩ : ∃ off, off = offK L i := ⟨_, rfl⟩
    rw [← hoff] at HF
    by_cases hlt : i < n
    · obtain ⟨r, o, hp, -, -, -, t3, -⟩ := h.toks.tok i (by rw [← hn]; exact hlt)
      have hrg : r ≠ g := by
        obtain ⟨p', c', e, -, h0 | ⟨r', o', hp', -, hx, -⟩⟩ := h.toks
        · rw [h0] at hn; simp at hn; omega
        · cases e; rw [hp] at hp'; cases hp'; exact hx
      subst hp
      rw [← offK_at, ← hoff] at t3
      have z0 : (0 : Int) ≤ (i : Int) := by omega
      have z1 : (i : Int) < (n : Int) := by omega
      obtain ⟨f1, f2, f3⟩ := h.free
      clear h hn hoff hle hc hlt
      go_enter Tryz.func73, Tryz.ntmps73
      go_upto_region 4 with fail
      obtain ⟨V, hV⟩ : ∃ V, V = w.setCell ⟨g, 2, none⟩ (.bool true) := ⟨_, rfl⟩
      rw [← hV] at HF ⊢
      have d0 := (show V.cell? ⟨g, 0, none⟩ = w.cell? ⟨g, 0, none⟩ by rw [hV, World.cell?_setCell_other _ _ _ _ (by simp)]).trans c0
      have d1 := (show V.cell? ⟨g, 1, none⟩ = w.cell? ⟨g, 1, none⟩ by rw [hV, World.cell?_setCell_other _ _ _ _ (by simp)]).trans c1
      have d2 := (show V.cell? ⟨g, 3, none⟩ = w.cell? ⟨g, 3, none⟩ by rw [hV, World.cell?_setCell_other _ _ _ _ (by simp)]).trans c3
      have d3 := (show V.cell? ⟨r, o + i * 4 + 3, none⟩ = w.cell? ⟨r, o + i * 4 + 3, none⟩ by rw [hV, World.cell?_setCell_other _ _ _ _ (by simp [])]).trans t3
      have e1 : V.frozen? ⟨g, 1, none⟩ = false := by rw [hV]; simpa using f1
      have e3 : V.frozen? ⟨g, 3, none⟩ = false := by rw [hV]; simpa using f3
      have HD := Lib.hid (And.intro d0 (And.intro d1 (And.intro e1 (And.intro e3 d2))))
      have HV := Lib.hid hV
      clear c0 c1 c2 c3 t3 f1 f2 f3 hV d2
      obtain ⟨V2, hv2, hcell, hfr, hheap, hbel⟩ := drawn_world V
      have HV2 := Lib.hid hv2.out
      rw [← hcell] at d0 d1 d3
      clear hcell hfr hheap e1 e3
      refine region_still_tail 12 (by kernel_rfl) (by kernel_rfl) V2 hv2.out ?_
      simp only [List.take_succ_cons, List.take_zero, List.drop_succ_cons, List.drop_zero]
      repeat still_step
      refine wpStill_nil ?_
      rw [← HV2.out]
      obtain ⟨d0, d1, e1, e3, d2⟩ := HD.out
      clear hv2 hbel HV2 d3
      go_wp2
      refine bodyPost_end (results_none rfl _ _ _) rfl ?_
      obtain ⟨q1, q2⟩ := HF.out _ (Below.refl _ _).drew
      exact ⟨rfl, q1, q2⟩
    · obtain rfl : i = n := by omega
      have z1 : ¬((i : Int) < (i : Int)) := by omega
      by_cases h0 : 0 < i
      · obtain ⟨r, o, hp, -, -, -, t3, -⟩ := h.toks.tok (i - 1) (by omega)
        have hrg : r ≠ g := by
          obtain ⟨p', c', e, -, h0 | ⟨r', o', hp', -, hx, -⟩⟩ := h.toks
          · rw [h0] at hn; simp at hn; omega
          · cases e; rw [hp] at hp'; cases hp'; exact hx
        subst hp
        have hpl := h.places _ (List.getElem_mem (l := L) (n := i - 1) (by omega))
        have hoff2 : off = (L[i - 1]'(by omega)).place + 1 := by
          rw [hoff, offK_end (by omega) (by omega)]
          have : L.length - 1 = i - 1 := by omega
          simp only [this]
        generalize (L[i - 1]'(by omega)).place = pl at *
        obtain ⟨p1, p2⟩ := hpl
        have z2 : (i : Int) > 0 := by omega
        have z3 : (0 : Int) ≤ (i : Int) - 1 := by omega
        have z4 : (i : Int) - 1 < (i : Int) := by omega
        have z5 : ((i : Int) - 1).toNat = i - 1 := by omega
        obtain ⟨f1, f2, f3⟩ := h.free
        subst hoff2
        have hgr : g ≠ r := Ne.symm hrg
        clear h hn hoff hle hc hlt
        go_enter Tryz.func73, Tryz.ntmps73
        go_wp2
        refine bodyPost_end (results_none rfl _ _ _) rfl ?_
        obtain ⟨q1, q2⟩ := HF.out _ (Below.refl _ _)
        exact ⟨rfl, q1, q2⟩
      · obtain rfl : i = 0 := by omega
        have hoff2 : off = 0 := by rw [hoff]; exact offK_nil hn.symm
        have z2 : ¬(((0 : Nat) : Int) > 0) := by omega
        obtain ⟨f1, f2, f3⟩ := h.free
        have c3' : foff L (.ok 0) = 0 := rfl
        rw [c3'] at c3
        have HG := Lib.hid (HH.out.failed0 hn.symm)
        clear h hn hoff hle hc hlt c3'
        go_enter Tryz.func73, Tryz.ntmps73
        go_wp2
        refine bodyPost_end (results_none rfl _ _ _) rfl ?_
        exact ⟨rfl, HG.out.1, HG.out.2⟩

/-- What is to be read next, where that was it. -/
def nextS : St → St
  | .ok i => .ok (i + 1)
  | .bad k => .bad k

set_option maxHeartbeats 1000000 in
set_option maxRecDepth 100000 in
theorem accept_yes {L : List Tk} {g i : Nat} {vt : Value} {w : World} (q : List UInt8) (h : PS L g vt w (.ok i)) (hq : q ≠ []) (hs : sg L i = q) :
    Calls Tryz.prog 70 #[ptr g, .string (strOf q)] w fun e w' => e = .returned (.bool true) ∧ PS L g vt w' (.ok (i + 1)) ∧ Only (fun k => k = g) w w' := by
  have S := Lib.hid (sign_any h)
  rw [show sgS L (.ok i) = q from hs] at S
  have hlt : i < L.length := sg_lt (by rw [hs]; exact hq)
  have hfew := h.few
  have HH := Lib.hid h
  have HN : Hid (∀ W, PS L g vt W (.ok i) → PS L g vt (W.setCell ⟨g, 1, none⟩ (.int .i64 ((i : Int) + 1))) (.ok (i + 1))) := Lib.hid (fun W hW => hW.next hlt)
  generalize hqq : strOf q = qq at *
  have z0 : (qq.toList == qq.toList) = true := by simp
  have z1 : (qq.toList != qq.toList) = false := by simp
  have z2 : (i : Int) ≤ 1000000 := by omega
  clear h hs hq hqq hlt hfew
  go_enter Tryz.func70, Tryz.ntmps70
  go_wp2_with fail
  refine S.out.mono ?_
  rintro e w1 ⟨rfl, hb1⟩
  have HP1 := Lib.hid (HH.out.below hb1)
  have HB1 := Lib.hid hb1
  obtain ⟨-, c1, -, -⟩ := HP1.out.at
  obtain ⟨f1, -, -⟩ := HP1.out.free
  rw [show nx L (.ok i) = i from rfl] at c1
  clear hb1
  go_wp2
  go_ret
  exact ⟨rfl, HN.out _ HP1.out, (Only.of_below HB1.out).trans (Only.of_setCell _) (fun _ _ h => h)⟩

set_option maxHeartbeats 1000000 in
set_option maxRecDepth 100000 in
theorem accept_no {L : List Tk} {g : Nat} {vt : Value} {w : World} {s : St} (q : List UInt8) (h : PS L g vt w s) (hs : sgS L s ≠ q) :
    Calls Tryz.prog 70 #[ptr g, .string (strOf q)] w fun e w' => e = .returned (.bool false) ∧ Below w.heap.size w w' := by
  have S := Lib.hid (sign_any h)
  have z0 : ((strOf (sgS L s)).toList == (strOf q).toList) = false := by rw [str_beq]; exact decide_eq_false hs
  generalize strOf (sgS L s) = r at *
  generalize strOf q = qq at *
  have z1 : (r.toList != qq.toList) = true := by simp [bne, z0]
  clear h hs
  go_enter Tryz.func70, Tryz.ntmps70
  go_wp2_with fail
  refine S.out.mono ?_
  rintro e w1 ⟨rfl, hb1⟩
  have HB1 := Lib.hid hb1
  clear hb1
  go_wp2
  go_ret
  exact ⟨rfl, HB1.out⟩

/-- What is left of where it stands, where a mark must stand. -/
def markS (L : List Tk) (q : List UInt8) : St → St
  | .ok i => if sg L i = q then .ok (i + 1) else .bad i
  | .bad k => .bad k

theorem Leads.mark {L : List Tk} (q : List UInt8) (s : St) : Leads L [.mark q] [] s [] [] (markS L q s) := by
  cases s with
  | bad k => exact rfl
  | ok i =>
    show Leads L [.mark q] [] (.ok i) [] [] (if sg L i = q then .ok (i + 1) else .bad i)
    by_cases h : sg L i = q
    · rw [if_pos h]; exact .yes (fun V => if_pos h)
    · rw [if_neg h]; exact .no (fun V => if_neg h)

set_option maxHeartbeats 1000000 in
set_option maxRecDepth 100000 in
theorem expect_any {L : List Tk} {g : Nat} {vt : Value} {w : World} {s : St} (q : List UInt8) (h : PS L g vt w s) (hq : q ≠ []) :
    Calls Tryz.prog 66 #[ptr g, .string (strOf q)] w fun e w' => e = .returned (.tuple #[]) ∧ PS L g vt w' (markS L q s) ∧ Only (fun k => k = g) w w' := by
  by_cases hs : sgS L s = q
  · cases s with
    | bad k => rw [sgS_bad] at hs; exact absurd hs.symm hq
    | ok i =>
      have A := Lib.hid (accept_yes q h hq hs)
      rw [show markS L q (.ok i) = .ok (i + 1) from if_pos hs]
      clear h hs hq
      go_enter Tryz.func66, Tryz.ntmps66
      go_wp2_with fail
      refine A.out.mono ?_
      rintro e w1 ⟨rfl, hp, ho⟩
      have HP := Lib.hid hp
      have HO := Lib.hid ho
      clear hp ho
      go_wp2
      refine bodyPost_end (results_none rfl _ _ _) rfl ?_
      exact ⟨rfl, HP.out, HO.out⟩
  · have A := Lib.hid (accept_no q h hs)
    have F : Hid (∀ W, Below w.heap.size w W → Calls Tryz.prog 73 #[ptr g] W fun e w' => e = .returned (.tuple #[]) ∧ PS L g vt w' (failS s) ∧ Only (fun k => k = g) W w') := Lib.hid (fun W hb => fail_any (h.below hb))
    have HM : Hid (markS L q s = failS s) := Lib.hid (by
      cases s with
      | bad k => rfl
      | ok i => exact if_neg hs)
    rw [HM.out]
    clear h hs hq
    go_enter Tryz.func66, Tryz.ntmps66
    go_wp2_with fail
    refine A.out.mono ?_
    rintro e w1 ⟨rfl, hb⟩
    have HB := Lib.hid hb
    clear hb
    go_wp2_with fail
    refine (F.out _ HB.out).mono ?_
    rintro e w2 ⟨rfl, hp, ho⟩
    have HP := Lib.hid hp
    have HO := Lib.hid ((Only.of_below (F := fun k => k = g) HB.out).trans ho (fun _ _ h => h))
    clear hp ho
    go_wp2
    refine bodyPost_end (results_none rfl _ _ _) rfl ?_
    exact ⟨rfl, HP.out, HO.out⟩

end Go.Proofs.YtemlceicmpcboaaGreatDoor.Pa
namespace Go.Proofs.YtemlceicmpcboaaGreatDoor.Pa
open Go.RowKit Dk Lx Tr

/-- What is left of where it stands, where a token of a kind must stand. -/
def needS (L : List Tk) (k : Int) : St → St
  | .ok i => if kd L i = k then .ok (i + 1) else .bad i
  | .bad k => .bad k

set_option maxRecDepth 100000 in
theorem results_cell1 {P : Program} {fn : Func} {t : Tmp} {ty : TypeId} {d : TypeDesc} {cs : List Value} {b : Nat} (h : fn.results = #[.cell t ty]) (tmps : Array Value) (w : World) (ht : tmps.getD t undef = .pointer (some ⟨b, 0, none⟩)) (hc : w.rangeAt b 0 cs)
    (hu : P.underlying ty = some d) (hd : d.isRow = true) (hi : (P.info? ty).map (·.size) = some cs.length) : (results fn tmps).run P w = .ok (.agg cs.toArray) w := by
  have hl := run_loadVar_mid (P := P) w b 0 ty cs d hc hu hd hi
  simp only [Array.getD_eq_getD_getElem?] at ht
  simp [results, h, ht, hl, asAddr]

set_option maxRecDepth 100000 in
theorem tb_only {F : Nat → Prop} {W W' : World} {B : Nat} {e : Tk} (h : TB W B e) (ho : Only F W W') (hF : ¬F B) : TB W' B e := h.of_block (ho.block B h.lt hF) ho.size

/-- How far a call of a reader has come, that began in w: the parser's block tells s, and all else that lay there is as it was. -/
structure On (L : List Tk) (g : Nat) (vt : Value) (w W : World) (s : St) : Prop where
  toks : ToksX w g vt L
  lt : g < w.heap.size
  ps : PS L g vt W s
  only : Only (fun k => k = g) w W
set_option maxRecDepth 100000 in
theorem On.start {L : List Tk} {g : Nat} {vt : Value} {w : World} {s : St} (h : PS L g vt w s) : On L g vt w w s := ⟨h.toks, h.lt, h, Only.refl _ _⟩
set_option maxRecDepth 100000 in
theorem On.below {L : List Tk} {g : Nat} {vt : Value} {w W W' : World} {s : St} (h : On L g vt w W s) (hb : Below W.heap.size W W') : On L g vt w W' s :=
  ⟨h.toks, h.lt, h.ps.below hb, h.only.trans (Only.of_below (F := fun k => k = g) hb) (fun _ _ h => h)⟩
set_option maxRecDepth 100000 in
theorem On.alloc {L : List Tk} {g : Nat} {vt : Value} {w W : World} {s : St} (h : On L g vt w W s) (o : Obj) : On L g vt w (W.alloc o) s := h.below ((Below.refl _ _).alloc (Nat.le_refl _) o)
set_option maxRecDepth 100000 in
theorem On.call {L : List Tk} {g : Nat} {vt : Value} {w W W' : World} {s s' : St} (h : On L g vt w W s) (hp : PS L g vt W' s') (ho : Only (fun k => k = g) W W') : On L g vt w W' s' :=
  ⟨h.toks, h.lt, hp, h.only.trans ho (fun _ _ h => h)⟩
set_option maxRecDepth 100000 in
/-- A block of the call's own is written. -/
theorem On.own {L : List Tk} {g : Nat} {vt : Value} {w W W' : World} {s : St} {F : Nat → Prop} (h : On L g vt w W s) (ho : Only F W W') (hF : ∀ i, F i → w.heap.size ≤ i) : On L g vt w W' s := by
  have hg : ¬F g := fun hf => by have := hF g hf; have := h.lt; omega
  refine ⟨h.toks, h.lt, ⟨rangeAt_block h.ps.cells (ho.block g h.ps.lt hg), there_block h.ps.room (ho.block g h.ps.lt hg), Nat.lt_of_lt_of_le h.ps.lt ho.size, ?_, h.ps.le, h.ps.few, h.ps.places⟩, h.only.trans ho (fun i hi hf => absurd (hF i hf) (by omega))⟩
  obtain ⟨p, c, hv, hc, hq | ⟨r, o, hp, hr, hx, hq⟩⟩ := h.toks
  · exact ⟨p, c, hv, hc, .inl hq⟩
  · have hrW : r < W.heap.size := Nat.lt_of_lt_of_le hr h.only.size
    refine ⟨p, c, hv, hc, .inr ⟨r, o, hp, Nat.lt_of_lt_of_le hrW ho.size, hx, rangeAt_block (rangeAt_block hq (h.only.block r hr hx)) (ho.block r hrW (fun hf => by have := hF r hf; omega))⟩⟩
set_option maxRecDepth 100000 in
theorem On.setCells {L : List Tk} {g : Nat} {vt : Value} {w W : World} {s : St} (h : On L g vt w W s) (B : Nat) (hB : w.heap.size ≤ B) (o : Nat) (vs : List Value) : On L g vt w (W.setCells B o vs) s :=
  h.own (F := fun k => k = B) (Only.setCells (F := fun k => k = B) B rfl vs o W (Only.refl _ _)) (fun i hi => by omega)
set_option maxRecDepth 100000 in
theorem On.setCell {L : List Tk} {g : Nat} {vt : Value} {w W : World} {s : St} (h : On L g vt w W s) (B : Nat) (hB : w.heap.size ≤ B) (o : Nat) (v : Value) : On L g vt w (W.setCell ⟨B, o, none⟩ v) s :=
  h.own (F := fun k => k = B) (Only.of_setCell v) (fun i hi => by omega)

set_option maxHeartbeats 2000000 in
set_option maxRecDepth 100000 in
theorem token_no {L : List Tk} {g : Nat} {vt : Value} {w : World} {s : St} (k : Int) (h : PS L g vt w s) (hs : kdS L s ≠ k) :
    Calls Tryz.prog 128 #[ptr g, .int .i64 k] w fun e w' => e = .returned (.agg Tk.zero.cells.toArray) ∧ PS L g vt w' (failS s) ∧ Only (fun k => k = g) w w' := by
  have K := Lib.hid (fun W (hp : PS L g vt W s) => kind_any hp)
  have F := Lib.hid (fun W (hp : PS L g vt W s) => fail_any hp)
  generalize kdS L s = j at *
  have z0 : (j != k) = true := by simpa using hs
  have HLT := Lib.hid h.lt
  have H0 := Lib.hid (On.start h)
  have HZ := Lib.hid (tb_zero w)
  have HA := Lib.hid (t_infoA Tk.zero)
  have HL := Lib.hid (t_all Tk.zero)
  clear h hs
  go_enter Tryz.func128, Tryz.ntmps128
  go_wp2_with fail
  refine (K.out _ (H0.out.alloc _).ps).mono ?_
  rintro e w1 ⟨rfl, hb⟩
  have H1 := Lib.hid ((H0.out.alloc _).below hb)
  have HZ1 := Lib.hid (HZ.out.later hb)
  clear hb
  go_wp2_with fail
  refine (F.out _ H1.out.ps).mono ?_
  rintro e w2 ⟨rfl, hp, ho⟩
  have H2 := Lib.hid (H1.out.call hp ho)
  have HZ2 := Lib.hid (tb_only HZ1.out ho (by have := HLT.out; omega))
  clear hp ho
  have H3 := Lib.hid (H2.out.setCells w.heap.size (Nat.le_refl _) 0 Tk.zero.cells.toArray.toList)
  have HZ3 := Lib.hid (HZ2.out.set Tk.zero)
  go_wp2_with (first
    | (refine wpList_store_mid rfl 72 (.tmp 4) (.tmp 12) rfl w.heap.size 0 Tk.zero.cells.toArray rfl rfl HZ2.out.room HA.out HL.out ?_; generalize World.setCells _ _ _ _ = w3 at H3 HZ3 ⊢))
  refine bodyPost_ret (results_cell1 rfl _ _ rfl HZ3.out.cells Tryz.underlying72 rfl (t_info _)) rfl ?_
  exact ⟨rfl, H3.out.ps, H3.out.only⟩

set_option maxHeartbeats 4000000 in
set_option maxRecDepth 100000 in
theorem token_yes {L : List Tk} {g i : Nat} {vt : Value} {w : World} (k : Int) (h : PS L g vt w (.ok i)) (_hk : k ≠ 0) (hs : kd L i = k) (hi : i < L.length) :
    Calls Tryz.prog 128 #[ptr g, .int .i64 k] w fun e w' => e = .returned (.agg (L[i]).cells.toArray) ∧ PS L g vt w' (.ok (i + 1)) ∧ Only (fun k => k = g) w w' := by
  have K := Lib.hid (fun W (hp : PS L g vt W (.ok i)) => kind_any hp)
  rw [show kdS L (.ok i) = k from hs] at K
  obtain ⟨p, c, rfl, hc⟩ := h.form
  have hfew := h.few
  obtain ⟨n, hn⟩ : ∃ n, n = L.length := ⟨_, rfl⟩
  have HN := Lib.hid hn
  have z0 : (k != k) = false := by simp
  have z1 : (0 : Int) ≤ (i : Int) := by omega
  have z2 : (i : Int) < (n : Int) := by omega
  have z3 : (i : Int) ≤ 1000000 := by omega
  have HLT := Lib.hid h.lt
  have H0 := Lib.hid (On.start h)
  have HZ := Lib.hid (tb_zero w)
  generalize hE : L[i] = E
  have HA := Lib.hid (t_infoA E)
  have HI := Lib.hid (t_info E)
  have HL := Lib.hid (t_all E)
  obtain ⟨r, o, hp, -⟩ := h.toks.tok i hi
  subst hp
  have HT : Hid (∀ W, On L g (.slice (some ⟨r, o, none⟩) L.length c) w W (.ok i) → W.cell? ⟨g, 0, none⟩ = some (.slice (some ⟨r, o, none⟩) n c) ∧ W.cell? ⟨g, 1, none⟩ = some (.int .i64 (i : Int)) ∧ (W.cell? ⟨r, o + i * 4, none⟩ = some (.int .i64 E.kind) ∧ W.cell? ⟨r, o + i * 4 + 1, none⟩ = some (.string (strOf E.text)) ∧ W.cell? ⟨r, o + i * 4 + 2, none⟩ = some (.int .i64 E.n) ∧ W.cell? ⟨r, o + i * 4 + 3, none⟩ = some (.int .i64 E.place)) ∧ W.frozen? ⟨g, 1, none⟩ = false) := Lib.hid (fun W hW => by
    obtain ⟨r', o', hp, q1, q2, q3, q4, -⟩ := hW.ps.toks.tok i hi
    cases hp
    rw [hE] at q1 q2 q3 q4
    rw [HN.out]
    exact ⟨hW.ps.at.1, hW.ps.at.2.1, ⟨q1, q2, q3, q4⟩, hW.ps.free.1⟩)
  have HN2 : Hid (∀ W, On L g (.slice (some ⟨r, o, none⟩) L.length c) w W (.ok i) → On L g (.slice (some ⟨r, o, none⟩) L.length c) w (W.setCell ⟨g, 1, none⟩ (.int .i64 ((i : Int) + 1))) (.ok (i + 1))) := Lib.hid (fun W hW => hW.call (hW.ps.next hi) (Only.of_setCell _))
  clear h hs hn hE
  go_enter Tryz.func128, Tryz.ntmps128
  go_wp2_with fail
  refine (K.out _ (H0.out.alloc _).ps).mono ?_
  rintro e w1 ⟨rfl, hb⟩
  have H1 := Lib.hid ((H0.out.alloc _).below hb)
  have HZ1 := Lib.hid (HZ.out.later hb)
  clear hb
  go_upto_region 4 with fail
  obtain ⟨c0, c1, ⟨c2, c3, c4, c5⟩, -⟩ := HT.out _ H1.out
  have n0 := World.new_ne w1 _ c0
  have n1 := World.new_ne w1 _ c1
  have n2 := World.new_ne w1 _ c2
  have n3 := World.new_ne w1 _ c3
  have n4 := World.new_ne w1 _ c4
  have n5 := World.new_ne w1 _ c5
  go_cut [5] (fun v5 wx => ∃ B, v5 = .pointer (some ⟨B, 0, none⟩) ∧ w.heap.size < B ∧ Hid (On L g (.slice (some ⟨r, o, none⟩) L.length c) w wx (.ok i)) ∧ Hid (TB wx w.heap.size Tk.zero) ∧ Hid (TB wx B E))
  case first =>
    go_region_held3 (fun W => W.cell? ⟨g, 0, none⟩ = some (.slice (some ⟨r, o, none⟩) n c) ∧ W.cell? ⟨g, 1, none⟩ = some (.int .i64 (i : Int)) ∧ W.cell? ⟨r, o + i * 4, none⟩ = some (.int .i64 E.kind) ∧ W.cell? ⟨r, o + i * 4 + 1, none⟩ = some (.string (strOf E.text)) ∧ W.cell? ⟨r, o + i * 4 + 2, none⟩ = some (.int .i64 E.n) ∧ W.cell? ⟨r, o + i * 4 + 3, none⟩ = some (.int .i64 E.place)) (go_keep) (fail)
    go_wp2_with fail
    go_meet
    have hb : Below w1.heap.size w1 (w1.alloc (Obj.cells E.cells.toArray 72)).drew := ((Below.refl _ _).alloc (Nat.le_refl _) _).drew
    exact ⟨_, rfl, HZ1.out.lt, Lib.hid (H1.out.below hb), Lib.hid (HZ1.out.later hb), Lib.hid ((tb_new w1 E _).later (by exact (Below.refl _ _).drew))⟩
  case rest =>
    obtain ⟨B, rfl, hB, h2, hZ2, hE2⟩ := hcut
    clear n0 n1 n2 n3 n4 n5 c0 c1 c2 c3 c4 c5
    obtain ⟨-, c1, -, f1⟩ := HT.out _ h2.out
    have H3 := Lib.hid (HN2.out _ h2.out)
    have HZ3 := Lib.hid (tb_only hZ2.out (Only.of_setCell (g := g) (j := 1) (.int .i64 ((i : Int) + 1))) (by have := HLT.out; omega))
    have HE3 := Lib.hid (tb_only hE2.out (Only.of_setCell (g := g) (j := 1) (.int .i64 ((i : Int) + 1))) (by have := HLT.out; omega))
    go_upto_region 6 with fail
    clear c1 f1
    generalize World.setCell _ _ _ = w3 at H3 HZ3 HE3 ⊢
    have H4 := Lib.hid (H3.out.setCells w.heap.size (Nat.le_refl _) 0 E.cells.toArray.toList)
    have HZ4 := Lib.hid (HZ3.out.set E)
    go_wp2_with (first
      | (refine wpList_load_mid rfl 72 (.tmp 5) rfl B 0 rfl E.cells _ HE3.out.cells Tryz.underlying72 rfl HI.out ?_)
      | (refine wpList_store_mid rfl 72 (.tmp 4) (.tmp 30) rfl w.heap.size 0 E.cells.toArray rfl rfl HZ3.out.room HA.out HL.out ?_; generalize World.setCells _ _ _ _ = w4 at H4 HZ4 ⊢))
    refine bodyPost_ret (results_cell1 rfl _ _ rfl HZ4.out.cells Tryz.underlying72 rfl (t_info _)) rfl ?_
    exact ⟨rfl, H4.out.ps, H4.out.only⟩

/-- The name, and the number, of what must be a name, or a number. -/
def nameV (L : List Tk) (k : Int) : St → Tk
  | .ok i => if kd L i = k then L.getD i Tk.zero else Tk.zero
  | .bad _ => Tk.zero

set_option maxRecDepth 100000 in
theorem token_any {L : List Tk} {g : Nat} {vt : Value} {w : World} {s : St} (k : Int) (h : PS L g vt w s) (hk : k ≠ 0) :
    Calls Tryz.prog 128 #[ptr g, .int .i64 k] w fun e w' => e = .returned (.agg (nameV L k s).cells.toArray) ∧ PS L g vt w' (needS L k s) ∧ Only (fun k => k = g) w w' := by
  by_cases hs : kdS L s = k
  · cases s with
    | bad j => rw [kdS_bad] at hs; exact absurd hs.symm hk
    | ok i =>
      have hi : i < L.length := kd_lt (by rw [show kd L i = k from hs]; exact hk)
      have := token_yes k h hk hs hi
      rw [show nameV L k (.ok i) = L[i] from (if_pos hs).trans (by simp [List.getD, List.getElem?_eq_getElem hi]), show needS L k (.ok i) = .ok (i + 1) from if_pos hs]
      exact this
  · have := token_no k h hs
    rw [show nameV L k s = Tk.zero by cases s with | bad j => rfl | ok i => exact if_neg hs, show needS L k s = failS s by cases s with | bad j => rfl | ok i => exact if_neg hs]
    exact this

set_option maxRecDepth 100000 in
set_option maxHeartbeats 1000000 in
theorem name_rd {L : List Tk} {g : Nat} {vt : Value} {w : World} {s : St} (h : PS L g vt w s) :
    Calls Tryz.prog 68 #[ptr g] w fun e w' => e = .returned (.string (strOf (nameV L 1 s).text)) ∧ PS L g vt w' (needS L 1 s) ∧ Only (fun k => k = g) w w' := by
  have T := Lib.hid (token_any 1 h (by decide))
  generalize nameV L 1 s = E at *
  obtain ⟨ek, et, en, ep⟩ := E
  have hfd : ∀ W : World, (Instr.field 72 (.agg #[.int .i64 ek, .string (strOf et), .int .i64 en, .int .i64 ep]) 1).run Tryz.prog W = .ok (.string (strOf et)) W := fun _ => by kernel_rfl
  clear h
  go_enter Tryz.func68, Tryz.ntmps68
  go_wp2_with fail
  refine T.out.mono ?_
  rintro e w1 ⟨rfl, hp, ho⟩
  have HP := Lib.hid hp
  have HO := Lib.hid ho
  clear hp ho
  simp only [Tk.cells]
  go_wp2
  go_ret
  exact ⟨rfl, HP.out, HO.out⟩

set_option maxRecDepth 100000 in
set_option maxHeartbeats 1000000 in
theorem number_rd {L : List Tk} {g : Nat} {vt : Value} {w : World} {s : St} (h : PS L g vt w s) :
    Calls Tryz.prog 69 #[ptr g] w fun e w' => e = .returned (.int .i64 (nameV L 2 s).n) ∧ PS L g vt w' (needS L 2 s) ∧ Only (fun k => k = g) w w' := by
  have T := Lib.hid (token_any 2 h (by decide))
  generalize nameV L 2 s = E at *
  obtain ⟨ek, et, en, ep⟩ := E
  have hfd : ∀ W : World, (Instr.field 72 (.agg #[.int .i64 ek, .string (strOf et), .int .i64 en, .int .i64 ep]) 2).run Tryz.prog W = .ok (.int .i64 en) W := fun _ => by kernel_rfl
  clear h
  go_enter Tryz.func69, Tryz.ntmps69
  go_wp2_with fail
  refine T.out.mono ?_
  rintro e w1 ⟨rfl, hp, ho⟩
  have HP := Lib.hid hp
  have HO := Lib.hid ho
  clear hp ho
  simp only [Tk.cells]
  go_wp2
  go_ret
  exact ⟨rfl, HP.out, HO.out⟩

/-- Block b holds a branch of this node, with what lies below it in v; it is the call's own. -/
structure BB (W : World) (b : Nat) (x : Nd) (k : Int) (v : Value) : Prop where
  cells : W.rangeAt b 0 (bcells x k v)
  room : W.there b 0 6
  lt : b < W.heap.size

set_option maxRecDepth 100000 in
set_option maxHeartbeats 1000000 in
theorem grow_any (x : Nd) (p : Option Addr) (n c : Nat) (w : World) :
    Calls Tryz.prog 67 #[.agg x.cells.toArray, .slice p n c] w fun e w' => ∃ b, e = .returned (ptr b) ∧ w.heap.size ≤ b ∧ BB w' b x x.kids (.slice p n c) ∧ Below w.heap.size w w' := by
  obtain ⟨k, d, q, z, s⟩ := x
  simp only [Nd.cells]
  go_enter Tryz.func67, Tryz.ntmps67
  go_wp2
  go_ret
  have h1 := range_new (w.alloc (Obj.cells #[.int .i64 k, .int .i64 d, .string (strOf q), .int .i64 z, .string (strOf s)] 29)) [.int .i64 k, .int .i64 d, .string (strOf q), .int .i64 z, .string (strOf s), .slice p n c] 118
  have h2 := there_new (w.alloc (Obj.cells #[.int .i64 k, .int .i64 d, .string (strOf q), .int .i64 z, .string (strOf s)] 29)) #[.int .i64 k, .int .i64 d, .string (strOf q), .int .i64 z, .string (strOf s), .slice p n c] 118
  have hs : (w.alloc (Obj.cells #[.int .i64 k, .int .i64 d, .string (strOf q), .int .i64 z, .string (strOf s)] 29)).heap.size = w.heap.size + 1 := by simp
  rw [hs] at h1 h2
  exact ⟨w.heap.size + 1, rfl, Nat.le_succ _, ⟨h1, h2, by simp⟩, ((Below.refl _ _).alloc (Nat.le_refl _) _).alloc (by simp) _⟩

end Go.Proofs.YtemlceicmpcboaaGreatDoor.Pa
namespace Go.Proofs.YtemlceicmpcboaaGreatDoor.Pa
open Go.RowKit Dk Lx Tr

/-- Branches that a call has made, unless it could not go on. -/
def Kids (W : World) (X : Nat → Prop) (cs : List (Nat × List Nd)) : St → Prop
  | .ok _ => ∀ c ∈ cs, Br W X c.1 c.2
  | .bad _ => True
/-- Behind a failure there is none but a failure. -/
def Aft (s s' : St) : Prop := ∀ j, s' = .ok j → ∃ i, s = .ok i
theorem Leads.aft {L : List Tk} {A B : List Sy} {us ts : List (List Nd)} {s s' : St} (h : Leads L A us s B ts s') : Aft s s' := by
  intro j hj
  subst hj
  cases s with
  | ok i => exact ⟨i, rfl⟩
  | bad k => exact absurd h id
theorem Aft.trans {a b c : St} (h : Aft a b) (k : Aft b c) : Aft a c := fun j hj => by obtain ⟨i, hi⟩ := k j hj; exact h i hi
theorem Aft.refl (a : St) : Aft a a := fun j hj => ⟨j, hj⟩
theorem Kids.aft {W : World} {X : Nat → Prop} {cs : List (Nat × List Nd)} {s s' : St} (h : Kids W X cs s) (ha : Aft s s') : Kids W X cs s' := by
  cases s' with
  | ok j => obtain ⟨i, rfl⟩ := ha j rfl; exact h
  | bad k => trivial
theorem Kids.only {F X : Nat → Prop} {W W' : World} {cs : List (Nat × List Nd)} {s : St} (h : Kids W X cs s) (ho : Only F W W') (hF : ∀ i, i < W.heap.size → F i → X i) : Kids W' X cs s := by
  cases s with
  | ok i => exact fun c hc => Br.only (h c hc) ho hF
  | bad k => trivial
theorem Kids.weaken {X Y : Nat → Prop} {W : World} {cs : List (Nat × List Nd)} {s : St} (h : Kids W X cs s) (hXY : ∀ i, i < W.heap.size → Y i → X i) : Kids W Y cs s := by
  cases s with
  | ok i => exact fun c hc => Br.weaken (h c hc) hXY
  | bad k => trivial
theorem Kids.nil (W : World) (X : Nat → Prop) (s : St) : Kids W X [] s := by cases s with | ok i => exact (fun c hc => by cases hc) | bad k => trivial
theorem Kids.add {W : World} {X : Nat → Prop} {cs : List (Nat × List Nd)} {b : Nat} {t : List Nd} {s : St} (h : Kids W X cs s) (hb : SB W X b t s) : Kids W X (cs ++ [(b, t)]) s := by
  cases s with
  | ok i =>
    intro c hc
    rcases List.mem_append.1 hc with h1 | h1
    · exact h c h1
    · rw [List.mem_singleton.1 h1]; exact hb
  | bad k => trivial

/-- A row of the call's own, of the branches that it has made. -/
structure LR (w W : World) (v : Value) (cs : List (Nat × List Nd)) (s : St) : Prop where
  row : W.ownsRow w.heap.size 76 1 v cs.length (bp (cs.map (·.1)))
  kids : Kids W (fun k => k < w.heap.size ∨ v.ownBlock = some k) cs s

theorem LR.nil (w W : World) (s : St) : LR w W (.slice none 0 0) [] s := ⟨World.ownsRow_nil _ _ _ _, Kids.nil _ _ _⟩
theorem LR.aft {w W : World} {v : Value} {cs : List (Nat × List Nd)} {s s' : St} (h : LR w W v cs s) (ha : Aft s s') : LR w W v cs s' := ⟨h.row, h.kids.aft ha⟩
/-- Where what lay ahead of w, and it, is left alone but block g. -/
theorem LR.only {w W W' : World} {v : Value} {cs : List (Nat × List Nd)} {s : St} {g : Nat} (h : LR w W v cs s) (ho : Only (fun k => k = g) W W') (hg : g < w.heap.size) : LR w W' v cs s :=
  ⟨ownsRow_block h.row (fun b hb => ho.block b (Tr.own_lo h.row b hb).2 (by have := (Tr.own_lo h.row b hb).1; omega)), h.kids.only ho (fun i _ hi => .inl (by omega))⟩
theorem LR.below {w W W' : World} {v : Value} {cs : List (Nat × List Nd)} {s : St} (h : LR w W v cs s) (hb : Below W.heap.size W W') : LR w W' v cs s :=
  ⟨ownsRow_block h.row (fun b hb' => hb.block b (Tr.own_lo h.row b hb').2), h.kids.only (Only.of_below (F := fun _ => False) hb) (fun _ _ h => h.elim)⟩

theorem LR.row' {w W : World} {v : Value} {cs : List (Nat × List Nd)} {s : St} (h : LR w W v cs s) : Row W (fun k => k < w.heap.size) v (cs.map (·.1)) := by
  have hl : (cs.map (·.1)).length = cs.length := by simp
  rcases h.row.2 with ⟨hv, h0⟩ | ⟨g, cap, cur, hv, hbg, hg, h3, h4, h5, h6⟩
  · exact ⟨none, 0, by rw [hv, hl, h0], by omega, .inl (by rw [List.eq_nil_of_length_eq_zero h0]; rfl)⟩
  · have hrow := h.row
    rw [hv] at hrow
    refine ⟨_, cap, by rw [hv, hl], by omega, .inr ⟨g, 0, rfl, (Tr.own_lo h.row g (by rw [hv]; rfl)).2, by omega, ownsRow_range hrow⟩⟩

/-- A branch of a node, above a row. -/
theorem sb_node {w W : World} {b : Nat} {x : Nd} {k : Int} {v : Value} {cs : List (Nat × List Nd)} {s : St} (h : BB W b x k v) (hb : w.heap.size ≤ b) (hr : LR w W v cs s) : SB W (fun k => k < w.heap.size) b (join x (cs.map (·.2))) s := by
  cases s with
  | ok i => exact .mk b x k v cs h.cells h.room h.lt (by omega) hr.row' (fun c hc => Br.weaken (hr.kids c hc) (fun _ _ h => .inl h))
  | bad k => exact ⟨h.lt, by omega, x.kind, h.cells 0 _ rfl⟩

/-- One more is put behind the others. -/
theorem LR.push {w W W7 : World} {v : Value} {cs : List (Nat × List Nd)} {s : St} {b n : Nat} {t : List Nd} {g' cap : Nat} {o : Obj} (h : LR w W v cs s) (hn : n = cs.length) (hb : SB W (fun k => k < w.heap.size ∨ v.ownBlock = some k) b t s)
    (_hw : w.heap.size ≤ W.heap.size) (hrow : W7.ownsRow w.heap.size 76 1 (.slice (some ⟨g', 0, none⟩) (n + 1) cap) (n + 1) (bp (cs.map (·.1)) ++ [ptr b])) (hgr : (W.alloc o).grownBy W7 v.ownBlock)
    (hg : v.ownBlock = some g' ∨ g' = W.heap.size + 1) : LR w W7 (.slice (some ⟨g', 0, none⟩) (n + 1) cap) (cs ++ [(b, t)]) s ∧ Only (fun k => v.ownBlock = some k) W W7 := by
  subst hn
  have ho : Only (fun k => v.ownBlock = some k) W W7 := ((Only.refl (fun k => v.ownBlock = some k) W).alloc o).trans (Only.of_grown (F := fun k => v.ownBlock = some k) hgr (fun _ h => h)) (fun _ _ h => h)
  refine ⟨⟨?_, ?_⟩, ho⟩
  · rw [List.length_append, List.map_append, bp_app]
    exact hrow
  · have h1 : Kids W (fun k => (k < w.heap.size ∨ v.ownBlock = some k) ∨ W.heap.size ≤ k) (cs ++ [(b, t)]) s := Kids.weaken (Kids.add h.kids hb) (fun i hi hx => hx.elim id (fun h => absurd h (by omega)))
    have h2 := Kids.only h1 ho (fun i _ hi => .inl (.inr hi))
    refine Kids.weaken h2 (fun i _ hi => ?_)
    rcases hi with hi | hi
    · exact .inl (.inl hi)
    · have e : g' = i := by simpa [Value.ownBlock] using hi
      subst e
      rcases hg with h | h
      · exact .inl (.inr h)
      · exact .inr (by omega)

/-- The first one. -/
theorem LR.one {w W : World} {s : St} {b : Nat} {t : List Nd} (hb : SB W (fun k => k < w.heap.size) b t s) (hw : w.heap.size ≤ W.heap.size) : LR w (W.alloc (.cells #[ptr b] 76)) (.slice (some ⟨W.heap.size, 0, none⟩) 1 1) [(b, t)] s := by
  refine ⟨World.ownsRow_lit W #[ptr b] 1 hw (by unfold maxLen; omega) rfl, ?_⟩
  have h1 : Kids W (fun k => k < w.heap.size) [(b, t)] s := Kids.add (cs := []) (Kids.nil _ _ _) hb
  have h2 := Kids.weaken (Y := fun k => k < w.heap.size ∨ W.heap.size ≤ k) h1 (fun i hi hx => hx.elim id (fun h => absurd h (by omega)))
  refine Kids.weaken (Kids.only h2 (Only.of_below (F := fun _ => False) ((Below.refl _ _).alloc (Nat.le_refl _) _)) (fun _ _ h => h.elim)) (fun i _ hi => ?_)
  rcases hi with hi | hi
  · exact .inl hi
  · have e : W.heap.size = i := by simpa [Value.ownBlock] using hi
    exact .inr (by omega)

/-! the machine, where it stands -/
theorem Leads.mk {L : List Tk} (x : Nd) (ts : List (List Nd)) (m : Nat) (hm : m = ts.length) (s : St) : Leads L [.mk x m] ts s [] [join x ts] s := by
  subst hm
  cases s with
  | bad k => exact rfl
  | ok i =>
    refine .yes (fun V => ?_)
    show (if ts.length ≤ (ts.reverse ++ V).length then some ([], join x ((ts.reverse ++ V).take ts.length).reverse :: (ts.reverse ++ V).drop ts.length, i) else none) = _
    rw [if_pos (by simp), List.take_append_of_le_length (by simp), List.take_of_length_le (by simp), List.drop_append_of_le_length (by simp), List.drop_of_length_le (by simp)]
    simp
theorem need_lead {L : List Tk} (a : Sy) (k : Int) (us : List (List Nd)) (s : St) (B : Tk → List Sy) (ho : ∀ V i, one L a V i = need L k V i (B (L.getD i Tk.zero))) : Leads L [a] us s (B (nameV L k s)) us (needS L k s) := by
  cases s with
  | bad k => exact rfl
  | ok i =>
    show Leads L [a] us (.ok i) (B (if kd L i = k then L.getD i Tk.zero else Tk.zero)) us (if kd L i = k then .ok (i + 1) else .bad i)
    by_cases h : kd L i = k
    · rw [if_pos h, if_pos h]
      exact .yes (fun V => by rw [ho]; exact if_pos h)
    · rw [if_neg h, if_neg h]
      exact .no (fun V => by rw [ho]; exact if_neg h)
theorem tx_getD (L : List Tk) (i : Nat) : tx L i = (L.getD i Tk.zero).text := by
  unfold tx
  cases h : L[i]? <;> simp [List.getD, h, Tk.zero]
theorem nm_getD (L : List Tk) (i : Nat) : nm L i = (L.getD i Tk.zero).n := by
  unfold nm
  cases h : L[i]? <;> simp [List.getD, h, Tk.zero]
theorem need_le {L : List Tk} (k : Int) {s : St} (hs : nx L s ≤ L.length) : nx L s ≤ nx L (needS L k s) := by
  cases s with
  | bad j => exact Nat.le_refl _
  | ok i =>
    show i ≤ nx L (if kd L i = k then .ok (i + 1) else .bad i)
    split
    · exact Nat.le_succ _
    · exact hs
theorem mark_le {L : List Tk} (q : List UInt8) {s : St} (hs : nx L s ≤ L.length) : nx L s ≤ nx L (markS L q s) := by
  cases s with
  | bad j => exact Nat.le_refl _
  | ok i =>
    show i ≤ nx L (if sg L i = q then .ok (i + 1) else .bad i)
    split
    · exact Nat.le_succ _
    · exact hs

set_option maxHeartbeats 1000000 in
set_option maxRecDepth 100000 in
theorem param_rd (L : List Tk) (s : St) : Rd L 131 [.par] s := by
  intro g vt w h
  have N := Lib.hid (name_rd h)
  have HL : Hid (Leads L [.par] [] s [] [join { nd 4 with name := (nameV L 1 s).text } []] (needS L 1 s)) := Lib.hid (by
    refine (need_lead .par 1 [] s (fun t => [.mk { nd 4 with name := t.text } 0]) (fun V i => by rw [← tx_getD]; rfl)).trans ?_
    exact Leads.mk _ [] 0 rfl _)
  have HLE := Lib.hid (need_le 1 h.le)
  generalize (nameV L 1 s).text = q at *
  generalize needS L 1 s = s' at *
  have H0 := Lib.hid (On.start h)
  have G := Lib.hid (fun W => grow_any ⟨4, 0, q, 0, []⟩ none 0 0 W)
  clear h
  go_enter Tryz.func131, Tryz.ntmps131
  go_wp2_with fail
  refine N.out.mono ?_
  rintro e w1 ⟨rfl, hp, ho⟩
  have H1 := Lib.hid (H0.out.call hp ho)
  clear hp ho
  go_wp2_with fail
  refine (G.out _).mono ?_
  rintro e w2 ⟨b, rfl, hb, hB, hbel⟩
  have H2 := Lib.hid (H1.out.below hbel)
  have HSB : Hid (SB w2 (fun k => k < w.heap.size) b (join { nd 4 with name := q } []) s') := Lib.hid (sb_node (cs := []) hB (by have := H1.out.only.size; omega) (LR.nil _ _ _))
  clear hbel hb hB
  go_wp2
  go_ret
  exact ⟨b, _, s', rfl, HL.out, H2.out.ps, H2.out.only, HSB.out, HLE.out⟩

end Go.Proofs.YtemlceicmpcboaaGreatDoor.Pa
namespace Go.Proofs.YtemlceicmpcboaaGreatDoor.Pa
open Go.RowKit Dk Lx Tr

/-- How much is left: a failure leaves less than any token. -/
def mu (L : List Tk) : St → Nat
  | .ok i => L.length - i + 1
  | .bad _ => 0
theorem mu_le {L : List Tk} {s s' : St} (ha : Aft s s') (h : nx L s ≤ nx L s') : mu L s' ≤ mu L s := by
  cases s' with
  | bad k => exact Nat.zero_le _
  | ok j =>
    obtain ⟨i, rfl⟩ := ha j rfl
    show L.length - j + 1 ≤ L.length - i + 1
    have : i ≤ j := h
    omega

/-- What list's call leaves. -/
structure LsOk (L : List Tk) (g : Nat) (vt : Value) (p : Bool) (s : St) (w : World) (e : Ending) (w' : World) (v : Value) (cs : List (Nat × List Nd)) (s' : St) : Prop where
  ret : e = .returned v
  on : On L g vt w w' s'
  lr : LR w w' v cs s'
  tail : ∀ x m, Leads L [.lF p x m] [] (markS L [40] s) [.lC p x (m + cs.length)] (cs.map (·.2)) s'
  far : nx L (markS L [40] s) ≤ nx L s'
  few : cs.length ≤ nx L s' + 1
  form : ∃ q c, v = .slice q cs.length c
  none : cs = [] → v = .slice none 0 0
theorem LsOk.leads {L : List Tk} {g : Nat} {vt : Value} {p : Bool} {s : St} {w : World} {e : Ending} {w' : World} {v : Value} {cs : List (Nat × List Nd)} {s' : St} (h : LsOk L g vt p s w e w' v cs s') : ∀ x m, Leads L [.mark [40], .lF p x m] [] s [.lC p x (m + cs.length)] (cs.map (·.2)) s' := fun x m => by
  have := (Leads.mark (L := L) [40] s).over [.lF p x m] []
  exact (show Leads L [.mark [40], .lF p x m] [] s [.lF p x m] [] (markS L [40] s) from this).trans (h.tail x m)
theorem LsOk.le {L : List Tk} {g : Nat} {vt : Value} {p : Bool} {s : St} {w : World} {e : Ending} {w' : World} {v : Value} {cs : List (Nat × List Nd)} {s' : St} (h : LsOk L g vt p s w e w' v cs s') (hs : nx L s ≤ L.length) : nx L s ≤ nx L s' := Nat.le_trans (mark_le [40] hs) h.far
def LsAny (L : List Tk) (g : Nat) (vt : Value) (p : Bool) (s : St) (w : World) (e : Ending) (w' : World) : Prop := ∃ v cs s', LsOk L g vt p s w e w' v cs s'

/-- A reader, of what is less. -/
def RdN (L : List Tk) (f : FuncId) (A : List Sy) (n : Nat) : Prop := ∀ s, mu L s < n → Rd L f A s

def elS (p : Bool) : Sy := if p then .par else .e 0

theorem lF_shut {L : List Tk} {p : Bool} {x : Nd} {m j : Nat} (us : List (List Nd)) (h : sg L j = [41]) : Leads L [.lF p x m] us (.ok j) [.lC p x m] us (.ok (j + 1)) := .yes (fun V => by
  show (if sg L j = [41] then _ else _) = _
  rw [if_pos h])
theorem lF_more {L : List Tk} {p : Bool} {x : Nd} {m : Nat} (us : List (List Nd)) {s : St} (h : sgS L s ≠ [41]) : Leads L [.lF p x m] us s [elS p, .lN p x (m + 1)] us s := by
  cases s with
  | bad k => exact rfl
  | ok j => exact .yes (fun V => by
      show (if sg L j = [41] then _ else some ([elS p, .lN p x (m + 1)], us.reverse ++ V, j)) = _
      exact if_neg h)
theorem lN_more {L : List Tk} {p : Bool} {x : Nd} {m j : Nat} (us : List (List Nd)) (h : sg L j = [44]) : Leads L [.lN p x m] us (.ok j) [elS p, .lN p x (m + 1)] us (.ok (j + 1)) := .yes (fun V => by
  show (if sg L j = [44] then some ([elS p, .lN p x (m + 1)], us.reverse ++ V, j + 1) else _) = _
  rw [if_pos h])
theorem lN_shut {L : List Tk} {p : Bool} {x : Nd} {m : Nat} (us : List (List Nd)) {s : St} (h : sgS L s ≠ [44]) : Leads L [.lN p x m] us s [.lC p x m] us (markS L [41] s) := by
  cases s with
  | bad k => exact rfl
  | ok j =>
    show Leads L [.lN p x m] us (.ok j) [.lC p x m] us (if sg L j = [41] then .ok (j + 1) else .bad j)
    by_cases hs : sg L j = [41]
    · rw [if_pos hs]
      exact .yes (fun V => by
        show (if sg L j = [44] then some ([elS p, .lN p x (m + 1)], us.reverse ++ V, j + 1) else if sg L j = [41] then some ([Sy.lC p x m], us.reverse ++ V, j + 1) else none) = _
        exact (if_neg h).trans (if_pos hs))
    · rw [if_neg hs]
      exact .no (fun V => by
        show (if sg L j = [44] then some ([elS p, .lN p x (m + 1)], us.reverse ++ V, j + 1) else if sg L j = [41] then some ([Sy.lC p x m], us.reverse ++ V, j + 1) else none) = _
        exact (if_neg h).trans (if_neg hs))

theorem ptr_info3 : (Tryz.prog.info? 76).map (fun i => (i.zero, i.size, i.bytes)) = some (some (.pointer none), 1, 8) := by kernel_rfl

/-- A function that is entered. -/
def Enters (f : FuncId) : Prop := ∀ (a : Array Value) (W : World), (callFunc f a).run Tryz.prog W = .ok (.enter f a) W

set_option maxHeartbeats 4000000 in
set_option maxRecDepth 100000 in
theorem list_any (L : List Tk) (F : FuncId) (hF : Enters F) (p : Bool) (n : Nat) (hE : RdN L F [elS p] n) (s : St) (hs : mu L (markS L [40] s) < n) (g : Nat) (vt : Value) (w : World) (h : PS L g vt w s) :
    Calls Tryz.prog 130 #[ptr g, .func (.func F) #[ptr g] #[]] w (LsAny L g vt p s w) := by
  have HE := Lib.hid hE
  have hcall := hF #[ptr g]
  have X1 := Lib.hid (expect_any [40] h (by decide))
  generalize hs1 : markS L [40] s = s1 at *
  have HL1 : Hid (∀ x m, Leads L [.lF p x m] [] s1 [.lF p x m] [] s1) := Lib.hid (fun x m => Leads.refl _ _ _)
  have HLE1 := Lib.hid (Nat.le_refl (nx L s1))
  have H0 := Lib.hid (On.start h)
  have HS1 := Lib.hid hs1
  have HLT := Lib.hid h.lt
  clear h hE hs1 hF
  go_enter Tryz.func130, Tryz.ntmps130
  go_wp2_with fail
  refine X1.out.mono ?_
  rintro e w1 ⟨rfl, hp, ho⟩
  have H1 := Lib.hid (H0.out.call hp ho)
  clear hp ho
  by_cases hq : sgS L s1 = [41]
  · obtain ⟨j, rfl⟩ : ∃ j, s1 = .ok j := by
      cases s1 with
      | ok j => exact ⟨j, rfl⟩
      | bad k => rw [sgS_bad] at hq; cases hq
    have A := Lib.hid (accept_yes [41] H1.out.ps (by decide) hq)
    have HL2 : Hid (∀ x m, Leads L [.lF p x m] [] (.ok j) [.lC p x m] [] (.ok (j + 1))) := Lib.hid (fun x m => (HL1.out x m).trans (lF_shut [] hq))
    clear hq HL1
    go_wp2_with fail
    refine A.out.mono ?_
    rintro e w2 ⟨rfl, hp, ho⟩
    have H2 := Lib.hid (H1.out.call hp ho)
    clear hp ho
    go_wp2
    go_ret
    exact ⟨_, [], .ok (j + 1), rfl, H2.out, LR.nil _ _ _, by rw [HS1.out]; exact HL2.out, by rw [HS1.out]; exact Nat.le_trans HLE1.out (Nat.le_succ _), Nat.zero_le _, ⟨_, _, rfl⟩, fun _ => rfl⟩
  · have A := Lib.hid (accept_no [41] H1.out.ps hq)
    have E1 := Lib.hid (HE.out s1 hs)
    have HL2 : Hid (∀ x m, Leads L [.lF p x m] [] s1 [elS p, .lN p x (m + 1)] [] s1) := Lib.hid (fun x m => (HL1.out x m).trans (lF_more [] hq))
    have HQ := Lib.hid hs
    clear hq HL1 hs
    go_wp2_with fail
    refine A.out.mono ?_
    rintro e w2 ⟨rfl, hb⟩
    have H2 := Lib.hid (H1.out.below hb)
    clear hb
    go_wp2_with fail
    refine (E1.out g vt w2 H2.out.ps).mono ?_
    rintro e w3 ⟨b, t, s2, hk⟩
    obtain ⟨rfl, hl, hps, honly, hbr, hle⟩ := hk
    have H3 := Lib.hid (H2.out.call hps honly)
    have HL3 : Hid (∀ x m, Leads L [.lF p x m] [] s1 [.lN p x (m + ([(b, t)] : List (Nat × List Nd)).length)] ([(b, t)].map (·.2)) s2) := Lib.hid (fun x m => (HL2.out x m).trans (by
      have := hl.over [.lN p x (m + 1)] []
      exact this))
    have HLE3 := Lib.hid (Nat.le_trans HLE1.out hle)
    have HR3 := Lib.hid (LR.one (w := w) (SB.weaken hbr (fun i _ hi => by have := H2.out.only.size; omega)) H3.out.only.size)
    have HM3 := Lib.hid (Nat.lt_of_le_of_lt (mu_le hl.aft hle) HQ.out)
    clear hl hps honly hbr hle HL2 HQ E1 A HLE1
    have H4 := Lib.hid (H3.out.alloc (.cells #[ptr b] 76))
    obtain ⟨i0, hi0, hy0, hy1, hy2⟩ := info_parts ptr_info3
    have HFEW := Lib.hid H3.out.ps.few
    go_wp2
    go_loopg [5] (L.length - nx L s2) (fun k vl wr => ∃ (cs : List (Nat × List Nd)) (s2 : St) (q : Option Addr) (m c : Nat), vl = .slice q m c ∧ Hid (m = cs.length) ∧ Hid (LR w wr (.slice q m c) cs s2) ∧ Hid (On L g vt w wr s2) ∧ Hid (∀ x m, Leads L [.lF p x m] [] s1 [.lN p x (m + cs.length)] (cs.map (·.2)) s2) ∧ Hid (nx L s1 ≤ nx L s2) ∧ Hid (mu L s2 < n) ∧ Hid (cs.length ≤ nx L s2 + 1) ∧ Hid (k = L.length - nx L s2) ∧ Hid (cs ≠ []))
    case atStart => exact ⟨_, s2, _, 1, 1, rfl, Lib.hid rfl, HR3, H4, HL3, HLE3, HM3, Lib.hid (by simp), Lib.hid rfl, Lib.hid (by simp)⟩
    case round =>
      clear HR3 H4 HL3 HLE3 HM3 H3
      obtain ⟨cs, s3, q, m, c, rfl, HM, HR, HO, HL, HLE, HMU, HC, HK, HNE⟩ := hrel
      by_cases hq : sgS L s3 = [44]
      · obtain ⟨j, rfl⟩ : ∃ j, s3 = .ok j := by
          cases s3 with
          | ok j => exact ⟨j, rfl⟩
          | bad k => rw [sgS_bad] at hq; cases hq
        have hjl : j < L.length := sg_lt (by rw [show sg L j = [44] from hq]; simp)
        have A := Lib.hid (accept_yes [44] HO.out.ps (by decide) hq)
        have HL2 : Hid (∀ x m, Leads L [.lF p x m] [] s1 [elS p, .lN p x (m + cs.length + 1)] (cs.map (·.2)) (.ok (j + 1))) := Lib.hid (fun x m => (HL.out x m).trans (lN_more _ hq))
        have hmu : mu L (.ok (j + 1)) < n := Nat.lt_of_le_of_lt (show L.length - (j + 1) + 1 ≤ L.length - j + 1 by omega) HMU.out
        have E2 := Lib.hid (HE.out (.ok (j + 1)) hmu)
        have HLE4 : Hid (nx L s1 ≤ j + 1) := Lib.hid (Nat.le_trans HLE.out (Nat.le_succ _))
        have HQ2 := Lib.hid hmu
        have HJ := Lib.hid hjl
        clear hq HL hmu hjl HLE
        go_wp2_with fail
        refine A.out.mono ?_
        rintro e v2 ⟨rfl, hp, ho⟩
        have O2 := Lib.hid (HO.out.call hp ho)
        have R2 : Hid (LR w v2 (.slice q m c) cs (.ok (j + 1))) := Lib.hid ((HR.out.only ho HLT.out).aft (fun _ _ => ⟨j, rfl⟩))
        clear hp ho HO HR A
        go_wp2_with fail
        refine (E2.out g vt v2 O2.out.ps).mono ?_
        rintro e v3 ⟨b', t', s4, hk⟩
        obtain ⟨rfl, hl, hps, honly, hbr, hle⟩ := hk
        have O3 := Lib.hid (O2.out.call hps honly)
        have R3 := Lib.hid ((R2.out.only honly HLT.out).aft hl.aft)
        have HL4 : Hid (∀ x m, Leads L [.lF p x m] [] s1 [.lN p x (m + (cs ++ [(b', t')]).length)] ((cs ++ [(b', t')]).map (·.2)) s4) := Lib.hid (fun x m => (HL2.out x m).trans (by
          have := hl.over [.lN p x (m + cs.length + 1)] (cs.map (·.2))
          rw [List.append_nil] at this
          rw [List.length_append, List.map_append, ← Nat.add_assoc]
          exact this))
        have HMU4 := Lib.hid (Nat.lt_of_le_of_lt (mu_le hl.aft hle) HQ2.out)
        have HLE5 : Hid (nx L s1 ≤ nx L s4 ∧ j + 1 ≤ nx L s4) := Lib.hid ⟨Nat.le_trans HLE4.out hle, hle⟩
        have HSB : Hid (SB v3 (fun k => k < w.heap.size ∨ (Value.slice q m c).ownBlock = some k) b' t' s4) := Lib.hid (SB.weaken hbr (fun i _ hi => by
          rcases hi with hi | hi
          · have := O2.out.only.size; omega
          · exact (Tr.own_lo R2.out.row i hi).2))
        have N1 := Lib.hid (news_at v3 #[ptr b'] 76)
        have hm1 : m ≤ 1000002 := by have := HM.out; have := HC.out; have := HFEW.out; have := HJ.out; have : nx L (.ok j) = j := rfl; omega
        have HSZ := Lib.hid O3.out.only.size
        clear hl hps honly hbr hle HL2 E2 R2 O2 HLE4 HQ2
        go_wp2_with (refine wpList_append_lies _ rfl (.tmp 15) (.tmp 18) 116 rfl w.heap.size 76 i0 (.pointer none) 1 8 Tryz.underlying116 hi0 hy0 hy1 hy2 rfl (by decide) _ m (bp (cs.map (·.1))) rfl (by have := R3.out.row.alloc (.cells #[ptr b'] 76); rw [← HM.out] at this; exact this) ⟨v3.heap.size, 0, none⟩ 1 1 [ptr b'] rfl rfl N1.out (by simp [Value.oneCell']) (by decide) (by unfold maxLen; omega) (by omega) (by have := HSZ.out; simp; omega) (v3.heap.size + 1) (by simp) ?_; intro g' cap v7 hrow hgr hgl hlt7; have HP := Lib.hid (R3.out.push HM.out HSB.out HSZ.out hrow hgr hgl); clear hrow hgr hgl hlt7)
        have O7 := Lib.hid (O3.out.own HP.out.2 (fun i hi => (Tr.own_lo R3.out.row i hi).1))
        go_roundg (L.length - nx L s4)
        case rel => exact ⟨_, s4, _, _, _, rfl, Lib.hid (by rw [List.length_append, ← HM.out]; rfl), Lib.hid HP.out.1, O7, HL4, Lib.hid HLE5.out.1, HMU4, Lib.hid (by have := HC.out; have := HLE5.out.2; have e : nx L (.ok j) = j := rfl; rw [List.length_append]; simp; omega), Lib.hid rfl, Lib.hid (by simp)⟩
        case measure => have := HK.out; have := HLE5.out.2; have := HJ.out; have e : nx L (.ok j) = j := rfl; omega
      · have A := Lib.hid (accept_no [44] HO.out.ps hq)
        have HL2 : Hid (∀ x m, Leads L [.lF p x m] [] s1 [.lC p x (m + cs.length)] (cs.map (·.2)) (markS L [41] s3)) := Lib.hid (fun x m => (HL.out x m).trans (lN_shut _ hq))
        have X2 := Lib.hid (fun W (hp : PS L g vt W s3) => expect_any [41] hp (by decide))
        have HLE4 := Lib.hid (Nat.le_trans HLE.out (mark_le [41] HO.out.ps.le))
        have HAF : Hid (Aft s3 (markS L [41] s3)) := Lib.hid (Leads.mark (L := L) [41] s3).aft
        have HC4 := Lib.hid (Nat.le_trans HC.out (Nat.succ_le_succ (mark_le [41] HO.out.ps.le)))
        generalize markS L [41] s3 = s5 at *
        clear hq HL
        go_wp2_with fail
        refine A.out.mono ?_
        rintro e v2 ⟨rfl, hb⟩
        have O2 := Lib.hid (HO.out.below hb)
        have R2 := Lib.hid (HR.out.below hb)
        clear hb A
        go_wp2_with fail
        refine (X2.out _ O2.out.ps).mono ?_
        rintro e v3 ⟨rfl, hp, ho⟩
        have O3 := Lib.hid (O2.out.call hp ho)
        have R3 := Lib.hid ((R2.out.only ho HLT.out).aft HAF.out)
        clear hp ho
        go_wp2
        go_ret
        exact ⟨_, cs, s5, rfl, O3.out, R3.out, by rw [HS1.out]; exact HL2.out, by rw [HS1.out]; exact HLE4.out, HC4.out, ⟨q, c, by rw [HM.out]; rfl⟩, fun h => absurd h HNE.out⟩

end Go.Proofs.YtemlceicmpcboaaGreatDoor.Pa
namespace Go.Proofs.YtemlceicmpcboaaGreatDoor.Pa
open Go.RowKit Dk Lx Tr

def strs (l : List (List UInt8)) : List Value := l.map fun x => .string (strOf x)
/-- What an index of a text in a row is: none is less than 0. -/
def IdxOk (l : List (List UInt8)) (q : List UInt8) (w : World) (e : Ending) (w' : World) : Prop := ∃ k : Int, e = .returned (.int .i64 k) ∧ (decide (0 ≤ k) = decide (q ∈ l)) ∧ w = w'

set_option maxHeartbeats 1000000 in
set_option maxRecDepth 100000 in
theorem index_any (l : List (List UInt8)) (q : List UInt8) (r n c : Nat) (w : World) (hn : n = l.length) (hl : n ≤ 100) (hr : w.rangeAt r 0 (strs l)) :
    Calls Tryz.prog 258 #[.slice (some ⟨r, 0, none⟩) n c, .string (strOf q)] w (IdxOk l q w) := by
  have HN := Lib.hid hn
  have HR := Lib.hid hr
  clear hn hr
  go_enter Tryz.func258, Tryz.ntmps258
  go_wp2
  go_loopw [8] (fun vi wr => ∃ i : Nat, i ≤ n ∧ vi = .int .i64 (i : Int) ∧ wr = w ∧ Hid (∀ j (h : j < l.length), j < i → l[j] ≠ q)) (fun vi _ => n - (intOf vi).toNat)
  case atStart => exact ⟨0, Nat.zero_le _, rfl, rfl, Lib.hid (fun j _ hj => absurd hj (Nat.not_lt_zero j))⟩
  case round =>
    obtain ⟨i, hi, rfl, rfl, hA⟩ := hrel
    by_cases hlt : i < n
    · have hil : i < l.length := by rw [← HN.out]; exact hlt
      have z0 : (0 : Int) ≤ (i : Int) := by omega
      have z1 : (i : Int) < (n : Int) := by omega
      have c0 : wr.cell? ⟨r, i, none⟩ = some (.string (strOf l[i])) := by
        have := HR.out i (.string (strOf l[i])) (by simp [strs, hil])
        rwa [Nat.zero_add] at this
      have HS : Hid (((strOf q).toList == (strOf l[i]).toList) = decide (q = l[i])) := Lib.hid (str_beq _ _)
      have HI : Hid (l[i] = q → q ∈ l) := Lib.hid (fun h => h ▸ List.getElem_mem hil)
      have HA2 : Hid (l[i] ≠ q → ∀ j (h : j < l.length), j < i + 1 → l[j] ≠ q) := Lib.hid (fun h j hj hji => by
        by_cases e : j = i
        · subst e; exact h
        · exact hA.out j hj (by omega))
      generalize l[i] = x at *
      clear hA hil
      by_cases hx : x = q
      · have z2 := HS.out.trans (decide_eq_true hx.symm)
        have HM := Lib.hid (HI.out hx)
        generalize strOf q = qq at *
        generalize strOf x = xx at *
        clear hx HI HS HA2
        go_wp2
        go_ret
        exact ⟨_, rfl, by rw [decide_eq_true z0, decide_eq_true HM.out], rfl⟩
      · have z2 := HS.out.trans (decide_eq_false (Ne.symm hx))
        have HA3 := Lib.hid (HA2.out hx)
        generalize strOf q = qq at *
        generalize strOf x = xx at *
        clear hx HI HS HA2
        go_wp2
        go_roundw
        case rel => exact ⟨i + 1, by omega, by go_num, trivial, HA3⟩
        case measure => simp [intOf]; omega
    · obtain rfl : i = n := by omega
      have HM : Hid (q ∉ l) := Lib.hid (fun h => by
        obtain ⟨j, hj, e⟩ := List.getElem_of_mem h
        exact hA.out j hj (by rw [HN.out]; exact hj) e)
      clear hA
      go_wp2
      go_ret
      exact ⟨_, rfl, by rw [decide_eq_false HM.out]; rfl, rfl⟩

set_option maxHeartbeats 1000000 in
set_option maxRecDepth 100000 in
theorem contains_any (l : List (List UInt8)) (q : List UInt8) (r n c : Nat) (w : World) (hn : n = l.length) (hl : n ≤ 100) (hr : w.rangeAt r 0 (strs l)) :
    Calls Tryz.prog 248 #[.slice (some ⟨r, 0, none⟩) n c, .string (strOf q)] w fun e w' => e = .returned (.bool (decide (q ∈ l))) ∧ w = w' := by
  have I := Lib.hid (index_any l q r n c w hn hl hr)
  clear hn hl hr
  go_enter Tryz.func248, Tryz.ntmps248
  go_wp2_with fail
  refine I.out.mono ?_
  rintro e w1 ⟨k, rfl, hk, rfl⟩
  have HK := Lib.hid hk
  clear hk I
  go_wp2
  go_ret
  rw [← HK.out]
  exact ⟨rfl, rfl⟩

end Go.Proofs.YtemlceicmpcboaaGreatDoor.Pa
namespace Go.Proofs.YtemlceicmpcboaaGreatDoor.Pa
open Go.RowKit Dk Lx Tr

theorem e_down {L : List Tk} {k : Nat} (hk : k < 5) (s : St) : Leads L [.e k] [] s [.e (k + 1), .row k] [] s := by
  cases s with
  | bad j => exact rfl
  | ok j => exact .yes (fun V => if_pos hk)
theorem row_end {L : List Tk} {k : Nat} (us : List (List Nd)) {s : St} (h : sgS L s ∉ level k) : Leads L [.row k] us s [] us s := by
  cases s with
  | bad j => exact rfl
  | ok j => exact .yes (fun V => if_neg h)
theorem row_more {L : List Tk} {k j : Nat} (us : List (List Nd)) (h : sg L j ∈ level k) : Leads L [.row k] us (.ok j) (.e (k + 1) :: .mk { nd 27 with text := sg L j } 2 :: (if k = 2 then [] else [.row k])) us (.ok (j + 1)) := .yes (fun _V => if_pos h)

theorem SB.aft {W : World} {X : Nat → Prop} {b : Nat} {t : List Nd} {s s' : St} (h : SB W X b t s) (ha : Aft s s') : SB W X b t s' := by
  cases s' with
  | ok j => obtain ⟨i, rfl⟩ := ha j rfl; exact h
  | bad k =>
    cases s with
    | ok i => exact SB.bad h
    | bad j => exact h
theorem SB.call {w W W' : World} {g b : Nat} {t : List Nd} {s : St} (h : SB W (fun k => k < w.heap.size) b t s) (ho : Only (fun k => k = g) W W') (hg : g < w.heap.size) : SB W' (fun k => k < w.heap.size) b t s :=
  SB.only h ho (fun i _ hi => by omega)
theorem SB.below {W W' : World} {X : Nat → Prop} {b : Nat} {t : List Nd} {s : St} (h : SB W X b t s) (hb : Below W.heap.size W W') : SB W' X b t s :=
  SB.only h (Only.of_below (F := fun _ => False) hb) (fun _ _ h => h.elim)

/-- A row as it is made of what was read. -/
theorem LR.lit {w W : World} {cs : List (Nat × List Nd)} {s : St} {m : Nat} {vs : Array Value} (h : Kids W (fun k => k < w.heap.size) cs s) (hw : w.heap.size ≤ W.heap.size) (hm : m = cs.length) (hv : vs = (bp (cs.map (·.1))).toArray) (hl : m ≤ 1000000) :
    LR w (W.alloc (.cells vs 76)) (.slice (some ⟨W.heap.size, 0, none⟩) m m) cs s := by
  subst hm hv
  refine ⟨?_, ?_⟩
  · have := World.ownsRow_lit (base := w.heap.size) (e := 76) (size := 1) W (bp (cs.map (·.1))).toArray cs.length hw (by unfold maxLen; omega) (by simp [bp])
    simpa using this
  · have h2 := Kids.weaken (Y := fun k => k < w.heap.size ∨ W.heap.size ≤ k) h (fun i hi hx => hx.elim id (fun h => absurd h (by omega)))
    refine Kids.weaken (Kids.only h2 (Only.of_below (F := fun _ => False) ((Below.refl _ _).alloc (Nat.le_refl _) _)) (fun _ _ h => h.elim)) (fun i _ hi => ?_)
    rcases hi with hi | hi
    · exact .inl hi
    · have e : W.heap.size = i := by simpa [Value.ownBlock] using hi
      exact .inr (by omega)

/-- The texts of a level, where they lie. -/
structure Ops (W : World) (g : Nat) (v : Value) (k : Nat) : Prop where
  ex : ∃ r m, v = .slice (some ⟨r, 0, none⟩) m m ∧ m = (level k).length ∧ r < W.heap.size ∧ r ≠ g ∧ W.rangeAt r 0 (strs (level k))
theorem level_len (k : Nat) : (level k).length ≤ 100 := by
  unfold level
  split <;> decide
theorem level_ne (k : Nat) : [] ∉ level k := by
  unfold level
  split <;> decide

set_option maxHeartbeats 4000000 in
set_option maxRecDepth 100000 in
theorem row_any (L : List Tk) (F : FuncId) (hF : Enters F) (k n : Nat) (hk : k < 5) (hk2 : k ≠ 2) (hE : RdN L F [.e (k + 1)] n) (s : St) (hs : mu L s < n) (g : Nat) (vt vo : Value) (w : World) (h : PS L g vt w s) (hv : Ops w g vo k) :
    Calls Tryz.prog 229 #[ptr g, .func (.func F) #[ptr g] #[], vo] w fun e w' => ∃ b t s', RdOk L g vt [.e k] s w e w' b t s' := by
  have HE := Lib.hid hE
  have hcall := hF #[ptr g]
  obtain ⟨r, m, rfl, hm, hr, hrg, hro⟩ := hv.ex
  have HO := Lib.hid hro
  have HM := Lib.hid hm
  have HR := Lib.hid (And.intro hr hrg)
  have CT : Hid (∀ (q : List UInt8) (W : World), Only (fun k => k = g) w W → Calls Tryz.prog 248 #[.slice (some ⟨r, 0, none⟩) m m, .string (strOf q)] W fun e w' => e = .returned (.bool (decide (q ∈ level k))) ∧ W = w') :=
    Lib.hid (fun q W ho => contains_any (level k) q r m m W HM.out (by rw [HM.out]; exact level_len k) (rangeAt_block HO.out (ho.block r HR.out.1 HR.out.2)))
  have H0 := Lib.hid (On.start h)
  have HLT := Lib.hid h.lt
  have HD : Hid (Leads L [.e k] [] s [.e (k + 1), .row k] [] s) := Lib.hid (e_down hk s)
  have HK2 := Lib.hid hk2
  have E1 := Lib.hid (HE.out s hs)
  have HMU := Lib.hid hs
  clear hE hF hv hm hr hrg hro h hk hk2 hs
  go_enter Tryz.func229, Tryz.ntmps229
  go_wp2_with fail
  refine (E1.out g vt w H0.out.ps).mono ?_
  rintro e w1 ⟨b, t, s1, hk⟩
  obtain ⟨rfl, hl, hps, honly, hbr, hle⟩ := hk
  have H1 := Lib.hid (H0.out.call hps honly)
  have HL1 : Hid (Leads L [.e k] [] s [.row k] [t] s1) := Lib.hid (HD.out.trans (by
    have := hl.over [.row k] []
    exact this))
  have HB1 := Lib.hid hbr
  have HLE1 := Lib.hid hle
  have HM1 := Lib.hid (Nat.lt_of_le_of_lt (mu_le hl.aft hle) HMU.out)
  clear hl hps honly hbr hle HD E1 HMU
  go_wp2
  go_loopg [7] (L.length - nx L s1) (fun q vl wr => ∃ (b : Nat) (t : List Nd) (s1 : St), vl = ptr b ∧ Hid (SB wr (fun k => k < w.heap.size) b t s1) ∧ Hid (On L g vt w wr s1) ∧ Hid (Leads L [.e k] [] s [.row k] [t] s1) ∧ Hid (nx L s ≤ nx L s1) ∧ Hid (mu L s1 < n) ∧ Hid (q = L.length - nx L s1))
  case atStart => exact ⟨b, t, s1, rfl, HB1, H1, HL1, HLE1, HM1, Lib.hid rfl⟩
  case round =>
    clear HB1 H1 HL1 HLE1 HM1
    obtain ⟨b, t, s2, rfl, HB, HON, HL, HLE, HMU, HK⟩ := hrel
    have SG := Lib.hid (sign_any HON.out.ps)
    have C1 := Lib.hid (fun W ho => CT.out (sgS L s2) W ho)
    by_cases hq : sgS L s2 ∈ level k
    · obtain ⟨j, rfl⟩ : ∃ j, s2 = .ok j := by
        cases s2 with
        | ok j => exact ⟨j, rfl⟩
        | bad k => rw [sgS_bad] at hq; exact absurd hq (level_ne _)
      have hjl : j < L.length := sg_lt (by intro e; rw [show sgS L (.ok j) = sg L j from rfl, e] at hq; exact level_ne _ hq)
      rw [decide_eq_true hq] at C1
      have HL2 : Hid (Leads L [.e k] [] s [.e (k + 1), .mk { nd 27 with text := sg L j } 2, .row k] [t] (.ok (j + 1))) := Lib.hid (HL.out.trans (by
        have := row_more (k := k) [t] hq
        rwa [if_neg HK2.out] at this))
      have hmu : mu L (.ok (j + 1)) < n := Nat.lt_of_le_of_lt (show L.length - (j + 1) + 1 ≤ L.length - j + 1 by omega) HMU.out
      have E2 := Lib.hid (HE.out (.ok (j + 1)) hmu)
      have HLE4 : Hid (nx L s ≤ j + 1) := Lib.hid (Nat.le_trans HLE.out (Nat.le_succ _))
      have HQ2 := Lib.hid hmu
      have HJ := Lib.hid hjl
      rw [show sgS L (.ok j) = sg L j from rfl] at SG C1
      generalize sg L j = op at *
      have z9 : (j : Int) ≤ 1000000 := by have := HON.out.ps.few; omega
      clear hq HL hmu hjl HLE
      go_wp2_with fail
      refine SG.out.mono ?_
      rintro e v1 ⟨rfl, hb⟩
      have O1 := Lib.hid (HON.out.below hb)
      have B1 := Lib.hid (HB.out.below hb)
      clear hb
      go_wp2_with fail
      refine (C1.out v1 O1.out.only).mono ?_
      rintro e v2 ⟨rfl, rfl⟩
      obtain ⟨-, c1, -, -⟩ := O1.out.ps.at
      obtain ⟨f1, -, -⟩ := O1.out.ps.free
      rw [show nx L (.ok j) = j from rfl] at c1
      have O2 := Lib.hid (O1.out.call (O1.out.ps.next HJ.out) (Only.of_setCell _))
      have B2 := Lib.hid ((B1.out.call (Only.of_setCell (g := g) (j := 1) (.int .i64 ((j : Int) + 1))) HLT.out).aft (s' := .ok (j + 1)) (fun _ _ => ⟨j, rfl⟩))
      go_wp2_with fail
      generalize World.setCell _ _ _ = v3 at O2 B2 ⊢
      clear c1 f1
      refine (E2.out g vt v3 O2.out.ps).mono ?_
      rintro e v4 ⟨b', t', s4, hk⟩
      obtain ⟨rfl, hl, hps, honly, hbr, hle⟩ := hk
      have O4 := Lib.hid (O2.out.call hps honly)
      have B4 := Lib.hid ((B2.out.call honly HLT.out).aft hl.aft)
      have B4' : Hid (SB v4 (fun k => k < w.heap.size) b' t' s4) := Lib.hid (SB.weaken hbr (fun i _ hi => by have := O2.out.only.size; omega))
      have HL4 : Hid (Leads L [.e k] [] s [.row k] [join { nd 27 with text := op } [t, t']] s4) := Lib.hid ((HL2.out.trans (by
        have := hl.over [.mk { nd 27 with text := op } 2, .row k] [t]
        rw [List.append_nil] at this
        exact this)).trans (by
        have := (Leads.mk (L := L) { nd 27 with text := op } [t, t'] 2 rfl s4).over [.row k] []
        exact this))
      have HMU4 := Lib.hid (Nat.lt_of_le_of_lt (mu_le hl.aft hle) HQ2.out)
      have HLE5 : Hid (nx L s ≤ nx L s4 ∧ j + 1 ≤ nx L s4) := Lib.hid ⟨Nat.le_trans HLE4.out hle, hle⟩
      have R4 : Hid (LR w (v4.alloc (.cells #[ptr b, ptr b'] 76)) (.slice (some ⟨v4.heap.size, 0, none⟩) 2 2) [(b, t), (b', t')] s4) := Lib.hid (LR.lit (Kids.add (Kids.add (Kids.nil _ _ _) B4.out) B4'.out) O4.out.only.size rfl rfl (by decide))
      have O5 := Lib.hid (O4.out.alloc (.cells #[ptr b, ptr b'] 76))
      have G := Lib.hid (fun W => grow_any ⟨27, 0, [], 0, op⟩ (some ⟨v4.heap.size, 0, none⟩) 2 2 W)
      clear hl hps honly hbr hle HL2 E2 HLE4 HQ2
      go_wp2_with fail
      refine (G.out _).mono ?_
      rintro e v6 ⟨b6, rfl, hb, hB, hbel⟩
      have O6 := Lib.hid (O5.out.below hbel)
      have HSB : Hid (SB v6 (fun k => k < w.heap.size) b6 (join { nd 27 with text := op } [t, t']) s4) := Lib.hid (sb_node (cs := [(b, t), (b', t')]) hB (by have := O5.out.only.size; omega) (R4.out.below hbel))
      clear hbel hb hB G
      go_wp2
      go_roundg (L.length - nx L s4)
      case rel => exact ⟨b6, _, s4, rfl, HSB, O6, HL4, Lib.hid HLE5.out.1, HMU4, Lib.hid rfl⟩
      case measure => have := HK.out; have := HLE5.out.2; have := HJ.out; have e : nx L (.ok j) = j := rfl; omega
    · rw [decide_eq_false hq] at C1
      have HL2 := Lib.hid (HL.out.trans (row_end [t] hq))
      generalize sgS L s2 = op at *
      clear hq
      go_wp2_with fail
      refine SG.out.mono ?_
      rintro e v1 ⟨rfl, hb⟩
      have O1 := Lib.hid (HON.out.below hb)
      have B1 := Lib.hid (HB.out.below hb)
      clear hb
      go_wp2_with fail
      refine (C1.out v1 O1.out.only).mono ?_
      rintro e v2 ⟨rfl, rfl⟩
      go_wp2
      go_ret
      exact ⟨b, t, s2, rfl, HL2.out, O1.out.ps, O1.out.only, B1.out, HLE.out⟩

end Go.Proofs.YtemlceicmpcboaaGreatDoor.Pa
namespace Go.Proofs.YtemlceicmpcboaaGreatDoor.Pa
open Go.RowKit Go.Shelf Dk Lx Tr

attribute [local go_sem] Oper.semAt_some

/-- What has come when k rounds are over. -/
def upto {α : Type} (f : Nat → α) (k : Nat) : List α := (List.range k).map f
theorem upto_succ {α : Type} (f : Nat → α) (k : Nat) : upto f (k + 1) = upto f k ++ [f k] := by simp [upto, List.range_succ]
theorem upto_length {α : Type} (f : Nat → α) (k : Nat) : (upto f k).length = k := by simp [upto]
/-- The last one, the one ahead of it, .. -/
def back (ps : List Nat) (j : Nat) : Nat × Nat := (ps.length - 1 - j, ps.getD (ps.length - 1 - j) 0)
def encB (x : Nat × Nat) : Array Value := #[.int .i64 (x.1 : Int), ptr x.2]
/-- What a round keeps: these blocks. -/
def KeepZ (Z : Nat → Prop) (A B : World) : Prop := ∀ k, Z k → B.heap[k]? = A.heap[k]?
theorem KeepZ.trans {Z : Nat → Prop} {A B C : World} (h : KeepZ Z A B) (k : KeepZ Z B C) : KeepZ Z A C := fun i hi => (k i hi).trans (h i hi)

set_option maxRecDepth 100000 in
set_option maxHeartbeats 2000000 in
theorem back1_in (F : Fence) (n : Nat) (hf : F.fn 133) (hro : F.round = none) (hn : 1 ≤ n) (l Bs b off len cap : Nat) (ps : List Nat) (hps : len = ps.length) (hlen : len ≤ 2000000) (Z : Nat → Prop) (hZB : Z Bs) (hZb : Z b) (J Jx : List (Nat × Nat) → World → Prop)
    (hY : ∀ pre x W, J pre W → pre.length < len → YieldAt F (n - 1) Tryz.prog l (encB x) W fun e W' =>
      (e = .returned (.bool true) ∧ J (pre ++ [x]) W' ∧ KeepZ Z W W') ∨ (e = .returned (.bool false) ∧ Jx (pre ++ [x]) W'))
    (W : World) (hBs : W.cell? ⟨Bs, 0, none⟩ = some (.slice (some ⟨b, off, none⟩) len cap)) (hc : ∀ j, j < len → W.cell? ⟨b, off + j, none⟩ = some (ptr (ps.getD j 0))) (h0 : J [] W) :
    CallsIn F n Tryz.prog 133 #[.func (.yield l) #[] #[], .pointer (some ⟨Bs, 0, none⟩)] W fun e W' => (∃ v, e = .returned v) ∧
      ((∃ ys, ys = upto (back ps) len ∧ J ys W') ∨ (∃ pre, (∃ k, k ≤ len ∧ pre = upto (back ps) k) ∧ Jx pre W')) := by
  have HPS := Lib.hid hps
  have HC := Lib.hid hc
  have HY := Lib.hid hY
  clear hps hc hY
  refine callsIn_of_wp Tryz.func133 rfl hf ?_ hro
  simp only [Tryz.ntmps133, List.size_toArray, List.length_cons, List.length_nil, Nat.reduceAdd, Nat.reduceSub, Array.replicate_succ, Array.replicate_zero, List.push_toArray, List.append_toArray, List.nil_append, List.cons_append]
  gi_wp2
  gi_loopw [3] (fun i wr => ∃ k : Nat, k ≤ len ∧ i = .int .i64 ((len : Int) - 1 - (k : Int)) ∧ J (upto (back ps) k) wr ∧ KeepZ Z W wr)
    (fun i _ => (intOf i + 1).toNat)
  case atStart => exact ⟨0, Nat.zero_le _, by simp, h0, fun _ _ => rfl⟩
  case round =>
    obtain ⟨k, hk, rfl, hJs, hnx⟩ := hrel
    by_cases hlt : k < len
    · obtain ⟨m, hm⟩ : ∃ m : Nat, m = len - 1 - k := ⟨_, rfl⟩
      have em : (len : Int) - 1 - (k : Int) = (m : Int) := by omega
      have eb : back ps k = (m, ps.getD m 0) := by unfold back; rw [← HPS.out, ← hm]
      have hml : m < len := by omega
      have c0 : wr.cell? ⟨Bs, 0, none⟩ = some (.slice (some ⟨b, off, none⟩) len cap) := (World.cell?_of_block (a := ⟨Bs, 0, none⟩) (hnx Bs hZB)).trans hBs
      have c1 : wr.cell? ⟨b, off + m, none⟩ = some (ptr (ps.getD m 0)) := (World.cell?_of_block (a := ⟨b, off + m, none⟩) (hnx b hZb)).trans (HC.out m hml)
      obtain ⟨fn, tmps, assign, body, hy, hR⟩ := HY.out _ (m, ps.getD m 0) wr hJs (by rw [upto_length]; exact hlt)
      have HEB := Lib.hid eb
      have HEM := Lib.hid em
      have HM := Lib.hid hm
      generalize ps.getD m 0 = pb at *
      simp only [encB] at hy
      rw [em]
      have z0 : (m : Int) ≥ 0 := by omega
      have z0' : (0 : Int) ≤ (m : Int) := by omega
      have z1 : (m : Int) < (len : Int) := by omega
      clear em hm eb
      gi_wp2
      refine hR.mono ?_
      rintro e W3 (⟨rfl, hJ3, hk3⟩ | ⟨rfl, hJx3⟩)
      · gi_wp2
        go_roundw
        case rel => exact ⟨k + 1, by omega, by have := HEM.out; first | (simp; done) | (simp; omega), by rw [upto_succ, HEB.out]; exact hJ3, hnx.trans hk3⟩
        case measure => first | (simp [intOf]; done) | (simp [intOf]; omega)
      · gi_wp2
        refine bodyPost_ret (results_none rfl _ _ _) rfl ?_
        exact ⟨⟨_, rfl⟩, .inr ⟨_, ⟨k + 1, by omega, by rw [upto_succ, HEB.out]⟩, hJx3⟩⟩
    · obtain rfl : k = len := by omega
      have z0 : ¬((k : Int) - 1 - (k : Int) ≥ 0) := by omega
      gi_wp2
      go_end0
      exact ⟨⟨_, rfl⟩, .inl hJs⟩

set_option maxRecDepth 100000 in
set_option maxHeartbeats 1000000 in
/-- .. at a nil slice: no round. -/
theorem back1_nil_in (F : Fence) (n : Nat) (hf : F.fn 133) (hro : F.round = none) (l Bs : Nat) (q : Option Addr) (c : Nat) (J : List (Nat × Nat) → World → Prop) (W : World) (hBs : W.cell? ⟨Bs, 0, none⟩ = some (.slice q 0 c)) (h0 : J [] W) :
    CallsIn F n Tryz.prog 133 #[.func (.yield l) #[] #[], .pointer (some ⟨Bs, 0, none⟩)] W fun e W' => (∃ v, e = .returned v) ∧ J [] W' := by
  refine callsIn_of_wp Tryz.func133 rfl hf ?_ hro
  simp only [Tryz.ntmps133, List.size_toArray, List.length_cons, List.length_nil, Nat.reduceAdd, Nat.reduceSub, Array.replicate_succ, Array.replicate_zero, List.push_toArray, List.append_toArray, List.nil_append, List.cons_append]
  gi_wp2
  gi_loopw [3] (fun i wr => i = .int .i64 (-1) ∧ J [] wr) (fun _ _ => 0)
  case atStart => exact ⟨rfl, h0⟩
  case round =>
    obtain ⟨rfl, hJs⟩ := hrel
    gi_wp2
    go_end0
    exact ⟨⟨_, rfl⟩, hJs⟩

set_option maxRecDepth 100000 in
set_option maxHeartbeats 1000000 in
/-- **slices.Backward**: the slice is boxed; the function that is handed back captures the box. -/
theorem back_in (F : Fence) (n : Nat) (hf : F.fn 74) (hro : F.round = none) (a : Option Addr) (len cap : Nat) (w : World) :
    CallsIn F n Tryz.prog 74 #[.slice a len cap] w fun e w' => e = .returned (.func (.func 133) #[] #[.pointer (some ⟨w.heap.size, 0, none⟩)]) ∧ w' = w.alloc (.cells #[.slice a len cap] 116) := by
  refine callsIn_of_wp Tryz.func74 rfl hf ?_ hro
  simp only [Tryz.ntmps74, List.size_toArray, List.length_cons, List.length_nil, Nat.reduceAdd, Nat.reduceSub, Array.replicate_succ, Array.replicate_zero, List.push_toArray, List.append_toArray, List.nil_append, List.cons_append]
  gi_wp2
  go_ret
  exact ⟨rfl, rfl⟩

/-- A slice that holds pointers, in a block of Z. -/
def PtrZ (Z : Nat → Prop) (W : World) (sv : Value) (ps : List Nat) : Prop := ∃ q c, sv = .slice q ps.length c ∧ (ps = [] ∨ ∃ r o, q = some ⟨r, o, none⟩ ∧ Z r ∧ r < W.heap.size ∧ W.rangeAt r o (bp ps))

/-- It hands back all, the last one first. -/
theorem back_stops (F : Fence) (n : Nat) (hf : F.fn 133) (hro : F.round = none) (hn : 1 ≤ n) (Z : Nat → Prop) (Bs : Nat) (hZB : Z Bs) (sv : Value) (ps : List Nat) (hlen : ps.length ≤ 2000000) (w : World) (hBs : Bs < w.heap.size) (hc : w.cell? ⟨Bs, 0, none⟩ = some sv) (hI : PtrZ Z w sv ps) :
    SeqStopsK F n Tryz.prog 133 #[.pointer (some ⟨Bs, 0, none⟩)] encB (KeepZ Z) (fun ys => ys = upto (back ps) ps.length) (fun pre => ∃ k, k ≤ ps.length ∧ pre = upto (back ps) k) ps.length w := fun l J Jx W hW _ _ hY h0 => by
  have hc' := (hW.cell (p := ⟨Bs, 0, none⟩) hBs).trans hc
  obtain ⟨q, c, rfl, h | ⟨r, o, rfl, hZr, hr, hrow⟩⟩ := hI
  · subst h
    exact (back1_nil_in F n hf hro l Bs q c J W hc' h0).mono fun e W' ⟨he, hj⟩ => ⟨he, .inl ⟨_, rfl, hj⟩⟩
  · refine back1_in F n hf hro hn l Bs r o ps.length c ps rfl hlen Z hZB hZr J Jx hY W hc' (fun j hj => ?_) h0
    refine (hW.cell (p := ⟨r, o + j, none⟩) hr).trans (hrow j _ ?_)
    simp [bp, hj]

end Go.Proofs.YtemlceicmpcboaaGreatDoor.Pa
