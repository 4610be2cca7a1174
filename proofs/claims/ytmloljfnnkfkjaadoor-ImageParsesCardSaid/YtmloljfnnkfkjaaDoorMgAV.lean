/- Rows that grow beside a reader; the walk of readList (five kinds): its contract. No condition but those that each states. -/
import Derived.Test.YtmloljfnnkfkjaaDoorMgAU
import Derived.Lib.AppendZeros
import Derived.Laws.AppendOwnNone
namespace Go.Proofs.YtmloljfnnkfkjaaDoor.Im
open Go.RowKit Dk In

theorem fold_set (k : Nat) : ∀ (c pre Z : List Value), pre.length = k → Z.length = c.length → (c.zipIdx k).foldl (fun (cs : Array Value) x => cs.setIfInBounds (0 + x.2) x.1) (pre ++ Z).toArray = (pre ++ c).toArray := by
  intro c
  induction c generalizing k with
  | nil => intro pre Z _ hZ; obtain rfl : Z = [] := List.eq_nil_of_length_eq_zero hZ; rfl
  | cons x c ih =>
    intro pre Z hp hZ
    cases Z with
    | nil => simp at hZ
    | cons z Z =>
      rw [List.zipIdx_cons, List.foldl_cons]
      have e : (pre ++ z :: Z).toArray.setIfInBounds (0 + k) x = ((pre ++ [x]) ++ Z).toArray := by
        rw [List.setIfInBounds_toArray, Nat.zero_add, List.set_append_right _ _ (by omega), hp, Nat.sub_self, List.set_cons_zero]; simp
      rw [e, ih (k + 1) (pre ++ [x]) Z (by simp [hp]) (by simpa using hZ)]
      simp

theorem run_buildSlice_one {P : Program} (t e : TypeId) (z : Value) (bytes size : Nat) (c : List Value) (W : World) (hu : P.underlying t = some (.slice e)) (hinfo : (P.info? e).map (fun i => (i.zero, i.size, i.bytes)) = some (some z, size, bytes))
    (_hz : z.cells.size = size) (hc : c.length = size) (h1 : 0 < size) (h2 : size ≤ 16777216) :
    (Instr.buildSlice t 1 #[(0, .agg c.toArray)]).run P W = .ok (.slice (some ⟨W.heap.size, 0, none⟩) 1 1) (W.alloc (.cells c.toArray e)) := by
  obtain ⟨i, hi, hz0, hs, hb⟩ := info_parts hinfo
  have hne : ¬ (16777216 < size) := by omega
  have hn0 : ¬ size = 0 := by omega
  have hfill : Instr.fill (fun i => some (i * size, size)) ((Array.range (1 * size)).map (z.cells[· % z.cells.size]!)) [(0, .agg c.toArray)] = some c.toArray := by
    have hZ : ∃ Z : List Value, (Array.range (1 * size)).map (z.cells[· % z.cells.size]!) = Z.toArray ∧ Z.length = size := ⟨((Array.range (1 * size)).map (z.cells[· % z.cells.size]!)).toList, by rw [Array.toArray_toList], by simp⟩
    obtain ⟨Z, e1, e2⟩ := hZ
    rw [e1]
    have hf := fold_set 0 c [] Z rfl (by omega)
    simp only [List.nil_append] at hf
    simp [Instr.fill, Value.cells, hc, e2]
    rw [← hf]
    simp
  simp [Instr.buildSlice, run_underlying hu, sizeOf, typeInfo, hi, hs, zeroValue, hz0, hne, hn0]
  rw [Nat.one_mul] at hfill
  rw [hfill]
  simp [newRow, go_sem]

theorem exec_buildSlice {P : Program} (t e : TypeId) (z : Value) (bytes size : Nat) (c : List Value) (W : World) (hu : P.underlying t = some (.slice e)) (hinfo : (P.info? e).map (fun i => (i.zero, i.size, i.bytes)) = some (some z, size, bytes))
    (hz : z.cells.size = size) (hc : c.length = size) (h1 : 0 < size) (h2 : size ≤ 16777216) (ρ : Operand → Value) (o : Oper) (x : Operand) (ho : o.op = .buildSlice t 1 #[(0, x)]) (hx : ρ x = .agg c.toArray) :
    (execOp ρ o).run P W = .ok (.value (.slice (some ⟨W.heap.size, 0, none⟩) 1 1)) (W.alloc (.cells c.toArray e)) := by
  have hr := run_buildSlice_one t e z bytes size c W hu hinfo hz hc h1 h2
  have hp : (#[(0, x)] : Array (Nat × Operand)).map (fun p => (p.1, ρ p.2)) = #[(0, .agg c.toArray)] := by simp [hx]
  unfold execOp
  simp only [ho, Sem.run_bind]
  show (Sem.run P (Instr.buildSlice t 1 ((#[(0, x)] : Array (Nat × Operand)).map (fun p => (p.1, ρ p.2)))) W).andThen _ = _
  rw [hp, hr]
  rfl
theorem info_of {P : Program} {t : TypeId} {z : Value} {n b : Nat} (h : (P.info? t).map (fun i => (i.zero, i.size, i.bytes)) = some (some z, n, b)) : ∃ i, P.info? t = some i ∧ i.zero = some z ∧ i.size = n ∧ i.bytes = b := by
  cases hi : P.info? t with
  | none => rw [hi] at h; cases h
  | some i =>
    rw [hi] at h
    simp only [Option.map_some, Option.some.injEq, Prod.mk.injEq] at h
    exact ⟨i, rfl, h.1, h.2.1, h.2.2⟩
theorem own_lo {w : World} {base : Nat} {e : TypeId} {size n : Nat} {v : Value} {xs : List Value} (h : w.ownsRow base e size v n xs) : ∀ b, v.ownBlock = some b → base ≤ b ∧ b < w.heap.size := by
  intro b hb
  rcases h.2 with ⟨rfl, _⟩ | ⟨g, cap, cur, rfl, hbg, hg, _⟩
  · cases hb
  · cases hb
    exact ⟨hbg, by
      rcases Nat.lt_or_ge g w.heap.size with h | h
      · exact h
      · rw [Array.getElem?_eq_none h] at hg; cases hg⟩
/-- A row of the call's own, from block B on. -/
def GR (B : Nat) (E : TypeId) (Z : Nat) (W : World) (v : Value) (css : List (List Value)) : Prop := W.ownsRow B E Z v css.length css.flatten
theorem GR.row {B : Nat} {E : TypeId} {Z : Nat} {W : World} {v : Value} {css : List (List Value)} (h : GR B E Z W v css) : Row (fun g => B ≤ g) W v css := by
  have h2 := h.2
  rcases h2 with ⟨rfl, h0⟩ | ⟨g, cap, cur, rfl, hbg, hg, hnc, hcm, hcs, htake⟩
  · obtain rfl := List.eq_nil_of_length_eq_zero h0
    exact Row.nil _ _
  · refine ⟨_, cap, rfl, hnc, .inr ⟨g, 0, rfl, ⟨hbg, (own_lo h g rfl).2⟩, fun j u hu => ?_⟩⟩
    have := ownsRow_range (g := g) h j u hu
    exact this
theorem GR.keep {B : Nat} {E : TypeId} {Z : Nat} {W W' : World} {v : Value} {css : List (List Value)} (h : GR B E Z W v css) (hb : ∀ b, v.ownBlock = some b → W'.heap[b]? = W.heap[b]?) : GR B E Z W' v css := ownsRow_block h hb
theorem GR.nil (B : Nat) (E : TypeId) (Z : Nat) (W : World) : GR B E Z W (.slice none 0 0) [] := World.ownsRow_nil _ _ _ _
/-- A row whose cells may be written: elements of k cells, in a block of X. -/
def RowT (k : Nat) (X : Nat → Prop) (W : World) (v : Value) (css : List (List Value)) : Prop := Row X W v css ∧ ∀ g o m c, v = .slice (some ⟨g, o, none⟩) m c → (X g ∧ g < W.heap.size) ∧ W.there g o (m * k)
theorem RowT.keep {k : Nat} {X : Nat → Prop} {W W' : World} {v : Value} {css : List (List Value)} (h : RowT k X W v css) (hb : Keeps X W W') : RowT k X W' v css :=
  ⟨Row.keep h.1 hb, fun g o m c e => by
    obtain ⟨h1, h2⟩ := h.2 g o m c e
    exact ⟨⟨h1.1, Nat.lt_of_lt_of_le h1.2 hb.size⟩, there_block h2 (hb.block g h1.1 h1.2)⟩⟩
theorem RowT.weaken {k : Nat} {X Y : Nat → Prop} {W : World} {v : Value} {css : List (List Value)} (h : RowT k X W v css) (hx : ∀ g, X g → g < W.heap.size → Y g) : RowT k Y W v css :=
  ⟨Row.weaken h.1 hx, fun g o m c e => by
    obtain ⟨h1, h2⟩ := h.2 g o m c e
    exact ⟨⟨hx g h1.1 h1.2, h1.2⟩, h2⟩⟩
theorem RowT.nil (k : Nat) (X : Nat → Prop) (W : World) : RowT k X W (.slice none 0 0) [] := ⟨Row.nil X W, fun g o m c e => by cases e⟩
theorem GR.rowT {B : Nat} {E : TypeId} {Z : Nat} {W : World} {v : Value} {css : List (List Value)} (h : GR B E Z W v css) : RowT Z (fun g => B ≤ g) W v css := by
  refine ⟨h.row, fun g o m c e => ?_⟩
  have h2 := h.2
  rcases h2 with ⟨e2, h0⟩ | ⟨g2, cap, cur, e2, hbg, hg, hnc, hcm, hcs, htake⟩
  · rw [e] at e2; cases e2
  · rw [e] at e2
    cases e2
    refine ⟨⟨hbg, (own_lo h g (by rw [e]; rfl)).2⟩, fun j hj => ?_⟩
    have hlt : j < cur.size := by rw [hcs]; exact Nat.lt_of_lt_of_le hj (Nat.mul_le_mul_right _ hnc)
    rw [Nat.zero_add]
    constructor
    · unfold World.cell?
      rw [hg]
      simp [hlt]
    · unfold World.frozen?
      rw [hg]
      simp
section
variable {Q : Rdr} {s : List UInt8} {w W W' : World} {L : List (Nat × List Value)} {k : Nat} {b : Bool}
/-- What turns blocks that are neither the reader's nor of L. -/
theorem RW.aside (h : RW Q s w W L k b) {G : Nat → Prop} {B : Nat} (hO : Only G W W') (hG : ∀ i, G i → B ≤ i) (hB : w.heap.size ≤ B) (hL : ∀ x ∈ L, x.1 < B) : RW Q s w W' L k b := by
  have hlow := h.low
  have hw := h.only.size
  refine ⟨Q.keep _ _ _ _ h.st hO.size (fun i hi => hO.block i (by omega) (fun hg => by have := hG i hg; omega)), h.le, h.only.trans hO (fun i hi hg => by have := hG i hg; omega), h.low, fun x hx => ⟨(h.own x hx).1.of_block (hO.block _ (h.own x hx).1.lt (fun hg => by have := hG _ hg; have := hL x hx; omega)) hO.size, (h.own x hx).2⟩, h.nd⟩
end
theorem r_info : (Tryd.prog.info? 62).map (·.size) = some 4 := by kernel_rfl
/-- A reading so far: what is still to come makes the whole. -/
def Pro {α : Type} (r : Rd α) (s : List UInt8) (n k1 : Nat) (b1 : Bool) (l : List α) (j k : Nat) (b : Bool) : Prop := ∀ y k' b', Out (rdM r j) s k b y k' b' → Out (rdM r n) s k1 b1 (l ++ y) k' b'
theorem Pro.start {α : Type} (r : Rd α) (s : List UInt8) (n k : Nat) (b : Bool) : Pro r s n k b [] n k b := fun _y _k' _b' h => h
theorem Pro.step {α : Type} {r : Rd α} {s : List UInt8} {n k1 k k2 j : Nat} {b1 b b2 : Bool} {l : List α} {x : α} (h : Pro r s n k1 b1 l (j + 1) k b) (ho : Out r s k b x k2 b2) : Pro r s n k1 b1 (l ++ [x]) j k2 b2 := fun y k' b' hy => by
  have := h (x :: y) k' b' (ho.bind (hy.bind (Out.ret (x :: y) hy.le)))
  rwa [List.append_assoc]
theorem Pro.done {α : Type} {r : Rd α} {s : List UInt8} {n k1 k : Nat} {b1 b : Bool} {l : List α} (h : Pro r s n k1 b1 l 0 k b) (hk : k ≤ s.length) : Out (rdM r n) s k1 b1 l k b := by
  have := h [] k b (Out.ret [] hk)
  rwa [List.append_nil] at this
theorem Pro.short {α : Type} {r : Rd α} {s : List UInt8} {n k1 k j : Nat} {b1 : Bool} {l : List α} (h : Pro r s n k1 b1 l j k true) (hk : k ≤ s.length) : Out (rdM r n) s k1 b1 l k true := by
  have := h [] k true ⟨hk, (fun e => by cases e), (fun _ => rfl)⟩
  rwa [List.append_nil] at this
theorem two_small {s : List UInt8} {k k' : Nat} {b : Bool} {n : Int} (h : Out (rdN 2) s k b n k' false) : 0 ≤ n ∧ n ≤ 65535 := by
  cases hb : b with
  | true => cases h.stay hb
  | false =>
    rcases h.go hb with ⟨e, -⟩ | ⟨-, e⟩
    · unfold rdN at e
      split at e
      · cases e
      · rename_i hl
        simp only [Option.some.injEq, Prod.mk.injEq] at e
        obtain ⟨e1, -⟩ := e
        have h1 := leNat_lt ((s.drop k).take 2)
        have h2 : ((s.drop k).take 2).length = 2 := by rw [List.length_take]; omega
        rw [h2] at h1
        rw [← e1]
        unfold getI RowKit.wrap64
        omega
    · cases e

theorem i3_us : (Tryd.prog.info? 43).map (fun i => (i.zero, i.size, i.bytes)) = some (some (.agg #[.string ⟨#[]⟩, .string ⟨#[]⟩, .int .i64 0]), 3, 40) := by kernel_rfl
theorem app_us {B : Nat} {W : World} {v : Value} {css : List (List Value)} {cs : List Value} (h : GR B 43 3 W v css) (hB : B ≤ W.heap.size) (hl : cs.length = 3) (h1 : ∀ u ∈ cs, u.oneCell' = true) (hn : css.length ≤ 65536) :
    ∃ q cap W7, (Builtin.append_ #[22, 22] 22 #[v, .slice (some ⟨W.heap.size, 0, none⟩) 1 1]).run Tryd.prog (W.alloc (.cells cs.toArray 43)) = .ok (.slice (some ⟨q, 0, none⟩) (css.length + 1) cap) W7 ∧
      GR B 43 3 W7 (.slice (some ⟨q, 0, none⟩) (css.length + 1) cap) (css ++ [cs]) ∧ Only (fun i => v.ownBlock = some i) W W7 ∧ (v.ownBlock = some q ∨ W.heap.size ≤ q) := by
  obtain ⟨i0, hi0, hz0, hz1, hz2⟩ := info_of i3_us
  have hb : Below W.heap.size W (W.alloc (.cells cs.toArray 43)) := (Below.refl _ _).alloc (Nat.le_refl _) _
  have hrow : (W.alloc (.cells cs.toArray 43)).ownsRow B 43 3 v css.length css.flatten := ownsRow_block h (fun g hg => hb.block g (own_lo h g hg).2)
  obtain ⟨q, cap, W7, hr, hrow7, hgr, hfr, -⟩ := run_append_lies (P := Tryd.prog) (w := W.alloc (.cells cs.toArray 43)) 22 22 B 43 i0 _ 3 40 Tryd.underlying22 hi0 hz0 hz1 hz2 rfl (by decide) v css.length _ hrow ⟨W.heap.size, 0, none⟩ 1 1 cs (by rw [hl]) (fun j u hu => news_at W cs.toArray 43 j u (by simpa using hu)) h1 (by decide) (by unfold maxLen; omega) (by omega) (by simp; omega) _ rfl
  refine ⟨q, cap, W7, hr, ?_, ?_, ?_⟩
  · show W7.ownsRow _ _ _ _ (css ++ [cs]).length (css ++ [cs]).flatten
    have e : (css ++ [cs]).flatten = css.flatten ++ cs := by simp
    rw [e, List.length_append]
    exact hrow7
  · have h2 := Only.of_grown (F := fun i => v.ownBlock = some i) hgr (fun k hk => hk)
    exact (Only.of_below (F := fun i => v.ownBlock = some i) hb).trans h2 (fun _ _ h => h)
  · rcases hfr with e | e
    · left
      exact e
    · right; have hsz : (W.alloc (.cells cs.toArray 43)).heap.size = W.heap.size + 1 := by simp
      omega

set_option maxHeartbeats 4000000 in
set_option maxRecDepth 100000 in
theorem rdlist_us {s : List UInt8} {q : Rq} {N : Nat} (hN : q.ba < N ∧ q.bh < N) {α : Type} {F : FuncId} (hF : Enters F) {r : Rd α} {R : Rep α} {RO : Rep (List α)} (hR : RdF s q N hN F r R) (EL : (Nat → Prop) → World → List (List Value) → List α → Prop)
    (hnil : ∀ X W, EL X W [] []) (hkeep : ∀ X W W' css l, EL X W css l → Keeps X W W' → EL X W' css l) (hweak : ∀ (X Y : Nat → Prop) W css l, EL X W css l → (∀ g, X g → g < W.heap.size → Y g) → EL Y W css l)
    (hpush : ∀ (X Y : Nat → Prop) W css l v x, EL X W css l → R Y W v x → (∀ g, Y g → g < W.heap.size → X g) → ∃ cs, v = .agg cs.toArray ∧ cs.length = 3 ∧ (∀ u ∈ cs, u.oneCell' = true) ∧ EL X W (css ++ [cs]) (l ++ [x]))
    (hro : ∀ X W v css l, RowT 3 X W v css → EL X W css l → RO X W v l)
    (w : World) (k : Nat) (b : Bool) (hk : k ≤ s.length) (h : RD s q N w k b) (HF : HasF w) (hnf : ¬rF q 0) :
    Calls Tryd.prog 77 #[.agg (rdC q).toArray, .func (.func F) #[] #[]] w (RdAny (pRdr s q N hN) s (rdL r) RO w k b) := by
  have hcall := hF
  have e2 := enters_r2
  have e5 := enters_r5
  unfold Enters at hcall e2 e5
  obtain ⟨W0, hW0⟩ : ∃ W0, W0 = w.alloc (.cells (rdC q).toArray 62) := ⟨_, rfl⟩
  have HR0 : RW (pRdr s q N hN) s w w [] k b := RW.new (Q := pRdr s q N hN) h hk
  have HR1 : Hid (RW (pRdr s q N hN) s w W0 [(w.heap.size, rdC q)] k b) := Lib.hid (by rw [hW0]; exact HR0.alloc (rdC q) _)
  have HS0 : Hid (W0.heap.size = w.heap.size + 1) := Lib.hid (by rw [hW0]; simp)
  have hW2 : w.alloc (.cells #[f2 q, f3 q, f4 q, f5 q] 62) = W0 := hW0.symm
  have HFW := Lib.hid HF
  have HNF := Lib.hid hnf
  have NR := Lib.hid (fun (K : Nat) (hK : wideB (K : Int) = true) => numR (s := s) (q := q) hN hK)
  have SH := Lib.hid (fun W k b h => shortR_any (s := s) (q := q) (N := N) W k b h)
  have HRR := Lib.hid hR
  have HNIL := Lib.hid hnil
  have HKEEP := Lib.hid hkeep
  have HWEAK := Lib.hid hweak
  have HPUSH := Lib.hid hpush
  have HRO := Lib.hid hro
  obtain ⟨c0, -, -, -⟩ := HR1.out.fns (q := q) (rb := w.heap.size) (by simp)
  have HNN := Lib.hid (show q.ba < N ∧ q.bh < N from hN)
  show Calls _ _ #[.agg #[f2 q, f3 q, f4 q, f5 q], .func (.func F) #[] #[]] w _
  clear hW0 HR0 h HF hnf hR hnil hkeep hweak hpush hro hF
  go_enter Tryd.func77, Tryd.ntmps77
  go_wp2_with fail
  refine (NR.out 2 rfl _ k b hk HR1.out.st).mono ?_
  rintro e W2 ⟨n, k1, b1, rfl, ho⟩
  have HR2 := Lib.hid (HR1.out.ok ho)
  have HN2 := Lib.hid ho.out
  have HSM : Hid (b1 = false → 0 ≤ n ∧ n ≤ 65535) := Lib.hid (fun hb => by subst hb; exact two_small ho.out)
  have HE0 := Lib.hid (HNIL.out (fun g => w.heap.size ≤ g ∧ (Value.slice none 0 0).ownBlock ≠ some g) W2)
  have HG0 := Lib.hid (GR.nil (w.heap.size + 1) 43 3 W2)
  clear ho HR1 c0 NR HNIL
  go_wp2
  go_loopw [5, 6] (fun vl vi wr => ∃ (l : List α) (css : List (List Value)) (j : Int) (k2 : Nat) (b2 : Bool) (p : Option Addr) (m c : Nat), vi = .int .i64 j ∧ vl = .slice p m c ∧ Hid (m = css.length) ∧ Hid (RW (pRdr s q N hN) s w wr [(w.heap.size, rdC q)] k2 b2) ∧ Hid (GR (w.heap.size + 1) 43 3 wr (.slice p m c) css) ∧ Hid (EL (fun g => w.heap.size ≤ g ∧ (Value.slice p m c).ownBlock ≠ some g) wr css l) ∧ Hid (Pro r s n.toNat k1 b1 l j.toNat k2 b2) ∧ Hid (b2 = false → 0 ≤ j ∧ (css.length : Int) + j ≤ 65535)) (fun _ vi _ => (intOf vi).toNat)
  case atStart => exact ⟨[], [], n, k1, b1, none, 0, 0, rfl, rfl, Lib.hid rfl, HR2, HG0, HE0, Lib.hid (Pro.start _ _ _ _ _), Lib.hid (fun hb => by have := HSM.out hb; simp; omega)⟩
  case round =>
    clear HR2 HE0 HG0
    obtain ⟨l, css, j, k2, b2, p, m, c, rfl, rfl, HM, HR, HG, HE, HP, HJ⟩ := hrel
    have HFIN : Hid (Out (rdM r n.toNat) s k1 b1 l k2 b2 → RdAny (pRdr s q N hN) s (rdL r) RO w k b (.returned (.slice p m c)) wr) := Lib.hid (fun hout => ⟨_, l, k2, b2, rfl,
      HRO.out _ _ _ _ _ ((HG.out.rowT).weaken (fun g hg _ => by have hg' : w.heap.size + 1 ≤ g := hg; show w.heap.size ≤ g; omega)) (HWEAK.out _ _ _ _ _ HE.out (fun g hg _ => hg.1)), HN2.out.bind hout, HR.out.st, HR.out.only⟩)
    by_cases hj : j > 0
    · have c3 := (HR.out.fns (q := q) (rb := w.heap.size) (by simp)).2.2.2
      have SHW := Lib.hid (SH.out wr k2 b2 HR.out.st)
      cases hb2 : b2 with
      | true =>
        rw [hb2] at SHW
        have HFF := Lib.hid (HFIN.out (by subst hb2; exact HP.out.short HR.out.le))
        clear HFIN HP hb2
        go_wp2_with fail
        refine SHW.out.mono ?_
        rintro e W3 ⟨rfl, rfl⟩
        clear SHW
        go_wp2
        go_ret
        exact HFF.out
      | false =>
        rw [hb2] at SHW
        have hjj := HJ.out hb2
        have HI := Lib.hid (r_info.trans (congrArg some (show 4 = (rdC q).length from rfl)))
        have HOWN := Lib.hid (HR.out.own (w.heap.size, rdC q) (by simp)).1
        have CF := Lib.hid (HRR.out wr k2 b2 HR.out.le HR.out.st (by
          refine ⟨?_, fun i hi => ?_, fun i hi => ?_⟩
          · have := HFW.out.lt; have := HR.out.only.size; omega
          · exact (World.cell?_of_block (a := ⟨_, _, none⟩) (HR.out.only.block _ HFW.out.lt (HNF.out))).trans (HFW.out.nm i hi)
          · exact (World.cell?_of_block (a := ⟨_, _, none⟩) (HR.out.only.block _ HFW.out.lt (HNF.out))).trans (HFW.out.sh i hi)))
        have hsub : IntKind.i64.wrap (j - 1) = j - 1 := IntWalk.i64_in _ (by omega)
        clear hsub
        obtain ⟨j', rfl⟩ : ∃ j' : Nat, j = (j' : Int) + 1 := ⟨(j - 1).toNat, by omega⟩
        have hsub : IntKind.i64.wrap ((j' : Int) + 1 - 1) = (j' : Int) := by rw [Int.add_sub_cancel]; exact IntWalk.i64_in _ (by omega)
        have hsub2 : IntKind.i64.wrap (j' : Int) = (j' : Int) := IntWalk.i64_in _ (by omega)
        have hjn : ((j' : Int) + 1).toNat = j' + 1 := by omega
        rw [hjn] at HP
        have HJJ := Lib.hid hjj
        clear HFIN hjn hjj
        go_wp2_with fail
        refine SHW.out.mono ?_
        rintro e W3 ⟨rfl, rfl⟩
        clear SHW
        go_wp2_with (refine wpList_load_mid rfl 62 (.tmp 2) rfl w.heap.size 0 rfl (rdC q) _ HOWN.out.cells Tryd.underlying62 rfl HI.out ?_)
        refine CF.out.mono ?_
        rintro e W4 ⟨v, x, k3, b3, ho⟩
        obtain rfl := ho.ret
        have hlow := HR.out.low
        have hws := HR.out.only.size
        have hlt : ∀ g, (Value.slice p m c).ownBlock = some g → w.heap.size + 1 ≤ g ∧ g < wr.heap.size := fun g hg => own_lo HG.out g hg
        have HR4 := Lib.hid (HR.out.ok ho)
        have HG4 := Lib.hid (HG.out.keep (W' := W4) (fun g hg => ho.only.block g (hlt g hg).2 (fun hf => by have := (pRdr s q N hN).lt g hf; have := (hlt g hg).1; have e : (pRdr s q N hN).N = N := rfl; omega)))
        have hE4 := HKEEP.out _ _ W4 _ _ HE.out ⟨ho.only.size, fun g hg hgl => ho.only.block g hgl (fun hf => by have := (pRdr s q N hN).lt g hf; have := hg.1; have e : (pRdr s q N hN).N = N := rfl; omega)⟩
        obtain ⟨cs, rfl, hl, h1, hE5⟩ := HPUSH.out _ _ _ _ _ _ _ hE4 ho.rep (fun g hg _ => ⟨Nat.le_trans hws hg, fun e => by have := (hlt g e).2; have hg' : wr.heap.size ≤ g := hg; omega⟩)
        have hm5 := HJJ.out.2
        obtain ⟨qq, cap, W7, hrun, hG7, hO7, hq7⟩ := app_us HG4.out (by have := ho.only.size; have : w.heap.size < wr.heap.size := HOWN.out.lt; omega) hl h1 (by omega)
        rw [← HM.out] at hrun hG7
        have HR7 := Lib.hid (HR4.out.aside (B := w.heap.size + 1) hO7 (fun i hi => (hlt i hi).1) (by omega) (by simp))
        have hE7 := HKEEP.out _ _ W7 _ _ hE5 ⟨hO7.size, fun g hg hgl => hO7.block g hgl (fun hf => hg.2 hf)⟩
        have HE8 : Hid (EL (fun g => w.heap.size ≤ g ∧ (Value.slice (some ⟨qq, 0, none⟩) (m + 1) cap).ownBlock ≠ some g) W7 (css ++ [cs]) (l ++ [x])) := Lib.hid (HWEAK.out _ _ _ _ _ (HWEAK.out _ (fun g => (w.heap.size ≤ g ∧ (Value.slice p m c).ownBlock ≠ some g) ∧ g < W4.heap.size) _ _ _ hE5 (fun g hg hgl => ⟨hg, hgl⟩) |> fun hh => HKEEP.out _ _ W7 _ _ hh ⟨hO7.size, fun g hg hgl => hO7.block g hgl (fun hf => hg.1.2 hf)⟩) (fun g hg _ => ⟨hg.1.1, fun e => by
          have e' : qq = g := by cases e; rfl
          subst e'
          rcases hq7 with h7 | h7
          · exact hg.1.2 h7
          · omega⟩))
        have HG8 := Lib.hid hG7
        have HP8 := Lib.hid (HP.out.step ho.out)
        have HJ8 : Hid (b3 = false → 0 ≤ (j' : Int) ∧ ((css ++ [cs]).length : Int) + (j' : Int) ≤ 65535) := Lib.hid (fun hb => by
          rw [List.length_append]
          have := HJJ.out
          simp
          omega)
        have HM8 : Hid (m + 1 = (css ++ [cs]).length) := Lib.hid (by rw [List.length_append, HM.out]; rfl)
        have HL := Lib.hid hl
        clear ho HR HG HE HP HJ HR4 HG4 hE4 hE5 hG7 hO7 hq7 hE7 h1 hl hlt hws hlow CF hm5 HM
        go_wp2_with (first
          | (refine wpList_run rfl (exec_buildSlice 22 43 _ 40 3 cs W4 Tryd.underlying22 i3_us rfl HL.out (by decide) (by decide) _ _ (.tmp 23) rfl (by kernel_rfl)) ?_)
          | (at_builtin; refine Lib.wpList_append_run _ rfl _ _ _ _ rfl _ _ rfl rfl _ _ hrun ?_))
        go_roundw
        case rel => exact ⟨l ++ [x], css ++ [cs], (j' : Int), k3, b3, some ⟨qq, 0, none⟩, m + 1, cap, by first | rfl | go_num, rfl, HM8, HR7, HG8, HE8, HP8, HJ8⟩
        case measure => simp [intOf]
    · have HFF := Lib.hid (HFIN.out (by
        have e : j.toNat = 0 := by omega
        have hp := HP.out
        rw [e] at hp
        exact hp.done HR.out.le))
      clear HFIN HP
      go_wp2
      go_ret
      exact HFF.out

theorem i3_pr : (Tryd.prog.info? 38).map (fun i => (i.zero, i.size, i.bytes)) = some (some (.agg #[.string ⟨#[]⟩, .int .i64 0, .int .i64 0, .slice none 0 0, .slice none 0 0, .slice none 0 0]), 6, 104) := by kernel_rfl
theorem app_pr {B : Nat} {W : World} {v : Value} {css : List (List Value)} {cs : List Value} (h : GR B 38 6 W v css) (hB : B ≤ W.heap.size) (hl : cs.length = 6) (h1 : ∀ u ∈ cs, u.oneCell' = true) (hn : css.length ≤ 65536) :
    ∃ q cap W7, (Builtin.append_ #[23, 23] 23 #[v, .slice (some ⟨W.heap.size, 0, none⟩) 1 1]).run Tryd.prog (W.alloc (.cells cs.toArray 38)) = .ok (.slice (some ⟨q, 0, none⟩) (css.length + 1) cap) W7 ∧
      GR B 38 6 W7 (.slice (some ⟨q, 0, none⟩) (css.length + 1) cap) (css ++ [cs]) ∧ Only (fun i => v.ownBlock = some i) W W7 ∧ (v.ownBlock = some q ∨ W.heap.size ≤ q) := by
  obtain ⟨i0, hi0, hz0, hz1, hz2⟩ := info_of i3_pr
  have hb : Below W.heap.size W (W.alloc (.cells cs.toArray 38)) := (Below.refl _ _).alloc (Nat.le_refl _) _
  have hrow : (W.alloc (.cells cs.toArray 38)).ownsRow B 38 6 v css.length css.flatten := ownsRow_block h (fun g hg => hb.block g (own_lo h g hg).2)
  obtain ⟨q, cap, W7, hr, hrow7, hgr, hfr, -⟩ := run_append_lies (P := Tryd.prog) (w := W.alloc (.cells cs.toArray 38)) 23 23 B 38 i0 _ 6 104 Tryd.underlying23 hi0 hz0 hz1 hz2 rfl (by decide) v css.length _ hrow ⟨W.heap.size, 0, none⟩ 1 1 cs (by rw [hl]) (fun j u hu => news_at W cs.toArray 38 j u (by simpa using hu)) h1 (by decide) (by unfold maxLen; omega) (by omega) (by simp; omega) _ rfl
  refine ⟨q, cap, W7, hr, ?_, ?_, ?_⟩
  · show W7.ownsRow _ _ _ _ (css ++ [cs]).length (css ++ [cs]).flatten
    have e : (css ++ [cs]).flatten = css.flatten ++ cs := by simp
    rw [e, List.length_append]
    exact hrow7
  · have h2 := Only.of_grown (F := fun i => v.ownBlock = some i) hgr (fun k hk => hk)
    exact (Only.of_below (F := fun i => v.ownBlock = some i) hb).trans h2 (fun _ _ h => h)
  · rcases hfr with e | e
    · left
      exact e
    · right; have hsz : (W.alloc (.cells cs.toArray 38)).heap.size = W.heap.size + 1 := by simp
      omega

set_option maxHeartbeats 4000000 in
set_option maxRecDepth 100000 in
theorem rdlist_pr {s : List UInt8} {q : Rq} {N : Nat} (hN : q.ba < N ∧ q.bh < N) {α : Type} {F : FuncId} (hF : Enters F) {r : Rd α} {R : Rep α} {RO : Rep (List α)} (hR : RdF s q N hN F r R) (EL : (Nat → Prop) → World → List (List Value) → List α → Prop)
    (hnil : ∀ X W, EL X W [] []) (hkeep : ∀ X W W' css l, EL X W css l → Keeps X W W' → EL X W' css l) (hweak : ∀ (X Y : Nat → Prop) W css l, EL X W css l → (∀ g, X g → g < W.heap.size → Y g) → EL Y W css l)
    (hpush : ∀ (X Y : Nat → Prop) W css l v x, EL X W css l → R Y W v x → (∀ g, Y g → g < W.heap.size → X g) → ∃ cs, v = .agg cs.toArray ∧ cs.length = 6 ∧ (∀ u ∈ cs, u.oneCell' = true) ∧ EL X W (css ++ [cs]) (l ++ [x]))
    (hro : ∀ X W v css l, RowT 6 X W v css → EL X W css l → RO X W v l)
    (w : World) (k : Nat) (b : Bool) (hk : k ≤ s.length) (h : RD s q N w k b) (HF : HasF w) (hnf : ¬rF q 0) :
    Calls Tryd.prog 79 #[.agg (rdC q).toArray, .func (.func F) #[] #[]] w (RdAny (pRdr s q N hN) s (rdL r) RO w k b) := by
  have hcall := hF
  have e2 := enters_r2
  have e5 := enters_r5
  unfold Enters at hcall e2 e5
  obtain ⟨W0, hW0⟩ : ∃ W0, W0 = w.alloc (.cells (rdC q).toArray 62) := ⟨_, rfl⟩
  have HR0 : RW (pRdr s q N hN) s w w [] k b := RW.new (Q := pRdr s q N hN) h hk
  have HR1 : Hid (RW (pRdr s q N hN) s w W0 [(w.heap.size, rdC q)] k b) := Lib.hid (by rw [hW0]; exact HR0.alloc (rdC q) _)
  have HS0 : Hid (W0.heap.size = w.heap.size + 1) := Lib.hid (by rw [hW0]; simp)
  have hW2 : w.alloc (.cells #[f2 q, f3 q, f4 q, f5 q] 62) = W0 := hW0.symm
  have HFW := Lib.hid HF
  have HNF := Lib.hid hnf
  have NR := Lib.hid (fun (K : Nat) (hK : wideB (K : Int) = true) => numR (s := s) (q := q) hN hK)
  have SH := Lib.hid (fun W k b h => shortR_any (s := s) (q := q) (N := N) W k b h)
  have HRR := Lib.hid hR
  have HNIL := Lib.hid hnil
  have HKEEP := Lib.hid hkeep
  have HWEAK := Lib.hid hweak
  have HPUSH := Lib.hid hpush
  have HRO := Lib.hid hro
  obtain ⟨c0, -, -, -⟩ := HR1.out.fns (q := q) (rb := w.heap.size) (by simp)
  have HNN := Lib.hid (show q.ba < N ∧ q.bh < N from hN)
  show Calls _ _ #[.agg #[f2 q, f3 q, f4 q, f5 q], .func (.func F) #[] #[]] w _
  clear hW0 HR0 h HF hnf hR hnil hkeep hweak hpush hro hF
  go_enter Tryd.func79, Tryd.ntmps79
  go_wp2_with fail
  refine (NR.out 2 rfl _ k b hk HR1.out.st).mono ?_
  rintro e W2 ⟨n, k1, b1, rfl, ho⟩
  have HR2 := Lib.hid (HR1.out.ok ho)
  have HN2 := Lib.hid ho.out
  have HSM : Hid (b1 = false → 0 ≤ n ∧ n ≤ 65535) := Lib.hid (fun hb => by subst hb; exact two_small ho.out)
  have HE0 := Lib.hid (HNIL.out (fun g => w.heap.size ≤ g ∧ (Value.slice none 0 0).ownBlock ≠ some g) W2)
  have HG0 := Lib.hid (GR.nil (w.heap.size + 1) 38 6 W2)
  clear ho HR1 c0 NR HNIL
  go_wp2
  go_loopw [5, 6] (fun vl vi wr => ∃ (l : List α) (css : List (List Value)) (j : Int) (k2 : Nat) (b2 : Bool) (p : Option Addr) (m c : Nat), vi = .int .i64 j ∧ vl = .slice p m c ∧ Hid (m = css.length) ∧ Hid (RW (pRdr s q N hN) s w wr [(w.heap.size, rdC q)] k2 b2) ∧ Hid (GR (w.heap.size + 1) 38 6 wr (.slice p m c) css) ∧ Hid (EL (fun g => w.heap.size ≤ g ∧ (Value.slice p m c).ownBlock ≠ some g) wr css l) ∧ Hid (Pro r s n.toNat k1 b1 l j.toNat k2 b2) ∧ Hid (b2 = false → 0 ≤ j ∧ (css.length : Int) + j ≤ 65535)) (fun _ vi _ => (intOf vi).toNat)
  case atStart => exact ⟨[], [], n, k1, b1, none, 0, 0, rfl, rfl, Lib.hid rfl, HR2, HG0, HE0, Lib.hid (Pro.start _ _ _ _ _), Lib.hid (fun hb => by have := HSM.out hb; simp; omega)⟩
  case round =>
    clear HR2 HE0 HG0
    obtain ⟨l, css, j, k2, b2, p, m, c, rfl, rfl, HM, HR, HG, HE, HP, HJ⟩ := hrel
    have HFIN : Hid (Out (rdM r n.toNat) s k1 b1 l k2 b2 → RdAny (pRdr s q N hN) s (rdL r) RO w k b (.returned (.slice p m c)) wr) := Lib.hid (fun hout => ⟨_, l, k2, b2, rfl,
      HRO.out _ _ _ _ _ ((HG.out.rowT).weaken (fun g hg _ => by have hg' : w.heap.size + 1 ≤ g := hg; show w.heap.size ≤ g; omega)) (HWEAK.out _ _ _ _ _ HE.out (fun g hg _ => hg.1)), HN2.out.bind hout, HR.out.st, HR.out.only⟩)
    by_cases hj : j > 0
    · have c3 := (HR.out.fns (q := q) (rb := w.heap.size) (by simp)).2.2.2
      have SHW := Lib.hid (SH.out wr k2 b2 HR.out.st)
      cases hb2 : b2 with
      | true =>
        rw [hb2] at SHW
        have HFF := Lib.hid (HFIN.out (by subst hb2; exact HP.out.short HR.out.le))
        clear HFIN HP hb2
        go_wp2_with fail
        refine SHW.out.mono ?_
        rintro e W3 ⟨rfl, rfl⟩
        clear SHW
        go_wp2
        go_ret
        exact HFF.out
      | false =>
        rw [hb2] at SHW
        have hjj := HJ.out hb2
        have HI := Lib.hid (r_info.trans (congrArg some (show 4 = (rdC q).length from rfl)))
        have HOWN := Lib.hid (HR.out.own (w.heap.size, rdC q) (by simp)).1
        have CF := Lib.hid (HRR.out wr k2 b2 HR.out.le HR.out.st (by
          refine ⟨?_, fun i hi => ?_, fun i hi => ?_⟩
          · have := HFW.out.lt; have := HR.out.only.size; omega
          · exact (World.cell?_of_block (a := ⟨_, _, none⟩) (HR.out.only.block _ HFW.out.lt (HNF.out))).trans (HFW.out.nm i hi)
          · exact (World.cell?_of_block (a := ⟨_, _, none⟩) (HR.out.only.block _ HFW.out.lt (HNF.out))).trans (HFW.out.sh i hi)))
        have hsub : IntKind.i64.wrap (j - 1) = j - 1 := IntWalk.i64_in _ (by omega)
        clear hsub
        obtain ⟨j', rfl⟩ : ∃ j' : Nat, j = (j' : Int) + 1 := ⟨(j - 1).toNat, by omega⟩
        have hsub : IntKind.i64.wrap ((j' : Int) + 1 - 1) = (j' : Int) := by rw [Int.add_sub_cancel]; exact IntWalk.i64_in _ (by omega)
        have hsub2 : IntKind.i64.wrap (j' : Int) = (j' : Int) := IntWalk.i64_in _ (by omega)
        have hjn : ((j' : Int) + 1).toNat = j' + 1 := by omega
        rw [hjn] at HP
        have HJJ := Lib.hid hjj
        clear HFIN hjn hjj
        go_wp2_with fail
        refine SHW.out.mono ?_
        rintro e W3 ⟨rfl, rfl⟩
        clear SHW
        go_wp2_with (refine wpList_load_mid rfl 62 (.tmp 2) rfl w.heap.size 0 rfl (rdC q) _ HOWN.out.cells Tryd.underlying62 rfl HI.out ?_)
        refine CF.out.mono ?_
        rintro e W4 ⟨v, x, k3, b3, ho⟩
        obtain rfl := ho.ret
        have hlow := HR.out.low
        have hws := HR.out.only.size
        have hlt : ∀ g, (Value.slice p m c).ownBlock = some g → w.heap.size + 1 ≤ g ∧ g < wr.heap.size := fun g hg => own_lo HG.out g hg
        have HR4 := Lib.hid (HR.out.ok ho)
        have HG4 := Lib.hid (HG.out.keep (W' := W4) (fun g hg => ho.only.block g (hlt g hg).2 (fun hf => by have := (pRdr s q N hN).lt g hf; have := (hlt g hg).1; have e : (pRdr s q N hN).N = N := rfl; omega)))
        have hE4 := HKEEP.out _ _ W4 _ _ HE.out ⟨ho.only.size, fun g hg hgl => ho.only.block g hgl (fun hf => by have := (pRdr s q N hN).lt g hf; have := hg.1; have e : (pRdr s q N hN).N = N := rfl; omega)⟩
        obtain ⟨cs, rfl, hl, h1, hE5⟩ := HPUSH.out _ _ _ _ _ _ _ hE4 ho.rep (fun g hg _ => ⟨Nat.le_trans hws hg, fun e => by have := (hlt g e).2; have hg' : wr.heap.size ≤ g := hg; omega⟩)
        have hm5 := HJJ.out.2
        obtain ⟨qq, cap, W7, hrun, hG7, hO7, hq7⟩ := app_pr HG4.out (by have := ho.only.size; have : w.heap.size < wr.heap.size := HOWN.out.lt; omega) hl h1 (by omega)
        rw [← HM.out] at hrun hG7
        have HR7 := Lib.hid (HR4.out.aside (B := w.heap.size + 1) hO7 (fun i hi => (hlt i hi).1) (by omega) (by simp))
        have hE7 := HKEEP.out _ _ W7 _ _ hE5 ⟨hO7.size, fun g hg hgl => hO7.block g hgl (fun hf => hg.2 hf)⟩
        have HE8 : Hid (EL (fun g => w.heap.size ≤ g ∧ (Value.slice (some ⟨qq, 0, none⟩) (m + 1) cap).ownBlock ≠ some g) W7 (css ++ [cs]) (l ++ [x])) := Lib.hid (HWEAK.out _ _ _ _ _ (HWEAK.out _ (fun g => (w.heap.size ≤ g ∧ (Value.slice p m c).ownBlock ≠ some g) ∧ g < W4.heap.size) _ _ _ hE5 (fun g hg hgl => ⟨hg, hgl⟩) |> fun hh => HKEEP.out _ _ W7 _ _ hh ⟨hO7.size, fun g hg hgl => hO7.block g hgl (fun hf => hg.1.2 hf)⟩) (fun g hg _ => ⟨hg.1.1, fun e => by
          have e' : qq = g := by cases e; rfl
          subst e'
          rcases hq7 with h7 | h7
          · exact hg.1.2 h7
          · omega⟩))
        have HG8 := Lib.hid hG7
        have HP8 := Lib.hid (HP.out.step ho.out)
        have HJ8 : Hid (b3 = false → 0 ≤ (j' : Int) ∧ ((css ++ [cs]).length : Int) + (j' : Int) ≤ 65535) := Lib.hid (fun hb => by
          rw [List.length_append]
          have := HJJ.out
          simp
          omega)
        have HM8 : Hid (m + 1 = (css ++ [cs]).length) := Lib.hid (by rw [List.length_append, HM.out]; rfl)
        have HL := Lib.hid hl
        clear ho HR HG HE HP HJ HR4 HG4 hE4 hE5 hG7 hO7 hq7 hE7 h1 hl hlt hws hlow CF hm5 HM
        go_wp2_with (first
          | (refine wpList_run rfl (exec_buildSlice 23 38 _ 104 6 cs W4 Tryd.underlying23 i3_pr rfl HL.out (by decide) (by decide) _ _ (.tmp 23) rfl (by kernel_rfl)) ?_)
          | (at_builtin; refine Lib.wpList_append_run _ rfl _ _ _ _ rfl _ _ rfl rfl _ _ hrun ?_))
        go_roundw
        case rel => exact ⟨l ++ [x], css ++ [cs], (j' : Int), k3, b3, some ⟨qq, 0, none⟩, m + 1, cap, by first | rfl | go_num, rfl, HM8, HR7, HG8, HE8, HP8, HJ8⟩
        case measure => simp [intOf]
    · have HFF := Lib.hid (HFIN.out (by
        have e : j.toNat = 0 := by omega
        have hp := HP.out
        rw [e] at hp
        exact hp.done HR.out.le))
      clear HFIN HP
      go_wp2
      go_ret
      exact HFF.out

theorem i3_cp : (Tryd.prog.info? 83).map (fun i => (i.zero, i.size, i.bytes)) = some (some (.agg #[.bool false, .int .i64 0]), 2, 16) := by kernel_rfl
theorem app_cp {B : Nat} {W : World} {v : Value} {css : List (List Value)} {cs : List Value} (h : GR B 83 2 W v css) (hB : B ≤ W.heap.size) (hl : cs.length = 2) (h1 : ∀ u ∈ cs, u.oneCell' = true) (hn : css.length ≤ 65536) :
    ∃ q cap W7, (Builtin.append_ #[36, 36] 36 #[v, .slice (some ⟨W.heap.size, 0, none⟩) 1 1]).run Tryd.prog (W.alloc (.cells cs.toArray 83)) = .ok (.slice (some ⟨q, 0, none⟩) (css.length + 1) cap) W7 ∧
      GR B 83 2 W7 (.slice (some ⟨q, 0, none⟩) (css.length + 1) cap) (css ++ [cs]) ∧ Only (fun i => v.ownBlock = some i) W W7 ∧ (v.ownBlock = some q ∨ W.heap.size ≤ q) := by
  obtain ⟨i0, hi0, hz0, hz1, hz2⟩ := info_of i3_cp
  have hb : Below W.heap.size W (W.alloc (.cells cs.toArray 83)) := (Below.refl _ _).alloc (Nat.le_refl _) _
  have hrow : (W.alloc (.cells cs.toArray 83)).ownsRow B 83 2 v css.length css.flatten := ownsRow_block h (fun g hg => hb.block g (own_lo h g hg).2)
  obtain ⟨q, cap, W7, hr, hrow7, hgr, hfr, -⟩ := run_append_lies (P := Tryd.prog) (w := W.alloc (.cells cs.toArray 83)) 36 36 B 83 i0 _ 2 16 Tryd.underlying36 hi0 hz0 hz1 hz2 rfl (by decide) v css.length _ hrow ⟨W.heap.size, 0, none⟩ 1 1 cs (by rw [hl]) (fun j u hu => news_at W cs.toArray 83 j u (by simpa using hu)) h1 (by decide) (by unfold maxLen; omega) (by omega) (by simp; omega) _ rfl
  refine ⟨q, cap, W7, hr, ?_, ?_, ?_⟩
  · show W7.ownsRow _ _ _ _ (css ++ [cs]).length (css ++ [cs]).flatten
    have e : (css ++ [cs]).flatten = css.flatten ++ cs := by simp
    rw [e, List.length_append]
    exact hrow7
  · have h2 := Only.of_grown (F := fun i => v.ownBlock = some i) hgr (fun k hk => hk)
    exact (Only.of_below (F := fun i => v.ownBlock = some i) hb).trans h2 (fun _ _ h => h)
  · rcases hfr with e | e
    · left
      exact e
    · right; have hsz : (W.alloc (.cells cs.toArray 83)).heap.size = W.heap.size + 1 := by simp
      omega

set_option maxHeartbeats 4000000 in
set_option maxRecDepth 100000 in
theorem rdlist_cp {s : List UInt8} {q : Rq} {N : Nat} (hN : q.ba < N ∧ q.bh < N) {α : Type} {F : FuncId} (hF : Enters F) {r : Rd α} {R : Rep α} {RO : Rep (List α)} (hR : RdF s q N hN F r R) (EL : (Nat → Prop) → World → List (List Value) → List α → Prop)
    (hnil : ∀ X W, EL X W [] []) (hkeep : ∀ X W W' css l, EL X W css l → Keeps X W W' → EL X W' css l) (hweak : ∀ (X Y : Nat → Prop) W css l, EL X W css l → (∀ g, X g → g < W.heap.size → Y g) → EL Y W css l)
    (hpush : ∀ (X Y : Nat → Prop) W css l v x, EL X W css l → R Y W v x → (∀ g, Y g → g < W.heap.size → X g) → ∃ cs, v = .agg cs.toArray ∧ cs.length = 2 ∧ (∀ u ∈ cs, u.oneCell' = true) ∧ EL X W (css ++ [cs]) (l ++ [x]))
    (hro : ∀ X W v css l, RowT 2 X W v css → EL X W css l → RO X W v l)
    (w : World) (k : Nat) (b : Bool) (hk : k ≤ s.length) (h : RD s q N w k b) (HF : HasF w) (hnf : ¬rF q 0) :
    Calls Tryd.prog 96 #[.agg (rdC q).toArray, .func (.func F) #[] #[]] w (RdAny (pRdr s q N hN) s (rdL r) RO w k b) := by
  have hcall := hF
  have e2 := enters_r2
  have e5 := enters_r5
  unfold Enters at hcall e2 e5
  obtain ⟨W0, hW0⟩ : ∃ W0, W0 = w.alloc (.cells (rdC q).toArray 62) := ⟨_, rfl⟩
  have HR0 : RW (pRdr s q N hN) s w w [] k b := RW.new (Q := pRdr s q N hN) h hk
  have HR1 : Hid (RW (pRdr s q N hN) s w W0 [(w.heap.size, rdC q)] k b) := Lib.hid (by rw [hW0]; exact HR0.alloc (rdC q) _)
  have HS0 : Hid (W0.heap.size = w.heap.size + 1) := Lib.hid (by rw [hW0]; simp)
  have hW2 : w.alloc (.cells #[f2 q, f3 q, f4 q, f5 q] 62) = W0 := hW0.symm
  have HFW := Lib.hid HF
  have HNF := Lib.hid hnf
  have NR := Lib.hid (fun (K : Nat) (hK : wideB (K : Int) = true) => numR (s := s) (q := q) hN hK)
  have SH := Lib.hid (fun W k b h => shortR_any (s := s) (q := q) (N := N) W k b h)
  have HRR := Lib.hid hR
  have HNIL := Lib.hid hnil
  have HKEEP := Lib.hid hkeep
  have HWEAK := Lib.hid hweak
  have HPUSH := Lib.hid hpush
  have HRO := Lib.hid hro
  obtain ⟨c0, -, -, -⟩ := HR1.out.fns (q := q) (rb := w.heap.size) (by simp)
  have HNN := Lib.hid (show q.ba < N ∧ q.bh < N from hN)
  show Calls _ _ #[.agg #[f2 q, f3 q, f4 q, f5 q], .func (.func F) #[] #[]] w _
  clear hW0 HR0 h HF hnf hR hnil hkeep hweak hpush hro hF
  go_enter Tryd.func96, Tryd.ntmps96
  go_wp2_with fail
  refine (NR.out 2 rfl _ k b hk HR1.out.st).mono ?_
  rintro e W2 ⟨n, k1, b1, rfl, ho⟩
  have HR2 := Lib.hid (HR1.out.ok ho)
  have HN2 := Lib.hid ho.out
  have HSM : Hid (b1 = false → 0 ≤ n ∧ n ≤ 65535) := Lib.hid (fun hb => by subst hb; exact two_small ho.out)
  have HE0 := Lib.hid (HNIL.out (fun g => w.heap.size ≤ g ∧ (Value.slice none 0 0).ownBlock ≠ some g) W2)
  have HG0 := Lib.hid (GR.nil (w.heap.size + 1) 83 2 W2)
  clear ho HR1 c0 NR HNIL
  go_wp2
  go_loopw [5, 6] (fun vl vi wr => ∃ (l : List α) (css : List (List Value)) (j : Int) (k2 : Nat) (b2 : Bool) (p : Option Addr) (m c : Nat), vi = .int .i64 j ∧ vl = .slice p m c ∧ Hid (m = css.length) ∧ Hid (RW (pRdr s q N hN) s w wr [(w.heap.size, rdC q)] k2 b2) ∧ Hid (GR (w.heap.size + 1) 83 2 wr (.slice p m c) css) ∧ Hid (EL (fun g => w.heap.size ≤ g ∧ (Value.slice p m c).ownBlock ≠ some g) wr css l) ∧ Hid (Pro r s n.toNat k1 b1 l j.toNat k2 b2) ∧ Hid (b2 = false → 0 ≤ j ∧ (css.length : Int) + j ≤ 65535)) (fun _ vi _ => (intOf vi).toNat)
  case atStart => exact ⟨[], [], n, k1, b1, none, 0, 0, rfl, rfl, Lib.hid rfl, HR2, HG0, HE0, Lib.hid (Pro.start _ _ _ _ _), Lib.hid (fun hb => by have := HSM.out hb; simp; omega)⟩
  case round =>
    clear HR2 HE0 HG0
    obtain ⟨l, css, j, k2, b2, p, m, c, rfl, rfl, HM, HR, HG, HE, HP, HJ⟩ := hrel
    have HFIN : Hid (Out (rdM r n.toNat) s k1 b1 l k2 b2 → RdAny (pRdr s q N hN) s (rdL r) RO w k b (.returned (.slice p m c)) wr) := Lib.hid (fun hout => ⟨_, l, k2, b2, rfl,
      HRO.out _ _ _ _ _ ((HG.out.rowT).weaken (fun g hg _ => by have hg' : w.heap.size + 1 ≤ g := hg; show w.heap.size ≤ g; omega)) (HWEAK.out _ _ _ _ _ HE.out (fun g hg _ => hg.1)), HN2.out.bind hout, HR.out.st, HR.out.only⟩)
    by_cases hj : j > 0
    · have c3 := (HR.out.fns (q := q) (rb := w.heap.size) (by simp)).2.2.2
      have SHW := Lib.hid (SH.out wr k2 b2 HR.out.st)
      cases hb2 : b2 with
      | true =>
        rw [hb2] at SHW
        have HFF := Lib.hid (HFIN.out (by subst hb2; exact HP.out.short HR.out.le))
        clear HFIN HP hb2
        go_wp2_with fail
        refine SHW.out.mono ?_
        rintro e W3 ⟨rfl, rfl⟩
        clear SHW
        go_wp2
        go_ret
        exact HFF.out
      | false =>
        rw [hb2] at SHW
        have hjj := HJ.out hb2
        have HI := Lib.hid (r_info.trans (congrArg some (show 4 = (rdC q).length from rfl)))
        have HOWN := Lib.hid (HR.out.own (w.heap.size, rdC q) (by simp)).1
        have CF := Lib.hid (HRR.out wr k2 b2 HR.out.le HR.out.st (by
          refine ⟨?_, fun i hi => ?_, fun i hi => ?_⟩
          · have := HFW.out.lt; have := HR.out.only.size; omega
          · exact (World.cell?_of_block (a := ⟨_, _, none⟩) (HR.out.only.block _ HFW.out.lt (HNF.out))).trans (HFW.out.nm i hi)
          · exact (World.cell?_of_block (a := ⟨_, _, none⟩) (HR.out.only.block _ HFW.out.lt (HNF.out))).trans (HFW.out.sh i hi)))
        have hsub : IntKind.i64.wrap (j - 1) = j - 1 := IntWalk.i64_in _ (by omega)
        clear hsub
        obtain ⟨j', rfl⟩ : ∃ j' : Nat, j = (j' : Int) + 1 := ⟨(j - 1).toNat, by omega⟩
        have hsub : IntKind.i64.wrap ((j' : Int) + 1 - 1) = (j' : Int) := by rw [Int.add_sub_cancel]; exact IntWalk.i64_in _ (by omega)
        have hsub2 : IntKind.i64.wrap (j' : Int) = (j' : Int) := IntWalk.i64_in _ (by omega)
        have hjn : ((j' : Int) + 1).toNat = j' + 1 := by omega
        rw [hjn] at HP
        have HJJ := Lib.hid hjj
        clear HFIN hjn hjj
        go_wp2_with fail
        refine SHW.out.mono ?_
        rintro e W3 ⟨rfl, rfl⟩
        clear SHW
        go_wp2_with (refine wpList_load_mid rfl 62 (.tmp 2) rfl w.heap.size 0 rfl (rdC q) _ HOWN.out.cells Tryd.underlying62 rfl HI.out ?_)
        refine CF.out.mono ?_
        rintro e W4 ⟨v, x, k3, b3, ho⟩
        obtain rfl := ho.ret
        have hlow := HR.out.low
        have hws := HR.out.only.size
        have hlt : ∀ g, (Value.slice p m c).ownBlock = some g → w.heap.size + 1 ≤ g ∧ g < wr.heap.size := fun g hg => own_lo HG.out g hg
        have HR4 := Lib.hid (HR.out.ok ho)
        have HG4 := Lib.hid (HG.out.keep (W' := W4) (fun g hg => ho.only.block g (hlt g hg).2 (fun hf => by have := (pRdr s q N hN).lt g hf; have := (hlt g hg).1; have e : (pRdr s q N hN).N = N := rfl; omega)))
        have hE4 := HKEEP.out _ _ W4 _ _ HE.out ⟨ho.only.size, fun g hg hgl => ho.only.block g hgl (fun hf => by have := (pRdr s q N hN).lt g hf; have := hg.1; have e : (pRdr s q N hN).N = N := rfl; omega)⟩
        obtain ⟨cs, rfl, hl, h1, hE5⟩ := HPUSH.out _ _ _ _ _ _ _ hE4 ho.rep (fun g hg _ => ⟨Nat.le_trans hws hg, fun e => by have := (hlt g e).2; have hg' : wr.heap.size ≤ g := hg; omega⟩)
        have hm5 := HJJ.out.2
        obtain ⟨qq, cap, W7, hrun, hG7, hO7, hq7⟩ := app_cp HG4.out (by have := ho.only.size; have : w.heap.size < wr.heap.size := HOWN.out.lt; omega) hl h1 (by omega)
        rw [← HM.out] at hrun hG7
        have HR7 := Lib.hid (HR4.out.aside (B := w.heap.size + 1) hO7 (fun i hi => (hlt i hi).1) (by omega) (by simp))
        have hE7 := HKEEP.out _ _ W7 _ _ hE5 ⟨hO7.size, fun g hg hgl => hO7.block g hgl (fun hf => hg.2 hf)⟩
        have HE8 : Hid (EL (fun g => w.heap.size ≤ g ∧ (Value.slice (some ⟨qq, 0, none⟩) (m + 1) cap).ownBlock ≠ some g) W7 (css ++ [cs]) (l ++ [x])) := Lib.hid (HWEAK.out _ _ _ _ _ (HWEAK.out _ (fun g => (w.heap.size ≤ g ∧ (Value.slice p m c).ownBlock ≠ some g) ∧ g < W4.heap.size) _ _ _ hE5 (fun g hg hgl => ⟨hg, hgl⟩) |> fun hh => HKEEP.out _ _ W7 _ _ hh ⟨hO7.size, fun g hg hgl => hO7.block g hgl (fun hf => hg.1.2 hf)⟩) (fun g hg _ => ⟨hg.1.1, fun e => by
          have e' : qq = g := by cases e; rfl
          subst e'
          rcases hq7 with h7 | h7
          · exact hg.1.2 h7
          · omega⟩))
        have HG8 := Lib.hid hG7
        have HP8 := Lib.hid (HP.out.step ho.out)
        have HJ8 : Hid (b3 = false → 0 ≤ (j' : Int) ∧ ((css ++ [cs]).length : Int) + (j' : Int) ≤ 65535) := Lib.hid (fun hb => by
          rw [List.length_append]
          have := HJJ.out
          simp
          omega)
        have HM8 : Hid (m + 1 = (css ++ [cs]).length) := Lib.hid (by rw [List.length_append, HM.out]; rfl)
        have HL := Lib.hid hl
        clear ho HR HG HE HP HJ HR4 HG4 hE4 hE5 hG7 hO7 hq7 hE7 h1 hl hlt hws hlow CF hm5 HM
        go_wp2_with (first
          | (refine wpList_run rfl (exec_buildSlice 36 83 _ 16 2 cs W4 Tryd.underlying36 i3_cp rfl HL.out (by decide) (by decide) _ _ (.tmp 23) rfl (by kernel_rfl)) ?_)
          | (at_builtin; refine Lib.wpList_append_run _ rfl _ _ _ _ rfl _ _ rfl rfl _ _ hrun ?_))
        go_roundw
        case rel => exact ⟨l ++ [x], css ++ [cs], (j' : Int), k3, b3, some ⟨qq, 0, none⟩, m + 1, cap, by first | rfl | go_num, rfl, HM8, HR7, HG8, HE8, HP8, HJ8⟩
        case measure => simp [intOf]
    · have HFF := Lib.hid (HFIN.out (by
        have e : j.toNat = 0 := by omega
        have hp := HP.out
        rw [e] at hp
        exact hp.done HR.out.le))
      clear HFIN HP
      go_wp2
      go_ret
      exact HFF.out

theorem i3_vl : (Tryd.prog.info? 45).map (fun i => (i.zero, i.size, i.bytes)) = some (some (.agg #[.int .i64 0, .int .i64 0, .string ⟨#[]⟩]), 3, 32) := by kernel_rfl
theorem app_vl {B : Nat} {W : World} {v : Value} {css : List (List Value)} {cs : List Value} (h : GR B 45 3 W v css) (hB : B ≤ W.heap.size) (hl : cs.length = 3) (h1 : ∀ u ∈ cs, u.oneCell' = true) (hn : css.length ≤ 65536) :
    ∃ q cap W7, (Builtin.append_ #[35, 35] 35 #[v, .slice (some ⟨W.heap.size, 0, none⟩) 1 1]).run Tryd.prog (W.alloc (.cells cs.toArray 45)) = .ok (.slice (some ⟨q, 0, none⟩) (css.length + 1) cap) W7 ∧
      GR B 45 3 W7 (.slice (some ⟨q, 0, none⟩) (css.length + 1) cap) (css ++ [cs]) ∧ Only (fun i => v.ownBlock = some i) W W7 ∧ (v.ownBlock = some q ∨ W.heap.size ≤ q) := by
  obtain ⟨i0, hi0, hz0, hz1, hz2⟩ := info_of i3_vl
  have hb : Below W.heap.size W (W.alloc (.cells cs.toArray 45)) := (Below.refl _ _).alloc (Nat.le_refl _) _
  have hrow : (W.alloc (.cells cs.toArray 45)).ownsRow B 45 3 v css.length css.flatten := ownsRow_block h (fun g hg => hb.block g (own_lo h g hg).2)
  obtain ⟨q, cap, W7, hr, hrow7, hgr, hfr, -⟩ := run_append_lies (P := Tryd.prog) (w := W.alloc (.cells cs.toArray 45)) 35 35 B 45 i0 _ 3 32 Tryd.underlying35 hi0 hz0 hz1 hz2 rfl (by decide) v css.length _ hrow ⟨W.heap.size, 0, none⟩ 1 1 cs (by rw [hl]) (fun j u hu => news_at W cs.toArray 45 j u (by simpa using hu)) h1 (by decide) (by unfold maxLen; omega) (by omega) (by simp; omega) _ rfl
  refine ⟨q, cap, W7, hr, ?_, ?_, ?_⟩
  · show W7.ownsRow _ _ _ _ (css ++ [cs]).length (css ++ [cs]).flatten
    have e : (css ++ [cs]).flatten = css.flatten ++ cs := by simp
    rw [e, List.length_append]
    exact hrow7
  · have h2 := Only.of_grown (F := fun i => v.ownBlock = some i) hgr (fun k hk => hk)
    exact (Only.of_below (F := fun i => v.ownBlock = some i) hb).trans h2 (fun _ _ h => h)
  · rcases hfr with e | e
    · left
      exact e
    · right; have hsz : (W.alloc (.cells cs.toArray 45)).heap.size = W.heap.size + 1 := by simp
      omega

set_option maxHeartbeats 4000000 in
set_option maxRecDepth 100000 in
theorem rdlist_vl {s : List UInt8} {q : Rq} {N : Nat} (hN : q.ba < N ∧ q.bh < N) {α : Type} {F : FuncId} (hF : Enters F) {r : Rd α} {R : Rep α} {RO : Rep (List α)} (hR : RdF s q N hN F r R) (EL : (Nat → Prop) → World → List (List Value) → List α → Prop)
    (hnil : ∀ X W, EL X W [] []) (hkeep : ∀ X W W' css l, EL X W css l → Keeps X W W' → EL X W' css l) (hweak : ∀ (X Y : Nat → Prop) W css l, EL X W css l → (∀ g, X g → g < W.heap.size → Y g) → EL Y W css l)
    (hpush : ∀ (X Y : Nat → Prop) W css l v x, EL X W css l → R Y W v x → (∀ g, Y g → g < W.heap.size → X g) → ∃ cs, v = .agg cs.toArray ∧ cs.length = 3 ∧ (∀ u ∈ cs, u.oneCell' = true) ∧ EL X W (css ++ [cs]) (l ++ [x]))
    (hro : ∀ X W v css l, RowT 3 X W v css → EL X W css l → RO X W v l)
    (w : World) (k : Nat) (b : Bool) (hk : k ≤ s.length) (h : RD s q N w k b) (HF : HasF w) (hnf : ¬rF q 0) :
    Calls Tryd.prog 98 #[.agg (rdC q).toArray, .func (.func F) #[] #[]] w (RdAny (pRdr s q N hN) s (rdL r) RO w k b) := by
  have hcall := hF
  have e2 := enters_r2
  have e5 := enters_r5
  unfold Enters at hcall e2 e5
  obtain ⟨W0, hW0⟩ : ∃ W0, W0 = w.alloc (.cells (rdC q).toArray 62) := ⟨_, rfl⟩
  have HR0 : RW (pRdr s q N hN) s w w [] k b := RW.new (Q := pRdr s q N hN) h hk
  have HR1 : Hid (RW (pRdr s q N hN) s w W0 [(w.heap.size, rdC q)] k b) := Lib.hid (by rw [hW0]; exact HR0.alloc (rdC q) _)
  have HS0 : Hid (W0.heap.size = w.heap.size + 1) := Lib.hid (by rw [hW0]; simp)
  have hW2 : w.alloc (.cells #[f2 q, f3 q, f4 q, f5 q] 62) = W0 := hW0.symm
  have HFW := Lib.hid HF
  have HNF := Lib.hid hnf
  have NR := Lib.hid (fun (K : Nat) (hK : wideB (K : Int) = true) => numR (s := s) (q := q) hN hK)
  have SH := Lib.hid (fun W k b h => shortR_any (s := s) (q := q) (N := N) W k b h)
  have HRR := Lib.hid hR
  have HNIL := Lib.hid hnil
  have HKEEP := Lib.hid hkeep
  have HWEAK := Lib.hid hweak
  have HPUSH := Lib.hid hpush
  have HRO := Lib.hid hro
  obtain ⟨c0, -, -, -⟩ := HR1.out.fns (q := q) (rb := w.heap.size) (by simp)
  have HNN := Lib.hid (show q.ba < N ∧ q.bh < N from hN)
  show Calls _ _ #[.agg #[f2 q, f3 q, f4 q, f5 q], .func (.func F) #[] #[]] w _
  clear hW0 HR0 h HF hnf hR hnil hkeep hweak hpush hro hF
  go_enter Tryd.func98, Tryd.ntmps98
  go_wp2_with fail
  refine (NR.out 2 rfl _ k b hk HR1.out.st).mono ?_
  rintro e W2 ⟨n, k1, b1, rfl, ho⟩
  have HR2 := Lib.hid (HR1.out.ok ho)
  have HN2 := Lib.hid ho.out
  have HSM : Hid (b1 = false → 0 ≤ n ∧ n ≤ 65535) := Lib.hid (fun hb => by subst hb; exact two_small ho.out)
  have HE0 := Lib.hid (HNIL.out (fun g => w.heap.size ≤ g ∧ (Value.slice none 0 0).ownBlock ≠ some g) W2)
  have HG0 := Lib.hid (GR.nil (w.heap.size + 1) 45 3 W2)
  clear ho HR1 c0 NR HNIL
  go_wp2
  go_loopw [5, 6] (fun vl vi wr => ∃ (l : List α) (css : List (List Value)) (j : Int) (k2 : Nat) (b2 : Bool) (p : Option Addr) (m c : Nat), vi = .int .i64 j ∧ vl = .slice p m c ∧ Hid (m = css.length) ∧ Hid (RW (pRdr s q N hN) s w wr [(w.heap.size, rdC q)] k2 b2) ∧ Hid (GR (w.heap.size + 1) 45 3 wr (.slice p m c) css) ∧ Hid (EL (fun g => w.heap.size ≤ g ∧ (Value.slice p m c).ownBlock ≠ some g) wr css l) ∧ Hid (Pro r s n.toNat k1 b1 l j.toNat k2 b2) ∧ Hid (b2 = false → 0 ≤ j ∧ (css.length : Int) + j ≤ 65535)) (fun _ vi _ => (intOf vi).toNat)
  case atStart => exact ⟨[], [], n, k1, b1, none, 0, 0, rfl, rfl, Lib.hid rfl, HR2, HG0, HE0, Lib.hid (Pro.start _ _ _ _ _), Lib.hid (fun hb => by have := HSM.out hb; simp; omega)⟩
  case round =>
    clear HR2 HE0 HG0
    obtain ⟨l, css, j, k2, b2, p, m, c, rfl, rfl, HM, HR, HG, HE, HP, HJ⟩ := hrel
    have HFIN : Hid (Out (rdM r n.toNat) s k1 b1 l k2 b2 → RdAny (pRdr s q N hN) s (rdL r) RO w k b (.returned (.slice p m c)) wr) := Lib.hid (fun hout => ⟨_, l, k2, b2, rfl,
      HRO.out _ _ _ _ _ ((HG.out.rowT).weaken (fun g hg _ => by have hg' : w.heap.size + 1 ≤ g := hg; show w.heap.size ≤ g; omega)) (HWEAK.out _ _ _ _ _ HE.out (fun g hg _ => hg.1)), HN2.out.bind hout, HR.out.st, HR.out.only⟩)
    by_cases hj : j > 0
    · have c3 := (HR.out.fns (q := q) (rb := w.heap.size) (by simp)).2.2.2
      have SHW := Lib.hid (SH.out wr k2 b2 HR.out.st)
      cases hb2 : b2 with
      | true =>
        rw [hb2] at SHW
        have HFF := Lib.hid (HFIN.out (by subst hb2; exact HP.out.short HR.out.le))
        clear HFIN HP hb2
        go_wp2_with fail
        refine SHW.out.mono ?_
        rintro e W3 ⟨rfl, rfl⟩
        clear SHW
        go_wp2
        go_ret
        exact HFF.out
      | false =>
        rw [hb2] at SHW
        have hjj := HJ.out hb2
        have HI := Lib.hid (r_info.trans (congrArg some (show 4 = (rdC q).length from rfl)))
        have HOWN := Lib.hid (HR.out.own (w.heap.size, rdC q) (by simp)).1
        have CF := Lib.hid (HRR.out wr k2 b2 HR.out.le HR.out.st (by
          refine ⟨?_, fun i hi => ?_, fun i hi => ?_⟩
          · have := HFW.out.lt; have := HR.out.only.size; omega
          · exact (World.cell?_of_block (a := ⟨_, _, none⟩) (HR.out.only.block _ HFW.out.lt (HNF.out))).trans (HFW.out.nm i hi)
          · exact (World.cell?_of_block (a := ⟨_, _, none⟩) (HR.out.only.block _ HFW.out.lt (HNF.out))).trans (HFW.out.sh i hi)))
        have hsub : IntKind.i64.wrap (j - 1) = j - 1 := IntWalk.i64_in _ (by omega)
        clear hsub
        obtain ⟨j', rfl⟩ : ∃ j' : Nat, j = (j' : Int) + 1 := ⟨(j - 1).toNat, by omega⟩
        have hsub : IntKind.i64.wrap ((j' : Int) + 1 - 1) = (j' : Int) := by rw [Int.add_sub_cancel]; exact IntWalk.i64_in _ (by omega)
        have hsub2 : IntKind.i64.wrap (j' : Int) = (j' : Int) := IntWalk.i64_in _ (by omega)
        have hjn : ((j' : Int) + 1).toNat = j' + 1 := by omega
        rw [hjn] at HP
        have HJJ := Lib.hid hjj
        clear HFIN hjn hjj
        go_wp2_with fail
        refine SHW.out.mono ?_
        rintro e W3 ⟨rfl, rfl⟩
        clear SHW
        go_wp2_with (refine wpList_load_mid rfl 62 (.tmp 2) rfl w.heap.size 0 rfl (rdC q) _ HOWN.out.cells Tryd.underlying62 rfl HI.out ?_)
        refine CF.out.mono ?_
        rintro e W4 ⟨v, x, k3, b3, ho⟩
        obtain rfl := ho.ret
        have hlow := HR.out.low
        have hws := HR.out.only.size
        have hlt : ∀ g, (Value.slice p m c).ownBlock = some g → w.heap.size + 1 ≤ g ∧ g < wr.heap.size := fun g hg => own_lo HG.out g hg
        have HR4 := Lib.hid (HR.out.ok ho)
        have HG4 := Lib.hid (HG.out.keep (W' := W4) (fun g hg => ho.only.block g (hlt g hg).2 (fun hf => by have := (pRdr s q N hN).lt g hf; have := (hlt g hg).1; have e : (pRdr s q N hN).N = N := rfl; omega)))
        have hE4 := HKEEP.out _ _ W4 _ _ HE.out ⟨ho.only.size, fun g hg hgl => ho.only.block g hgl (fun hf => by have := (pRdr s q N hN).lt g hf; have := hg.1; have e : (pRdr s q N hN).N = N := rfl; omega)⟩
        obtain ⟨cs, rfl, hl, h1, hE5⟩ := HPUSH.out _ _ _ _ _ _ _ hE4 ho.rep (fun g hg _ => ⟨Nat.le_trans hws hg, fun e => by have := (hlt g e).2; have hg' : wr.heap.size ≤ g := hg; omega⟩)
        have hm5 := HJJ.out.2
        obtain ⟨qq, cap, W7, hrun, hG7, hO7, hq7⟩ := app_vl HG4.out (by have := ho.only.size; have : w.heap.size < wr.heap.size := HOWN.out.lt; omega) hl h1 (by omega)
        rw [← HM.out] at hrun hG7
        have HR7 := Lib.hid (HR4.out.aside (B := w.heap.size + 1) hO7 (fun i hi => (hlt i hi).1) (by omega) (by simp))
        have hE7 := HKEEP.out _ _ W7 _ _ hE5 ⟨hO7.size, fun g hg hgl => hO7.block g hgl (fun hf => hg.2 hf)⟩
        have HE8 : Hid (EL (fun g => w.heap.size ≤ g ∧ (Value.slice (some ⟨qq, 0, none⟩) (m + 1) cap).ownBlock ≠ some g) W7 (css ++ [cs]) (l ++ [x])) := Lib.hid (HWEAK.out _ _ _ _ _ (HWEAK.out _ (fun g => (w.heap.size ≤ g ∧ (Value.slice p m c).ownBlock ≠ some g) ∧ g < W4.heap.size) _ _ _ hE5 (fun g hg hgl => ⟨hg, hgl⟩) |> fun hh => HKEEP.out _ _ W7 _ _ hh ⟨hO7.size, fun g hg hgl => hO7.block g hgl (fun hf => hg.1.2 hf)⟩) (fun g hg _ => ⟨hg.1.1, fun e => by
          have e' : qq = g := by cases e; rfl
          subst e'
          rcases hq7 with h7 | h7
          · exact hg.1.2 h7
          · omega⟩))
        have HG8 := Lib.hid hG7
        have HP8 := Lib.hid (HP.out.step ho.out)
        have HJ8 : Hid (b3 = false → 0 ≤ (j' : Int) ∧ ((css ++ [cs]).length : Int) + (j' : Int) ≤ 65535) := Lib.hid (fun hb => by
          rw [List.length_append]
          have := HJJ.out
          simp
          omega)
        have HM8 : Hid (m + 1 = (css ++ [cs]).length) := Lib.hid (by rw [List.length_append, HM.out]; rfl)
        have HL := Lib.hid hl
        clear ho HR HG HE HP HJ HR4 HG4 hE4 hE5 hG7 hO7 hq7 hE7 h1 hl hlt hws hlow CF hm5 HM
        go_wp2_with (first
          | (refine wpList_run rfl (exec_buildSlice 35 45 _ 32 3 cs W4 Tryd.underlying35 i3_vl rfl HL.out (by decide) (by decide) _ _ (.tmp 23) rfl (by kernel_rfl)) ?_)
          | (at_builtin; refine Lib.wpList_append_run _ rfl _ _ _ _ rfl _ _ rfl rfl _ _ hrun ?_))
        go_roundw
        case rel => exact ⟨l ++ [x], css ++ [cs], (j' : Int), k3, b3, some ⟨qq, 0, none⟩, m + 1, cap, by first | rfl | go_num, rfl, HM8, HR7, HG8, HE8, HP8, HJ8⟩
        case measure => simp [intOf]
    · have HFF := Lib.hid (HFIN.out (by
        have e : j.toNat = 0 := by omega
        have hp := HP.out
        rw [e] at hp
        exact hp.done HR.out.le))
      clear HFIN HP
      go_wp2
      go_ret
      exact HFF.out

theorem i3_ix : (Tryd.prog.info? 89).map (fun i => (i.zero, i.size, i.bytes)) = some (some (.agg #[.int .i64 0, .int .i64 0, .int .i64 0, .int .i64 0]), 4, 32) := by kernel_rfl
theorem app_ix {B : Nat} {W : World} {v : Value} {css : List (List Value)} {cs : List Value} (h : GR B 89 4 W v css) (hB : B ≤ W.heap.size) (hl : cs.length = 4) (h1 : ∀ u ∈ cs, u.oneCell' = true) (hn : css.length ≤ 65536) :
    ∃ q cap W7, (Builtin.append_ #[34, 34] 34 #[v, .slice (some ⟨W.heap.size, 0, none⟩) 1 1]).run Tryd.prog (W.alloc (.cells cs.toArray 89)) = .ok (.slice (some ⟨q, 0, none⟩) (css.length + 1) cap) W7 ∧
      GR B 89 4 W7 (.slice (some ⟨q, 0, none⟩) (css.length + 1) cap) (css ++ [cs]) ∧ Only (fun i => v.ownBlock = some i) W W7 ∧ (v.ownBlock = some q ∨ W.heap.size ≤ q) := by
  obtain ⟨i0, hi0, hz0, hz1, hz2⟩ := info_of i3_ix
  have hb : Below W.heap.size W (W.alloc (.cells cs.toArray 89)) := (Below.refl _ _).alloc (Nat.le_refl _) _
  have hrow : (W.alloc (.cells cs.toArray 89)).ownsRow B 89 4 v css.length css.flatten := ownsRow_block h (fun g hg => hb.block g (own_lo h g hg).2)
  obtain ⟨q, cap, W7, hr, hrow7, hgr, hfr, -⟩ := run_append_lies (P := Tryd.prog) (w := W.alloc (.cells cs.toArray 89)) 34 34 B 89 i0 _ 4 32 Tryd.underlying34 hi0 hz0 hz1 hz2 rfl (by decide) v css.length _ hrow ⟨W.heap.size, 0, none⟩ 1 1 cs (by rw [hl]) (fun j u hu => news_at W cs.toArray 89 j u (by simpa using hu)) h1 (by decide) (by unfold maxLen; omega) (by omega) (by simp; omega) _ rfl
  refine ⟨q, cap, W7, hr, ?_, ?_, ?_⟩
  · show W7.ownsRow _ _ _ _ (css ++ [cs]).length (css ++ [cs]).flatten
    have e : (css ++ [cs]).flatten = css.flatten ++ cs := by simp
    rw [e, List.length_append]
    exact hrow7
  · have h2 := Only.of_grown (F := fun i => v.ownBlock = some i) hgr (fun k hk => hk)
    exact (Only.of_below (F := fun i => v.ownBlock = some i) hb).trans h2 (fun _ _ h => h)
  · rcases hfr with e | e
    · left
      exact e
    · right; have hsz : (W.alloc (.cells cs.toArray 89)).heap.size = W.heap.size + 1 := by simp
      omega

set_option maxHeartbeats 4000000 in
set_option maxRecDepth 100000 in
theorem rdlist_ix {s : List UInt8} {q : Rq} {N : Nat} (hN : q.ba < N ∧ q.bh < N) {α : Type} {F : FuncId} (hF : Enters F) {r : Rd α} {R : Rep α} {RO : Rep (List α)} (hR : RdF s q N hN F r R) (EL : (Nat → Prop) → World → List (List Value) → List α → Prop)
    (hnil : ∀ X W, EL X W [] []) (hkeep : ∀ X W W' css l, EL X W css l → Keeps X W W' → EL X W' css l) (hweak : ∀ (X Y : Nat → Prop) W css l, EL X W css l → (∀ g, X g → g < W.heap.size → Y g) → EL Y W css l)
    (hpush : ∀ (X Y : Nat → Prop) W css l v x, EL X W css l → R Y W v x → (∀ g, Y g → g < W.heap.size → X g) → ∃ cs, v = .agg cs.toArray ∧ cs.length = 4 ∧ (∀ u ∈ cs, u.oneCell' = true) ∧ EL X W (css ++ [cs]) (l ++ [x]))
    (hro : ∀ X W v css l, RowT 4 X W v css → EL X W css l → RO X W v l)
    (w : World) (k : Nat) (b : Bool) (hk : k ≤ s.length) (h : RD s q N w k b) (HF : HasF w) (hnf : ¬rF q 0) :
    Calls Tryd.prog 100 #[.agg (rdC q).toArray, .func (.func F) #[] #[]] w (RdAny (pRdr s q N hN) s (rdL r) RO w k b) := by
  have hcall := hF
  have e2 := enters_r2
  have e5 := enters_r5
  unfold Enters at hcall e2 e5
  obtain ⟨W0, hW0⟩ : ∃ W0, W0 = w.alloc (.cells (rdC q).toArray 62) := ⟨_, rfl⟩
  have HR0 : RW (pRdr s q N hN) s w w [] k b := RW.new (Q := pRdr s q N hN) h hk
  have HR1 : Hid (RW (pRdr s q N hN) s w W0 [(w.heap.size, rdC q)] k b) := Lib.hid (by rw [hW0]; exact HR0.alloc (rdC q) _)
  have HS0 : Hid (W0.heap.size = w.heap.size + 1) := Lib.hid (by rw [hW0]; simp)
  have hW2 : w.alloc (.cells #[f2 q, f3 q, f4 q, f5 q] 62) = W0 := hW0.symm
  have HFW := Lib.hid HF
  have HNF := Lib.hid hnf
  have NR := Lib.hid (fun (K : Nat) (hK : wideB (K : Int) = true) => numR (s := s) (q := q) hN hK)
  have SH := Lib.hid (fun W k b h => shortR_any (s := s) (q := q) (N := N) W k b h)
  have HRR := Lib.hid hR
  have HNIL := Lib.hid hnil
  have HKEEP := Lib.hid hkeep
  have HWEAK := Lib.hid hweak
  have HPUSH := Lib.hid hpush
  have HRO := Lib.hid hro
  obtain ⟨c0, -, -, -⟩ := HR1.out.fns (q := q) (rb := w.heap.size) (by simp)
  have HNN := Lib.hid (show q.ba < N ∧ q.bh < N from hN)
  show Calls _ _ #[.agg #[f2 q, f3 q, f4 q, f5 q], .func (.func F) #[] #[]] w _
  clear hW0 HR0 h HF hnf hR hnil hkeep hweak hpush hro hF
  go_enter Tryd.func100, Tryd.ntmps100
  go_wp2_with fail
  refine (NR.out 2 rfl _ k b hk HR1.out.st).mono ?_
  rintro e W2 ⟨n, k1, b1, rfl, ho⟩
  have HR2 := Lib.hid (HR1.out.ok ho)
  have HN2 := Lib.hid ho.out
  have HSM : Hid (b1 = false → 0 ≤ n ∧ n ≤ 65535) := Lib.hid (fun hb => by subst hb; exact two_small ho.out)
  have HE0 := Lib.hid (HNIL.out (fun g => w.heap.size ≤ g ∧ (Value.slice none 0 0).ownBlock ≠ some g) W2)
  have HG0 := Lib.hid (GR.nil (w.heap.size + 1) 89 4 W2)
  clear ho HR1 c0 NR HNIL
  go_wp2
  go_loopw [5, 6] (fun vl vi wr => ∃ (l : List α) (css : List (List Value)) (j : Int) (k2 : Nat) (b2 : Bool) (p : Option Addr) (m c : Nat), vi = .int .i64 j ∧ vl = .slice p m c ∧ Hid (m = css.length) ∧ Hid (RW (pRdr s q N hN) s w wr [(w.heap.size, rdC q)] k2 b2) ∧ Hid (GR (w.heap.size + 1) 89 4 wr (.slice p m c) css) ∧ Hid (EL (fun g => w.heap.size ≤ g ∧ (Value.slice p m c).ownBlock ≠ some g) wr css l) ∧ Hid (Pro r s n.toNat k1 b1 l j.toNat k2 b2) ∧ Hid (b2 = false → 0 ≤ j ∧ (css.length : Int) + j ≤ 65535)) (fun _ vi _ => (intOf vi).toNat)
  case atStart => exact ⟨[], [], n, k1, b1, none, 0, 0, rfl, rfl, Lib.hid rfl, HR2, HG0, HE0, Lib.hid (Pro.start _ _ _ _ _), Lib.hid (fun hb => by have := HSM.out hb; simp; omega)⟩
  case round =>
    clear HR2 HE0 HG0
    obtain ⟨l, css, j, k2, b2, p, m, c, rfl, rfl, HM, HR, HG, HE, HP, HJ⟩ := hrel
    have HFIN : Hid (Out (rdM r n.toNat) s k1 b1 l k2 b2 → RdAny (pRdr s q N hN) s (rdL r) RO w k b (.returned (.slice p m c)) wr) := Lib.hid (fun hout => ⟨_, l, k2, b2, rfl,
      HRO.out _ _ _ _ _ ((HG.out.rowT).weaken (fun g hg _ => by have hg' : w.heap.size + 1 ≤ g := hg; show w.heap.size ≤ g; omega)) (HWEAK.out _ _ _ _ _ HE.out (fun g hg _ => hg.1)), HN2.out.bind hout, HR.out.st, HR.out.only⟩)
    by_cases hj : j > 0
    · have c3 := (HR.out.fns (q := q) (rb := w.heap.size) (by simp)).2.2.2
      have SHW := Lib.hid (SH.out wr k2 b2 HR.out.st)
      cases hb2 : b2 with
      | true =>
        rw [hb2] at SHW
        have HFF := Lib.hid (HFIN.out (by subst hb2; exact HP.out.short HR.out.le))
        clear HFIN HP hb2
        go_wp2_with fail
        refine SHW.out.mono ?_
        rintro e W3 ⟨rfl, rfl⟩
        clear SHW
        go_wp2
        go_ret
        exact HFF.out
      | false =>
        rw [hb2] at SHW
        have hjj := HJ.out hb2
        have HI := Lib.hid (r_info.trans (congrArg some (show 4 = (rdC q).length from rfl)))
        have HOWN := Lib.hid (HR.out.own (w.heap.size, rdC q) (by simp)).1
        have CF := Lib.hid (HRR.out wr k2 b2 HR.out.le HR.out.st (by
          refine ⟨?_, fun i hi => ?_, fun i hi => ?_⟩
          · have := HFW.out.lt; have := HR.out.only.size; omega
          · exact (World.cell?_of_block (a := ⟨_, _, none⟩) (HR.out.only.block _ HFW.out.lt (HNF.out))).trans (HFW.out.nm i hi)
          · exact (World.cell?_of_block (a := ⟨_, _, none⟩) (HR.out.only.block _ HFW.out.lt (HNF.out))).trans (HFW.out.sh i hi)))
        have hsub : IntKind.i64.wrap (j - 1) = j - 1 := IntWalk.i64_in _ (by omega)
        clear hsub
        obtain ⟨j', rfl⟩ : ∃ j' : Nat, j = (j' : Int) + 1 := ⟨(j - 1).toNat, by omega⟩
        have hsub : IntKind.i64.wrap ((j' : Int) + 1 - 1) = (j' : Int) := by rw [Int.add_sub_cancel]; exact IntWalk.i64_in _ (by omega)
        have hsub2 : IntKind.i64.wrap (j' : Int) = (j' : Int) := IntWalk.i64_in _ (by omega)
        have hjn : ((j' : Int) + 1).toNat = j' + 1 := by omega
        rw [hjn] at HP
        have HJJ := Lib.hid hjj
        clear HFIN hjn hjj
        go_wp2_with fail
        refine SHW.out.mono ?_
        rintro e W3 ⟨rfl, rfl⟩
        clear SHW
        go_wp2_with (refine wpList_load_mid rfl 62 (.tmp 2) rfl w.heap.size 0 rfl (rdC q) _ HOWN.out.cells Tryd.underlying62 rfl HI.out ?_)
        refine CF.out.mono ?_
        rintro e W4 ⟨v, x, k3, b3, ho⟩
        obtain rfl := ho.ret
        have hlow := HR.out.low
        have hws := HR.out.only.size
        have hlt : ∀ g, (Value.slice p m c).ownBlock = some g → w.heap.size + 1 ≤ g ∧ g < wr.heap.size := fun g hg => own_lo HG.out g hg
        have HR4 := Lib.hid (HR.out.ok ho)
        have HG4 := Lib.hid (HG.out.keep (W' := W4) (fun g hg => ho.only.block g (hlt g hg).2 (fun hf => by have := (pRdr s q N hN).lt g hf; have := (hlt g hg).1; have e : (pRdr s q N hN).N = N := rfl; omega)))
        have hE4 := HKEEP.out _ _ W4 _ _ HE.out ⟨ho.only.size, fun g hg hgl => ho.only.block g hgl (fun hf => by have := (pRdr s q N hN).lt g hf; have := hg.1; have e : (pRdr s q N hN).N = N := rfl; omega)⟩
        obtain ⟨cs, rfl, hl, h1, hE5⟩ := HPUSH.out _ _ _ _ _ _ _ hE4 ho.rep (fun g hg _ => ⟨Nat.le_trans hws hg, fun e => by have := (hlt g e).2; have hg' : wr.heap.size ≤ g := hg; omega⟩)
        have hm5 := HJJ.out.2
        obtain ⟨qq, cap, W7, hrun, hG7, hO7, hq7⟩ := app_ix HG4.out (by have := ho.only.size; have : w.heap.size < wr.heap.size := HOWN.out.lt; omega) hl h1 (by omega)
        rw [← HM.out] at hrun hG7
        have HR7 := Lib.hid (HR4.out.aside (B := w.heap.size + 1) hO7 (fun i hi => (hlt i hi).1) (by omega) (by simp))
        have hE7 := HKEEP.out _ _ W7 _ _ hE5 ⟨hO7.size, fun g hg hgl => hO7.block g hgl (fun hf => hg.2 hf)⟩
        have HE8 : Hid (EL (fun g => w.heap.size ≤ g ∧ (Value.slice (some ⟨qq, 0, none⟩) (m + 1) cap).ownBlock ≠ some g) W7 (css ++ [cs]) (l ++ [x])) := Lib.hid (HWEAK.out _ _ _ _ _ (HWEAK.out _ (fun g => (w.heap.size ≤ g ∧ (Value.slice p m c).ownBlock ≠ some g) ∧ g < W4.heap.size) _ _ _ hE5 (fun g hg hgl => ⟨hg, hgl⟩) |> fun hh => HKEEP.out _ _ W7 _ _ hh ⟨hO7.size, fun g hg hgl => hO7.block g hgl (fun hf => hg.1.2 hf)⟩) (fun g hg _ => ⟨hg.1.1, fun e => by
          have e' : qq = g := by cases e; rfl
          subst e'
          rcases hq7 with h7 | h7
          · exact hg.1.2 h7
          · omega⟩))
        have HG8 := Lib.hid hG7
        have HP8 := Lib.hid (HP.out.step ho.out)
        have HJ8 : Hid (b3 = false → 0 ≤ (j' : Int) ∧ ((css ++ [cs]).length : Int) + (j' : Int) ≤ 65535) := Lib.hid (fun hb => by
          rw [List.length_append]
          have := HJJ.out
          simp
          omega)
        have HM8 : Hid (m + 1 = (css ++ [cs]).length) := Lib.hid (by rw [List.length_append, HM.out]; rfl)
        have HL := Lib.hid hl
        clear ho HR HG HE HP HJ HR4 HG4 hE4 hE5 hG7 hO7 hq7 hE7 h1 hl hlt hws hlow CF hm5 HM
        go_wp2_with (first
          | (refine wpList_run rfl (exec_buildSlice 34 89 _ 32 4 cs W4 Tryd.underlying34 i3_ix rfl HL.out (by decide) (by decide) _ _ (.tmp 23) rfl (by kernel_rfl)) ?_)
          | (at_builtin; refine Lib.wpList_append_run _ rfl _ _ _ _ rfl _ _ rfl rfl _ _ hrun ?_))
        go_roundw
        case rel => exact ⟨l ++ [x], css ++ [cs], (j' : Int), k3, b3, some ⟨qq, 0, none⟩, m + 1, cap, by first | rfl | go_num, rfl, HM8, HR7, HG8, HE8, HP8, HJ8⟩
        case measure => simp [intOf]
    · have HFF := Lib.hid (HFIN.out (by
        have e : j.toNat = 0 := by omega
        have hp := HP.out
        rw [e] at hp
        exact hp.done HR.out.le))
      clear HFIN HP
      go_wp2
      go_ret
      exact HFF.out

end Go.Proofs.YtmloljfnnkfkjaaDoor.Im

