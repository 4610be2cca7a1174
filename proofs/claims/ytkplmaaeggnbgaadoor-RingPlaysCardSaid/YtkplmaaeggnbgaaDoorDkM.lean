/- Facts on disks and memory that several laws share; no walk. No condition but those that each states. -/
import Derived.Test.YtkplmaaeggnbgaaDoorDkK
namespace Go.Proofs.YtkplmaaeggnbgaaDoor.Dk
open Go.RowKit

theorem step_more {S : DS} {k m : Nat} (h : S.next = some (k + 1, m)) : S.step = (S.tick.plan k m, true) := by unfold DS.step; rw [h]

theorem step_cut {S : DS} {m : Nat} (h : S.next = some (0, m)) : S.step = (({ S.tick with next := none } : DS).lose m, false) := by unfold DS.step; rw [h]

theorem lose_len (S : DS) (m : Nat) : (S.lose m).L.length = S.L.length := stl_length _ _ _ _

theorem settled_len (S : DS) (m : Nat) : (S.settled m).L.length = S.L.length := stl_length _ _ _ _

theorem step_none {S : DS} (h : S.next = none) : S.step = (S.tick, true) := by unfold DS.step; rw [h]

theorem write_none {S : DS} (h : S.next = none) (a : Nat) (s : Bytes) : S.write a s = ((S.put a s).tick, true) := step_none (S := S.put a s) h

theorem stl_app (m : Nat) (W V : List (Nat × Bytes)) (L : List Bytes) : ∀ k, k ≤ W.length → stl m (W ++ V) L k = stl m W L k
  | 0, _ => rfl
  | k + 1, hk => by
    unfold stl
    rw [wAt_app_lt (by omega), stl_app m W V L k (by omega)]

theorem stl_put (m : Nat) (W : List (Nat × Bytes)) (L : List Bytes) (a : Nat) (s : Bytes) : stl m (W ++ [(a, s)]) L (W.length + 1) = if bit m W.length then (stl m W L W.length).set a s else stl m W L W.length := by
  show (if bit m W.length then (stl m (W ++ [(a, s)]) L W.length).set (wAt (W ++ [(a, s)]) W.length).1 (wAt (W ++ [(a, s)]) W.length).2 else stl m (W ++ [(a, s)]) L W.length) = _
  rw [wAt_app_eq, stl_app m W _ L _ (Nat.le_refl _)]

/-- All blocks since w but A. -/
def NotA (w : World) (A : Nat) : Nat → Prop := fun k => w.heap.size ≤ k ∧ k ≠ A

theorem Dk.setA {w w' : World} {A g k : Nat} {S : DS} (h : Dk w w' (NotA w A) g S) (hA : w.heap.size ≤ A) (v : Value) : Dk w (w'.setCell ⟨A, k, none⟩ v) (NotA w A) g S :=
  ⟨h.here.kept (G := fun i => i = A) ((Only.refl (fun i => i = A) w').setCell ⟨A, k, none⟩ rfl v) (fun i h1 h2 => h1.2 h2), h.below.setCell hA v, h.lo, fun i hi => h.new i (by simpa using hi)⟩

/-- The array is laid behind a new disk. -/
theorem Dk.array {w w1 : World} {g : Nat} {S : DS} (h : Dk w w1 (fun k => w.heap.size ≤ k) g S) (o : Obj) : Dk w (w1.alloc o) (NotA w w1.heap.size) g S := by
  have ht := h.here.tight
  refine ⟨(ht.mono (G := NotA w w1.heap.size) (fun k hk => ⟨hk.1, by have := hk.2; omega⟩)).below ((Below.refl _ _).alloc (Nat.le_refl _) _), chain2 h.below ((Below.refl _ _).alloc (Nat.le_refl _) _), fun k hk => hk.1, fun k hk => ?_⟩
  simp at hk
  have := h.below.size
  exact ⟨by omega, by omega⟩

theorem bAt_rep (n : Nat) (x : Bytes) {k : Nat} (h : k < n) : bAt (List.replicate n x) k = x := by
  unfold bAt; rw [List.getD_eq_getElem?_getD, List.getElem?_replicate, if_pos h]; rfl

theorem eql_slice_nil {P : Program} (t e : TypeId) (a : Option Addr) (l c : Nat) (h : P.underlying t = some (.slice e)) (w : World) : (binOp .eql t (.slice a l c) (.slice none 0 0)).run P w = .ok (.bool a.isNone) w := by
  have h1 : ∀ d, (Op.equalIn (d + 1) t (.slice a l c) (.slice none 0 0)).run P w = .ok a.isNone w := fun d => by
    cases a <;> simp [Op.equalIn, run_underlying h]
  simp only [binOp]
  simp [show Op.equal t (.slice a l c) (.slice none 0 0) = Op.equalIn (9999 + 1) t (.slice a l c) (.slice none 0 0) from rfl, h1 9999]

theorem build_none {P : Program} (t e : TypeId) (z : Value) (size bytes : Nat) (hu : P.underlying t = some (.slice e)) (hinfo : (P.info? e).map (fun i => (i.zero, i.size, i.bytes)) = some (some z, size, bytes)) (_hz : z.cells.size = size) (h0 : 0 < size) (h1 : size ≤ 16777216) (W : World) :
    (Instr.buildSlice t 0 #[]).run P W = .ok (.slice (some ⟨W.heap.size, 0, none⟩) 0 0) (W.alloc (.cells #[] e)) := by
  obtain ⟨i, hi, hz0, hs, hb⟩ := info_parts hinfo
  have hn0 : ¬ size = 0 := by omega
  have hne : ¬ (16777216 < size) := by omega
  simp [Instr.buildSlice, run_underlying hu, sizeOf, typeInfo, hi, Instr.fill, newRow, go_sem]

theorem append_empty {P : Program} {w : World} (base : Nat) (t ty e : TypeId) (i : TypeInfo) (size : Nat) (ht : P.underlying t = some (.slice e)) (hi : P.info? e = some i)
    (v : Value) (n : Nat) (xs : List Value) (hown : w.ownsRow base e size v n xs) (a : Addr) (c : Nat) :
    (Builtin.append_ #[t, t] ty #[v, .slice (some a) 0 c]).run P w = .ok v w := by
  rcases hown.2 with ⟨rfl, rfl⟩ | ⟨g, cap, cur, rfl, _, _, hnc, _⟩
  · simp [Builtin.append_, run_underlying ht, sizeOf, typeInfo, hi, Builtin.lenOf, Builtin.firstCells, loadCells, loadCellsFrom]
  · simp [Builtin.append_, run_underlying ht, sizeOf, typeInfo, hi, Builtin.lenOf, Builtin.firstCells, hnc, storeCells, loadCells, loadCellsFrom]

theorem below_grown {B : Nat} {w w' : World} {row : Option Nat} (h : w.grownBy w' row) (hr : ∀ k, row = some k → B ≤ k) (hB : B ≤ w.heap.size) : Below B w w' :=
  ⟨h.os, h.tape, h.output, h.size, fun k hk => h.block k (by omega) (fun e => by have := hr k e.symm; omega)⟩

theorem wpList_append_empty {P : Program} {w : World} {ops : Array Oper} {rest : List Oper} {o : Oper} {a : Act} {Q : Exit → Act → World → Prop} (hgd : o.guard = none) (s x : Operand) (t : TypeId)
    (ho : o.op = .call { callee := .builtin .append, args := #[s, x], argTypes := #[t, t] })
    (base : Nat) (e : TypeId) (i : TypeInfo) (size : Nat) (ht : P.underlying t = some (.slice e)) (hi : P.info? e = some i)
    (v : Value) (n : Nat) (xs : List Value) (hs : a.eval s = v) (hown : w.ownsRow base e size v n xs) (ad : Addr) (c : Nat) (hx : a.eval x = .slice (some ad) 0 c)
    (h : wpList P ops Q rest (a.put o.dst v) w) : wpList P ops Q (o :: rest) a w := by
  refine wpList_plain hgd fun K hK => ?_
  have hrun := append_empty (P := P) (w := w) base t o.type e i size ht hi v n xs hown ad c
  unfold Oper.wp
  simp [execOp, ho, resolve, invoke, builtin, hs, hx, hrun, Result.andThen]
  exact hK _ _ h

def cnt (n : Int) (m : Nat) : Int := (if n < 0 then -(n + 1) else n) % (m : Int)

theorem cnt_lt (n : Int) (m : Nat) (hm : 0 < m) : 0 ≤ cnt n m ∧ cnt n m < m := by
  unfold cnt
  exact ⟨Int.emod_nonneg _ (by omega), Int.emod_lt_of_pos _ (by omega)⟩

theorem wf_i64 {n : Int} (h : (Lit.int .i64 n).wf = true) : -9223372036854775808 ≤ n ∧ n ≤ 9223372036854775807 := by
  simp [Lit.wf, IntKind.min, IntKind.max, IntKind.signed, IntKind.bits] at h; omega

theorem bit_all (j : Nat) : bit allM j = true := by
  have h : ∀ r, r < 64 → (allM / 2 ^ r % 2 == 1) = true := by decide
  exact h (j % 64) (Nat.mod_lt _ (by decide))

theorem bit_zero (j : Nat) : bit 0 j = false := by unfold bit; simp

theorem stl_zero (W : List (Nat × Bytes)) (L : List Bytes) : ∀ k, stl 0 W L k = L
  | 0 => rfl
  | k + 1 => by unfold stl; rw [if_neg (by rw [bit_zero]; decide)]; exact stl_zero W L k

theorem stl_or (m : Nat) (W : List (Nat × Bytes)) (L : List Bytes) (i : Nat) : ∀ n, bAt (stl m W L n) i = bAt L i ∨ ∃ j, j < n ∧ (wAt W j).1 = i ∧ bAt (stl m W L n) i = (wAt W j).2
  | 0 => .inl rfl
  | n + 1 => by
    unfold stl
    have ih := stl_or m W L i n
    split
    · rw [bAt_set]
      split
      · rename_i h
        exact .inr ⟨n, Nat.lt_succ_self _, h.1.symm, rfl⟩
      · exact ih.imp id (fun ⟨j, h1, h2⟩ => ⟨j, by omega, h2⟩)
    · exact ih.imp id (fun ⟨j, h1, h2⟩ => ⟨j, by omega, h2⟩)

theorem read_put (T : DS) (k : Nat) (s : Bytes) : (T.put k s).tick.read k = s := by
  unfold DS.read DS.readUpto
  show (match lastUpto (T.W ++ [(k, s)]) k (T.W ++ [(k, s)]).length with | some j => (wAt (T.W ++ [(k, s)]) j).2 | none => bAt T.L k) = s
  have h := lastIx_put T.W k k s
  unfold lastIx at h
  rw [h, if_pos rfl]
  show (wAt (T.W ++ [(k, s)]) T.W.length).2 = s
  rw [wAt_app_eq]

def strs (l : List Bytes) : List Value := l.map (fun s => .string (strOf s))

theorem strs_push (l : List Bytes) (s : Bytes) : strs (l ++ [s]) = strs l ++ [.string (strOf s)] := by simp [strs]

/-- A disk beside blocks that are none of its own. -/
theorem Dk.shrink {w W W' : World} {F G : Nat → Prop} {g : Nat} {S : DS} (h : Dk w W F g S) (k : Only G W W') (hG : ∀ j, F j → G j → False) (hlo : ∀ j, G j → w.heap.size ≤ j) : Dk w W' (fun j => F j ∧ (j < W.heap.size ∨ W'.heap.size ≤ j)) g S :=
  ⟨(h.here.tight.kept (G := G) k (fun i h1 h2 => hG i h1.1 h2)).mono (fun _ e => ⟨e.1, .inl e.2⟩), k.below h.below hlo (Nat.le_refl _), fun j e => h.lo j e.1, fun j hj => ⟨h.new j (Nat.le_trans k.size hj), .inr hj⟩⟩

theorem u8_nat {z : Int} (h : (Lit.int .u8 z).wf = true) : 0 ≤ z ∧ z < 256 := by
  simp [Lit.wf, IntKind.min, IntKind.max, IntKind.signed, IntKind.bits] at h; omega

theorem u64_nat {m : Int} (h : (Lit.int .u64 m).wf = true) : ∃ n : Nat, m = n ∧ n < 2 ^ 64 := by
  have m1 : 0 ≤ m ∧ m < 18446744073709551616 := by simp [Lit.wf, IntKind.min, IntKind.max, IntKind.signed, IntKind.bits] at h; omega
  obtain ⟨n, rfl⟩ := Int.eq_ofNat_of_zero_le m1.1
  exact ⟨n, rfl, by omega⟩

end Go.Proofs.YtkplmaaeggnbgaaDoor.Dk
