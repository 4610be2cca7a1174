/- The document's disk in memory; the walks of Zero and set: their contracts. No condition but those that each states. -/
import Derived.Test.YthddiijnomhpfaaDkM
namespace Go.Proofs.Ythddiijnomhpfaa.Dk
open Go.RowKit

def putc (p : Nat × Bytes) : List Value := [.int .i64 (p.1 : Int), .string (strOf p.2)]
def puts (W : List (Nat × Bytes)) : List Value := W.flatMap putc
theorem puts_push (W : List (Nat × Bytes)) (p : Nat × Bytes) : puts (W ++ [p]) = puts W ++ putc p := by unfold puts; rw [List.flatMap_append]; simp
theorem strs_one (l : List Bytes) : ∀ u ∈ strs l, u.oneCell' = true := by
  intro u hu
  unfold strs at hu
  obtain ⟨s, _, rfl⟩ := List.mem_map.1 hu
  rfl
theorem puts_one (W : List (Nat × Bytes)) : ∀ u ∈ puts W, u.oneCell' = true := by
  intro u hu
  unfold puts at hu
  obtain ⟨p, _, hp⟩ := List.mem_flatMap.1 hu
  simp [putc] at hp
  rcases hp with rfl | rfl <;> rfl
theorem strs_set (l : List Bytes) (i : Nat) (s : Bytes) : strs (l.set i s) = (strs l).set i (.string (strOf s)) := by
  unfold strs; rw [List.map_set]
theorem puts_at : ∀ {W : List (Nat × Bytes)} {j : Nat}, j < W.length → (puts W)[j * 2]? = some (.int .i64 ((wAt W j).1 : Int)) ∧ (puts W)[j * 2 + 1]? = some (.string (strOf (wAt W j).2))
  | [], _, h => absurd h (Nat.not_lt_zero _)
  | p :: W, 0, _ => ⟨rfl, rfl⟩
  | p :: W, j + 1, h => by
    have := puts_at (W := W) (j := j) (by simpa using h)
    show (putc p ++ puts W)[(j + 1) * 2]? = _ ∧ (putc p ++ puts W)[(j + 1) * 2 + 1]? = _
    rw [List.getElem?_append_right (by simp [putc]; omega), List.getElem?_append_right (by simp [putc]; omega)]
    simp only [putc, List.length_cons, List.length_nil]
    rw [show (j + 1) * 2 - (0 + 1 + 1) = j * 2 by omega, show (j + 1) * 2 + 1 - (0 + 1 + 1) = j * 2 + 1 by omega]
    exact this

/-- The cells of the document's disk. -/
def rcells (vl vw : Value) (S : DS) (a m : Nat) : List Value := [vl, vw, .bool (!S.on), .int .i64 (S.ops : Int), .bool S.next.isSome, .int .i64 (a : Int), .int .u64 (m : Int)]

/-- Block r is the document's disk in the state S. -/
structure RefIn (w : World) (r : Nat) (vl vw : Value) (a m : Nat) (S : DS) : Prop where
  cells : w.rangeAt r 0 (rcells vl vw S a m)
  room : w.there r 0 7
  rowL : w.ownsRow 0 9 1 vl S.L.length (strs S.L)
  rowW : w.ownsRow 0 75 2 vw S.W.length (puts S.W)
  plan : ∀ k q, S.next = some (k, q) → a = k ∧ m = q
  size : a < 2 ^ 63 ∧ m < 2 ^ 64
  ok : S.Ok
  lt : r < w.heap.size
  bl : ∀ b, vl.ownBlock = some b → b < w.heap.size ∧ b ≠ r ∧ vw.ownBlock ≠ some b
  bw : ∀ b, vw.ownBlock = some b → b < w.heap.size ∧ b ≠ r

def RefAt (w : World) (F : Nat → Prop) (r : Nat) (S : DS) : Prop := ∃ vl vw a m, RefIn w r vl vw a m S ∧ F r ∧ (∀ b, vl.ownBlock = some b → F b) ∧ ∀ b, vw.ownBlock = some b → F b

theorem RefIn.cell {w : World} {r : Nat} {vl vw : Value} {a m : Nat} {S : DS} (h : RefIn w r vl vw a m S) {i : Nat} {v : Value} (e : (rcells vl vw S a m)[i]? = some v) : w.cell? ⟨r, i, none⟩ = some v := by
  have := h.cells i v e; rwa [Nat.zero_add] at this
theorem RefIn.free {w : World} {r : Nat} {vl vw : Value} {a m : Nat} {S : DS} (h : RefIn w r vl vw a m S) (i : Nat) (hi : i < 7) : w.frozen? ⟨r, i, none⟩ = false := by
  have := (h.room i hi).2; rwa [Nat.zero_add] at this

theorem RefIn.formL {w : World} {r : Nat} {vl vw : Value} {a m : Nat} {S : DS} (h : RefIn w r vl vw a m S) : ∃ g c, vl = .slice (some ⟨g, 0, none⟩) S.L.length c := by
  rcases h.rowL.2 with ⟨_, h0⟩ | ⟨g, c, cur, e, _⟩
  · have := h.ok.lo; omega
  · exact ⟨g, c, e⟩
theorem RefIn.formW {w : World} {r : Nat} {vl vw : Value} {a m : Nat} {S : DS} (h : RefIn w r vl vw a m S) : ∃ p c, vw = .slice p S.W.length c ∧ (0 < S.W.length → ∃ g, p = some ⟨g, 0, none⟩) := by
  rcases h.rowW.2 with ⟨e, h0⟩ | ⟨g, c, cur, e, _⟩
  · exact ⟨none, 0, by rw [e, h0], fun h => by omega⟩
  · exact ⟨_, c, e, fun _ => ⟨g, rfl⟩⟩

theorem RefIn.of_blocks {w w' : World} {r : Nat} {vl vw : Value} {a m : Nat} {S : DS} (h : RefIn w r vl vw a m S) (hr : w'.heap[r]? = w.heap[r]?) (hl : ∀ b, vl.ownBlock = some b → w'.heap[b]? = w.heap[b]?) (hw : ∀ b, vw.ownBlock = some b → w'.heap[b]? = w.heap[b]?) (hs : w.heap.size ≤ w'.heap.size) : RefIn w' r vl vw a m S :=
  ⟨rangeAt_block h.cells hr, there_block h.room hr, ownsRow_block h.rowL hl, ownsRow_block h.rowW hw, h.plan, h.size, h.ok, Nat.lt_of_lt_of_le h.lt hs, fun b hb => ⟨Nat.lt_of_lt_of_le (h.bl b hb).1 hs, (h.bl b hb).2⟩, fun b hb => ⟨Nat.lt_of_lt_of_le (h.bw b hb).1 hs, (h.bw b hb).2⟩⟩

theorem RefIn.below {w w' : World} {r : Nat} {vl vw : Value} {a m : Nat} {S : DS} (h : RefIn w r vl vw a m S) (k : Below w.heap.size w w') : RefIn w' r vl vw a m S :=
  h.of_blocks (k.block r h.lt) (fun b hb => k.block b (h.bl b hb).1) (fun b hb => k.block b (h.bw b hb).1) k.size

theorem RefAt.kept {w w' : World} {F G : Nat → Prop} {r : Nat} {S : DS} (h : RefAt w F r S) (k : Only G w w') (hFG : ∀ i, F i → G i → False) : RefAt w' F r S := by
  obtain ⟨vl, vw, a, m, h, h1, h2, h3⟩ := h
  exact ⟨vl, vw, a, m, h.of_blocks (k.block r h.lt (hFG r h1)) (fun b hb => k.block b (h.bl b hb).1 (hFG b (h2 b hb))) (fun b hb => k.block b (h.bw b hb).1 (hFG b (h3 b hb))) k.size, h1, h2, h3⟩
theorem RefAt.below {w w' : World} {F : Nat → Prop} {r : Nat} {S : DS} (h : RefAt w F r S) (k : Below w.heap.size w w') : RefAt w' F r S := h.kept (G := fun _ => False) (Only.of_below k) (fun _ _ e => e)
theorem RefAt.tight {w : World} {F : Nat → Prop} {r : Nat} {S : DS} (h : RefAt w F r S) : RefAt w (fun k => F k ∧ k < w.heap.size) r S := by
  obtain ⟨vl, vw, a, m, h, h1, h2, h3⟩ := h
  exact ⟨vl, vw, a, m, h, ⟨h1, h.lt⟩, fun b hb => ⟨h2 b hb, (h.bl b hb).1⟩, fun b hb => ⟨h3 b hb, (h.bw b hb).1⟩⟩
theorem RefAt.mono {w : World} {F G : Nat → Prop} {r : Nat} {S : DS} (h : RefAt w F r S) (hFG : ∀ k, F k → G k) : RefAt w G r S := by
  obtain ⟨vl, vw, a, m, h, h1, h2, h3⟩ := h
  exact ⟨vl, vw, a, m, h, hFG _ h1, fun b hb => hFG _ (h2 b hb), fun b hb => hFG _ (h3 b hb)⟩

/-- One of its own cells is set; its rows stay. -/
theorem RefIn.put {w : World} {r : Nat} {vl vw : Value} {a m : Nat} {S : DS} (h : RefIn w r vl vw a m S) (i : Nat) (hi : i < 7) (v : Value) {a' m' : Nat} {T : DS} (e : (rcells vl vw S a m).set i v = rcells vl vw T a' m')
    (hL : T.L = S.L) (hW : T.W = S.W) (hok : T.Ok) (hp : ∀ k q, T.next = some (k, q) → a' = k ∧ m' = q) (hsz : a' < 2 ^ 63 ∧ m' < 2 ^ 64) : RefIn (w.setCell ⟨r, i, none⟩ v) r vl vw a' m' T := by
  have hlen : (rcells vl vw S a m).length = 7 := rfl
  have hb : ∀ b, b ≠ r → (w.setCell ⟨r, i, none⟩ v).heap[b]? = w.heap[b]? := fun b hb => Below.heap_setCell _ _ _ _ hb
  refine ⟨fun j u hu => ?_, there_setCell h.room _ _, ?_, ?_, hp, hsz, hok, by simpa using h.lt, fun b hb => by simpa using h.bl b hb, fun b hb => by simpa using h.bw b hb⟩
  · rw [← e, List.getElem?_set] at hu
    rw [Nat.zero_add]
    by_cases hij : i = j
    · subst hij
      rw [if_pos rfl, if_pos (by omega)] at hu
      cases hu
      exact World.cell?_setCell_same _ _ _ (h.cell (List.getElem?_eq_getElem (by omega)))
    · rw [if_neg hij] at hu
      rw [World.cell?_setCell_other _ _ _ _ (by intro e'; simp at e'; first | done | exact hij e')]
      exact h.cell hu
  · rw [hL]; exact ownsRow_block h.rowL (fun b hb' => hb b (h.bl b hb').2.1)
  · rw [hW]; exact ownsRow_block h.rowW (fun b hb' => hb b (h.bw b hb').2)

/-- Its row of texts is another one. -/
theorem RefIn.putL {w : World} {r : Nat} {vl vw : Value} {a m : Nat} {S : DS} (h : RefIn w r vl vw a m S) {v : Value} {T : DS} (e : (rcells vl vw S a m).set 0 v = rcells v vw T a m)
    (hr : w.ownsRow 0 9 1 v T.L.length (strs T.L)) (hv : ∀ b, v.ownBlock = some b → b < w.heap.size ∧ b ≠ r ∧ vw.ownBlock ≠ some b) (hW : T.W = S.W) (hok : T.Ok) (hn : T.next = S.next) : RefIn (w.setCell ⟨r, 0, none⟩ v) r v vw a m T := by
  have hb : ∀ b, b ≠ r → (w.setCell ⟨r, 0, none⟩ v).heap[b]? = w.heap[b]? := fun b hb => Below.heap_setCell _ _ _ _ hb
  refine ⟨fun j u hu => ?_, there_setCell h.room _ _, ownsRow_block hr (fun b hb' => hb b (hv b hb').2.1), ?_, fun k q hq => h.plan k q (hn ▸ hq), h.size, hok, by simpa using h.lt, fun b hb => by simpa using hv b hb, fun b hb => by simpa using h.bw b hb⟩
  · rw [← e, List.getElem?_set] at hu
    rw [Nat.zero_add]
    by_cases hij : 0 = j
    · subst hij
      rw [if_pos rfl, if_pos (show 0 < (rcells vl vw S a m).length from Nat.zero_lt_succ _)] at hu
      cases hu
      exact World.cell?_setCell_same _ _ _ (h.cell rfl)
    · rw [if_neg hij] at hu
      rw [World.cell?_setCell_other _ _ _ _ (by intro e'; simp at e'; first | done | omega)]
      exact h.cell hu
  · rw [hW]; exact ownsRow_block h.rowW (fun b hb' => hb b (h.bw b hb').2)

/-- Its row of writes is another one. -/
theorem RefIn.putW {w : World} {r : Nat} {vl vw : Value} {a m : Nat} {S : DS} (h : RefIn w r vl vw a m S) {v : Value} {T : DS} (e : (rcells vl vw S a m).set 1 v = rcells vl v T a m)
    (hr : w.ownsRow 0 75 2 v T.W.length (puts T.W)) (hv : ∀ b, v.ownBlock = some b → b < w.heap.size ∧ b ≠ r ∧ vl.ownBlock ≠ some b) (hL : T.L = S.L) (hok : T.Ok) (hn : T.next = S.next) : RefIn (w.setCell ⟨r, 1, none⟩ v) r vl v a m T := by
  have hb : ∀ b, b ≠ r → (w.setCell ⟨r, 1, none⟩ v).heap[b]? = w.heap[b]? := fun b hb => Below.heap_setCell _ _ _ _ hb
  refine ⟨fun j u hu => ?_, there_setCell h.room _ _, ?_, ownsRow_block hr (fun b hb' => hb b (hv b hb').2.1), fun k q hq => h.plan k q (hn ▸ hq), h.size, hok, by simpa using h.lt, fun b hb => ?_, fun b hb => by have := hv b hb; exact ⟨by simpa using this.1, this.2.1⟩⟩
  · rw [← e, List.getElem?_set] at hu
    rw [Nat.zero_add]
    by_cases hij : 1 = j
    · subst hij
      rw [if_pos rfl, if_pos (show 1 < (rcells vl vw S a m).length from Nat.succ_lt_succ (Nat.zero_lt_succ _))] at hu
      cases hu
      exact World.cell?_setCell_same _ _ _ (h.cell rfl)
    · rw [if_neg hij] at hu
      rw [World.cell?_setCell_other _ _ _ _ (by intro e'; simp at e'; first | done | omega)]
      exact h.cell hu
  · rw [hL]; exact ownsRow_block h.rowL (fun b hb' => hb b (h.bl b hb').2.1)
  · have := h.bl b hb
    exact ⟨by simpa using this.1, this.2.1, fun e => (hv b e).2.2 hb⟩

theorem str_info2 : (Try.prog.info? 9).map (fun i => (i.zero, i.size, i.bytes)) = some (some (.string ByteArray.empty), 1, 16) := by kernel_rfl
theorem put_info : (Try.prog.info? 75).map (fun i => (i.zero, i.size, i.bytes)) = some (some (.agg #[.int .i64 0, .string ByteArray.empty]), 2, 24) := by kernel_rfl

theorem row_put {w : World} {t : TypeId} {g n c : Nat} {xs : List Value} (h : w.ownsRow 0 t 1 (.slice (some ⟨g, 0, none⟩) n c) n xs) (i : Nat) (_hi : i < n) (u : Value) : (w.setCell ⟨g, i, none⟩ u).ownsRow 0 t 1 (.slice (some ⟨g, 0, none⟩) n c) n (xs.set i u) := by
  refine ⟨by rw [List.length_set]; exact h.1, ?_⟩
  rcases h.2 with ⟨e, _⟩ | ⟨g1, c1, cur, e, h1, h2, h3, h4, h5, h6⟩
  · cases e
  · cases e
    refine .inr ⟨g, c, cur.setIfInBounds i u, rfl, h1, heap_setCell_same w g i cur t u h2, h3, h4, by simpa using h5, ?_⟩
    rw [← h6, Array.toList_setIfInBounds, List.take_set]

set_option maxHeartbeats 1000000 in
theorem ref_set (g n c i : Nat) (l : List Bytes) (s : Bytes) (w : World) (hr : w.ownsRow 0 9 1 (.slice (some ⟨g, 0, none⟩) n c) n (strs l)) (_hg : g < w.heap.size) (hn : 0 < n) (hn2 : n ≤ 512) (hi : i < n) (hl : l.length = n) :
    Calls Try.prog 45 #[.slice (some ⟨g, 0, none⟩) n c, .int .i64 (i : Int), .string (strOf s)] w fun e w' => ∃ g' c', e = .returned (.slice (some ⟨g', 0, none⟩) n c') ∧ Below w.heap.size w w' ∧ w.heap.size ≤ g' ∧ g' < w'.heap.size ∧ w'.ownsRow 0 9 1 (.slice (some ⟨g', 0, none⟩) n c') n (strs (l.set i s)) := by
  obtain ⟨i0, hi0, hy0, hy1, hy2⟩ := info_parts str_info2
  have HR := Lib.hid hr
  have HNEW : Hid (∀ j u, (strs l)[j]? = some u → w.cell? ((⟨g, 0, none⟩ : Addr).add j) = some u) := Lib.hid (fun j u hu => hr.cells (g := g) rfl j u hu)
  have HNIL : Hid (w.ownsRow 0 9 1 (.slice none 0 0) 0 []) := Lib.hid (World.ownsRow_nil _ _ _ _)
  have HLEN : Hid ((strs l).length = n * 1) := Lib.hid (by simp [strs, hl])
  have z0 : (0 : Int) ≤ (i : Int) := by omega
  have z1 : (i : Int) < (n : Int) := by omega
  clear hr
  go_enter Try.func45, Try.ntmps45
  go_wp2_with (first
    | (refine wpList_append_lies _ rfl _ _ 36 rfl 0 9 i0 (.string ByteArray.empty) 1 16 Try.underlying36 hi0 hy0 hy1 hy2 rfl (by decide) (.slice none 0 0) 0 [] rfl HNIL.out ⟨g, 0, none⟩ n c (strs l) rfl HLEN.out HNEW.out (strs_one l) hn (by unfold maxLen; omega) (by omega) (Nat.zero_le _) w.heap.size rfl ?_; intro g' cap W7 hrow hgr hgl hlt7
       rw [Nat.zero_add, List.nil_append] at hrow
       have hgg : g' = w.heap.size := hgl.elim (fun e => by cases e) id
       have hbel : Below w.heap.size w W7 := below_grown hgr (fun k e => by cases e) (Nat.le_refl _)
       have ci : W7.cell? ⟨g', i, none⟩ = some ((strs l).getD i undef) := by
         rw [hrow.cellAt i (by omega), List.getD_eq_getElem?_getD, List.getElem?_eq_getElem (by simp [strs]; omega)]; rfl
       have fi : W7.frozen? ⟨g', i, none⟩ = false := by
         rcases hrow.2 with ⟨h, _⟩ | ⟨g1, c1, cur, h, _, hg1, _⟩
         · cases h
         · cases h; exact frozen_of_row W7 g' i _ _ hg1
       have HF : Hid (Below w.heap.size w (W7.setCell ⟨g', i, none⟩ (.string (strOf s))) ∧ w.heap.size ≤ g' ∧ g' < (W7.setCell ⟨g', i, none⟩ (.string (strOf s))).heap.size ∧ (W7.setCell ⟨g', i, none⟩ (.string (strOf s))).ownsRow 0 9 1 (.slice (some ⟨g', 0, none⟩) n cap) n (strs (l.set i s))) := Lib.hid ⟨hbel.setCell (by show w.heap.size ≤ g'; omega) _, by omega, by simpa using hlt7, by
         rw [strs_set]; exact row_put hrow i hi _⟩
       clear hgr hgl hlt7 hbel hgg))
  go_ret
  exact ⟨_, _, rfl, HF.out⟩

end Go.Proofs.Ythddiijnomhpfaa.Dk
