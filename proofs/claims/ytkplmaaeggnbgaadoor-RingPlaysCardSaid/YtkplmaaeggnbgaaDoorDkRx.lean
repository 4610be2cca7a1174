/- The document's disk in memory; the walks of Zero and set: their contracts. The walks of the document's Read and Cut: their contracts. The walks of the document's Fail, cut, Sync and Write: their contracts. The walk of the document's cut, and of Fail without power: their contracts. The walk of the document's Sync: its contract. The walk of the document's Write: its contracts. The walks of the document's Write with a bad argument, and of Zero: their contracts. The walks of the document's Sync without power, and of its New: their contracts. No condition but those that each states. -/
import Derived.Test.YtkplmaaeggnbgaaDoorDkM
import Derived.Deep.RegionLaw
namespace Go.Proofs.YtkplmaaeggnbgaaDoor.Dk
open Go.RowKit

def putc (p : Nat × Bytes) : List Value := [.int .i64 (p.1 : Int), .string (strOf p.2)]
def puts (W : List (Nat × Bytes)) : List Value := W.flatMap putc
theorem puts_push (W : List (Nat × Bytes)) (p : Nat × Bytes) : puts (W ++ [p]) = puts W ++ putc p := by unfold puts; rw [List.flatMap_append]; simp
theorem strs_one (l : List Bytes) : ∀ u ∈ strs l, u.oneCell' = true := by
  intro u hu
  unfold strs at hu
  obtain ⟨s, _, rfl⟩ := List.mem_map.1 hu
  rfl
theorem puts_one (W : List (Nat × Bytes)) : ∀ u ∈ puts W, u.oneCell' = true := by
  intro u hu
  unfold puts at hu
  obtain ⟨p, _, hp⟩ := List.mem_flatMap.1 hu
  simp [putc] at hp
  rcases hp with rfl | rfl <;> rfl
theorem strs_set (l : List Bytes) (i : Nat) (s : Bytes) : strs (l.set i s) = (strs l).set i (.string (strOf s)) := by
  unfold strs; rw [List.map_set]
theorem puts_at : ∀ {W : List (Nat × Bytes)} {j : Nat}, j < W.length → (puts W)[j * 2]? = some (.int .i64 ((wAt W j).1 : Int)) ∧ (puts W)[j * 2 + 1]? = some (.string (strOf (wAt W j).2))
  | [], _, h => absurd h (Nat.not_lt_zero _)
  | p :: W, 0, _ => ⟨rfl, rfl⟩
  | p :: W, j + 1, h => by
    have := puts_at (W := W) (j := j) (by simpa using h)
    show (putc p ++ puts W)[(j + 1) * 2]? = _ ∧ (putc p ++ puts W)[(j + 1) * 2 + 1]? = _
    rw [List.getElem?_append_right (by simp [putc]; omega), List.getElem?_append_right (by simp [putc]; omega)]
    simp only [putc, List.length_cons, List.length_nil]
    rw [show (j + 1) * 2 - (0 + 1 + 1) = j * 2 by omega, show (j + 1) * 2 + 1 - (0 + 1 + 1) = j * 2 + 1 by omega]
    exact this

/-- The cells of the document's disk. -/
def rcells (vl vw : Value) (S : DS) (a m : Nat) : List Value := [vl, vw, .bool (!S.on), .int .i64 (S.ops : Int), .bool S.next.isSome, .int .i64 (a : Int), .int .u64 (m : Int)]

/-- Block r is the document's disk in the state S. -/
structure RefIn (w : World) (r : Nat) (vl vw : Value) (a m : Nat) (S : DS) : Prop where
  cells : w.rangeAt r 0 (rcells vl vw S a m)
  room : w.there r 0 7
  rowL : w.ownsRow 0 9 1 vl S.L.length (strs S.L)
  rowW : w.ownsRow 0 111 2 vw S.W.length (puts S.W)
  plan : ∀ k q, S.next = some (k, q) → a = k ∧ m = q
  size : a < 2 ^ 63 ∧ m < 2 ^ 64
  ok : S.Ok
  lt : r < w.heap.size
  bl : ∀ b, vl.ownBlock = some b → b < w.heap.size ∧ b ≠ r ∧ vw.ownBlock ≠ some b
  bw : ∀ b, vw.ownBlock = some b → b < w.heap.size ∧ b ≠ r

def RefAt (w : World) (F : Nat → Prop) (r : Nat) (S : DS) : Prop := ∃ vl vw a m, RefIn w r vl vw a m S ∧ F r ∧ (∀ b, vl.ownBlock = some b → F b) ∧ ∀ b, vw.ownBlock = some b → F b

theorem RefIn.cell {w : World} {r : Nat} {vl vw : Value} {a m : Nat} {S : DS} (h : RefIn w r vl vw a m S) {i : Nat} {v : Value} (e : (rcells vl vw S a m)[i]? = some v) : w.cell? ⟨r, i, none⟩ = some v := by
  have := h.cells i v e; rwa [Nat.zero_add] at this
theorem RefIn.free {w : World} {r : Nat} {vl vw : Value} {a m : Nat} {S : DS} (h : RefIn w r vl vw a m S) (i : Nat) (hi : i < 7) : w.frozen? ⟨r, i, none⟩ = false := by
  have := (h.room i hi).2; rwa [Nat.zero_add] at this

theorem RefIn.formL {w : World} {r : Nat} {vl vw : Value} {a m : Nat} {S : DS} (h : RefIn w r vl vw a m S) : ∃ g c, vl = .slice (some ⟨g, 0, none⟩) S.L.length c := by
  rcases h.rowL.2 with ⟨_, h0⟩ | ⟨g, c, cur, e, _⟩
  · have := h.ok.lo; omega
  · exact ⟨g, c, e⟩
theorem RefIn.formW {w : World} {r : Nat} {vl vw : Value} {a m : Nat} {S : DS} (h : RefIn w r vl vw a m S) : ∃ p c, vw = .slice p S.W.length c ∧ (0 < S.W.length → ∃ g, p = some ⟨g, 0, none⟩) := by
  rcases h.rowW.2 with ⟨e, h0⟩ | ⟨g, c, cur, e, _⟩
  · exact ⟨none, 0, by rw [e, h0], fun h => by omega⟩
  · exact ⟨_, c, e, fun _ => ⟨g, rfl⟩⟩

theorem RefIn.of_blocks {w w' : World} {r : Nat} {vl vw : Value} {a m : Nat} {S : DS} (h : RefIn w r vl vw a m S) (hr : w'.heap[r]? = w.heap[r]?) (hl : ∀ b, vl.ownBlock = some b → w'.heap[b]? = w.heap[b]?) (hw : ∀ b, vw.ownBlock = some b → w'.heap[b]? = w.heap[b]?) (hs : w.heap.size ≤ w'.heap.size) : RefIn w' r vl vw a m S :=
  ⟨rangeAt_block h.cells hr, there_block h.room hr, ownsRow_block h.rowL hl, ownsRow_block h.rowW hw, h.plan, h.size, h.ok, Nat.lt_of_lt_of_le h.lt hs, fun b hb => ⟨Nat.lt_of_lt_of_le (h.bl b hb).1 hs, (h.bl b hb).2⟩, fun b hb => ⟨Nat.lt_of_lt_of_le (h.bw b hb).1 hs, (h.bw b hb).2⟩⟩

theorem RefIn.below {w w' : World} {r : Nat} {vl vw : Value} {a m : Nat} {S : DS} (h : RefIn w r vl vw a m S) (k : Below w.heap.size w w') : RefIn w' r vl vw a m S :=
  h.of_blocks (k.block r h.lt) (fun b hb => k.block b (h.bl b hb).1) (fun b hb => k.block b (h.bw b hb).1) k.size

theorem RefAt.kept {w w' : World} {F G : Nat → Prop} {r : Nat} {S : DS} (h : RefAt w F r S) (k : Only G w w') (hFG : ∀ i, F i → G i → False) : RefAt w' F r S := by
  obtain ⟨vl, vw, a, m, h, h1, h2, h3⟩ := h
  exact ⟨vl, vw, a, m, h.of_blocks (k.block r h.lt (hFG r h1)) (fun b hb => k.block b (h.bl b hb).1 (hFG b (h2 b hb))) (fun b hb => k.block b (h.bw b hb).1 (hFG b (h3 b hb))) k.size, h1, h2, h3⟩
theorem RefAt.below {w w' : World} {F : Nat → Prop} {r : Nat} {S : DS} (h : RefAt w F r S) (k : Below w.heap.size w w') : RefAt w' F r S := h.kept (G := fun _ => False) (Only.of_below k) (fun _ _ e => e)
theorem RefAt.tight {w : World} {F : Nat → Prop} {r : Nat} {S : DS} (h : RefAt w F r S) : RefAt w (fun k => F k ∧ k < w.heap.size) r S := by
  obtain ⟨vl, vw, a, m, h, h1, h2, h3⟩ := h
  exact ⟨vl, vw, a, m, h, ⟨h1, h.lt⟩, fun b hb => ⟨h2 b hb, (h.bl b hb).1⟩, fun b hb => ⟨h3 b hb, (h.bw b hb).1⟩⟩
theorem RefAt.mono {w : World} {F G : Nat → Prop} {r : Nat} {S : DS} (h : RefAt w F r S) (hFG : ∀ k, F k → G k) : RefAt w G r S := by
  obtain ⟨vl, vw, a, m, h, h1, h2, h3⟩ := h
  exact ⟨vl, vw, a, m, h, hFG _ h1, fun b hb => hFG _ (h2 b hb), fun b hb => hFG _ (h3 b hb)⟩

/-- One of its own cells is set; its rows stay. -/
theorem RefIn.put {w : World} {r : Nat} {vl vw : Value} {a m : Nat} {S : DS} (h : RefIn w r vl vw a m S) (i : Nat) (hi : i < 7) (v : Value) {a' m' : Nat} {T : DS} (e : (rcells vl vw S a m).set i v = rcells vl vw T a' m')
    (hL : T.L = S.L) (hW : T.W = S.W) (hok : T.Ok) (hp : ∀ k q, T.next = some (k, q) → a' = k ∧ m' = q) (hsz : a' < 2 ^ 63 ∧ m' < 2 ^ 64) : RefIn (w.setCell ⟨r, i, none⟩ v) r vl vw a' m' T := by
  have hlen : (rcells vl vw S a m).length = 7 := rfl
  have hb : ∀ b, b ≠ r → (w.setCell ⟨r, i, none⟩ v).heap[b]? = w.heap[b]? := fun b hb => Below.heap_setCell _ _ _ _ hb
  refine ⟨fun j u hu => ?_, there_setCell h.room _ _, ?_, ?_, hp, hsz, hok, by simpa using h.lt, fun b hb => by simpa using h.bl b hb, fun b hb => by simpa using h.bw b hb⟩
  · rw [← e, List.getElem?_set] at hu
    rw [Nat.zero_add]
    by_cases hij : i = j
    · subst hij
      rw [if_pos rfl, if_pos (by omega)] at hu
      cases hu
      exact World.cell?_setCell_same _ _ _ (h.cell (List.getElem?_eq_getElem (by omega)))
    · rw [if_neg hij] at hu
      rw [World.cell?_setCell_other _ _ _ _ (by intro e'; simp at e'; first | done | exact hij e')]
      exact h.cell hu
  · rw [hL]; exact ownsRow_block h.rowL (fun b hb' => hb b (h.bl b hb').2.1)
  · rw [hW]; exact ownsRow_block h.rowW (fun b hb' => hb b (h.bw b hb').2)

/-- Its row of texts is another one. -/
theorem RefIn.putL {w : World} {r : Nat} {vl vw : Value} {a m : Nat} {S : DS} (h : RefIn w r vl vw a m S) {v : Value} {T : DS} (e : (rcells vl vw S a m).set 0 v = rcells v vw T a m)
    (hr : w.ownsRow 0 9 1 v T.L.length (strs T.L)) (hv : ∀ b, v.ownBlock = some b → b < w.heap.size ∧ b ≠ r ∧ vw.ownBlock ≠ some b) (hW : T.W = S.W) (hok : T.Ok) (hn : T.next = S.next) : RefIn (w.setCell ⟨r, 0, none⟩ v) r v vw a m T := by
  have hb : ∀ b, b ≠ r → (w.setCell ⟨r, 0, none⟩ v).heap[b]? = w.heap[b]? := fun b hb => Below.heap_setCell _ _ _ _ hb
  refine ⟨fun j u hu => ?_, there_setCell h.room _ _, ownsRow_block hr (fun b hb' => hb b (hv b hb').2.1), ?_, fun k q hq => h.plan k q (hn ▸ hq), h.size, hok, by simpa using h.lt, fun b hb => by simpa using hv b hb, fun b hb => by simpa using h.bw b hb⟩
  · rw [← e, List.getElem?_set] at hu
    rw [Nat.zero_add]
    by_cases hij : 0 = j
    · subst hij
      rw [if_pos rfl, if_pos (show 0 < (rcells vl vw S a m).length from Nat.zero_lt_succ _)] at hu
      cases hu
      exact World.cell?_setCell_same _ _ _ (h.cell rfl)
    · rw [if_neg hij] at hu
      rw [World.cell?_setCell_other _ _ _ _ (by intro e'; simp at e'; first | done | omega)]
      exact h.cell hu
  · rw [hW]; exact ownsRow_block h.rowW (fun b hb' => hb b (h.bw b hb').2)

/-- Its row of writes is another one. -/
theorem RefIn.putW {w : World} {r : Nat} {vl vw : Value} {a m : Nat} {S : DS} (h : RefIn w r vl vw a m S) {v : Value} {T : DS} (e : (rcells vl vw S a m).set 1 v = rcells vl v T a m)
    (hr : w.ownsRow 0 111 2 v T.W.length (puts T.W)) (hv : ∀ b, v.ownBlock = some b → b < w.heap.size ∧ b ≠ r ∧ vl.ownBlock ≠ some b) (hL : T.L = S.L) (hok : T.Ok) (hn : T.next = S.next) : RefIn (w.setCell ⟨r, 1, none⟩ v) r vl v a m T := by
  have hb : ∀ b, b ≠ r → (w.setCell ⟨r, 1, none⟩ v).heap[b]? = w.heap[b]? := fun b hb => Below.heap_setCell _ _ _ _ hb
  refine ⟨fun j u hu => ?_, there_setCell h.room _ _, ?_, ownsRow_block hr (fun b hb' => hb b (hv b hb').2.1), fun k q hq => h.plan k q (hn ▸ hq), h.size, hok, by simpa using h.lt, fun b hb => ?_, fun b hb => by have := hv b hb; exact ⟨by simpa using this.1, this.2.1⟩⟩
  · rw [← e, List.getElem?_set] at hu
    rw [Nat.zero_add]
    by_cases hij : 1 = j
    · subst hij
      rw [if_pos rfl, if_pos (show 1 < (rcells vl vw S a m).length from Nat.succ_lt_succ (Nat.zero_lt_succ _))] at hu
      cases hu
      exact World.cell?_setCell_same _ _ _ (h.cell rfl)
    · rw [if_neg hij] at hu
      rw [World.cell?_setCell_other _ _ _ _ (by intro e'; simp at e'; first | done | omega)]
      exact h.cell hu
  · rw [hL]; exact ownsRow_block h.rowL (fun b hb' => hb b (h.bl b hb').2.1)
  · have := h.bl b hb
    exact ⟨by simpa using this.1, this.2.1, fun e => (hv b e).2.2 hb⟩

theorem str_info2 : (Tryd.prog.info? 9).map (fun i => (i.zero, i.size, i.bytes)) = some (some (.string ByteArray.empty), 1, 16) := by kernel_rfl
theorem put_info : (Tryd.prog.info? 111).map (fun i => (i.zero, i.size, i.bytes)) = some (some (.agg #[.int .i64 0, .string ByteArray.empty]), 2, 24) := by kernel_rfl

theorem row_put {w : World} {t : TypeId} {g n c : Nat} {xs : List Value} (h : w.ownsRow 0 t 1 (.slice (some ⟨g, 0, none⟩) n c) n xs) (i : Nat) (_hi : i < n) (u : Value) : (w.setCell ⟨g, i, none⟩ u).ownsRow 0 t 1 (.slice (some ⟨g, 0, none⟩) n c) n (xs.set i u) := by
  refine ⟨by rw [List.length_set]; exact h.1, ?_⟩
  rcases h.2 with ⟨e, _⟩ | ⟨g1, c1, cur, e, h1, h2, h3, h4, h5, h6⟩
  · cases e
  · cases e
    refine .inr ⟨g, c, cur.setIfInBounds i u, rfl, h1, heap_setCell_same w g i cur t u h2, h3, h4, by simpa using h5, ?_⟩
    rw [← h6, Array.toList_setIfInBounds, List.take_set]

set_option maxHeartbeats 1000000 in
theorem ref_set (g n c i : Nat) (l : List Bytes) (s : Bytes) (w : World) (hr : w.ownsRow 0 9 1 (.slice (some ⟨g, 0, none⟩) n c) n (strs l)) (_hg : g < w.heap.size) (hn : 0 < n) (hn2 : n ≤ 512) (hi : i < n) (hl : l.length = n) :
    Calls Tryd.prog 62 #[.slice (some ⟨g, 0, none⟩) n c, .int .i64 (i : Int), .string (strOf s)] w fun e w' => ∃ g' c', e = .returned (.slice (some ⟨g', 0, none⟩) n c') ∧ Below w.heap.size w w' ∧ w.heap.size ≤ g' ∧ g' < w'.heap.size ∧ w'.ownsRow 0 9 1 (.slice (some ⟨g', 0, none⟩) n c') n (strs (l.set i s)) := by
  obtain ⟨i0, hi0, hy0, hy1, hy2⟩ := info_parts str_info2
  have HR := Lib.hid hr
  have HNEW : Hid (∀ j u, (strs l)[j]? = some u → w.cell? ((⟨g, 0, none⟩ : Addr).add j) = some u) := Lib.hid (fun j u hu => hr.cells (g := g) rfl j u hu)
  have HNIL : Hid (w.ownsRow 0 9 1 (.slice none 0 0) 0 []) := Lib.hid (World.ownsRow_nil _ _ _ _)
  have HLEN : Hid ((strs l).length = n * 1) := Lib.hid (by simp [strs, hl])
  have z0 : (0 : Int) ≤ (i : Int) := by omega
  have z1 : (i : Int) < (n : Int) := by omega
  clear hr
  go_enter Tryd.func62, Tryd.ntmps62
  go_wp2_with (first
    | (refine wpList_append_lies _ rfl _ _ 58 rfl 0 9 i0 (.string ByteArray.empty) 1 16 Tryd.underlying58 hi0 hy0 hy1 hy2 rfl (by decide) (.slice none 0 0) 0 [] rfl HNIL.out ⟨g, 0, none⟩ n c (strs l) rfl HLEN.out HNEW.out (strs_one l) hn (by unfold maxLen; omega) (by omega) (Nat.zero_le _) w.heap.size rfl ?_; intro g' cap W7 hrow hgr hgl hlt7
       rw [Nat.zero_add, List.nil_append] at hrow
       have hgg : g' = w.heap.size := hgl.elim (fun e => by cases e) id
       have hbel : Below w.heap.size w W7 := below_grown hgr (fun k e => by cases e) (Nat.le_refl _)
       have ci : W7.cell? ⟨g', i, none⟩ = some ((strs l).getD i undef) := by
         rw [hrow.cellAt i (by omega), List.getD_eq_getElem?_getD, List.getElem?_eq_getElem (by simp [strs]; omega)]; rfl
       have fi : W7.frozen? ⟨g', i, none⟩ = false := by
         rcases hrow.2 with ⟨h, _⟩ | ⟨g1, c1, cur, h, _, hg1, _⟩
         · cases h
         · cases h; exact frozen_of_row W7 g' i _ _ hg1
       have HF : Hid (Below w.heap.size w (W7.setCell ⟨g', i, none⟩ (.string (strOf s))) ∧ w.heap.size ≤ g' ∧ g' < (W7.setCell ⟨g', i, none⟩ (.string (strOf s))).heap.size ∧ (W7.setCell ⟨g', i, none⟩ (.string (strOf s))).ownsRow 0 9 1 (.slice (some ⟨g', 0, none⟩) n cap) n (strs (l.set i s))) := Lib.hid ⟨hbel.setCell (by show w.heap.size ≤ g'; omega) _, by omega, by simpa using hlt7, by
         rw [strs_set]; exact row_put hrow i hi _⟩
       clear hgr hgl hlt7 hbel hgg))
  go_ret
  exact ⟨_, _, rfl, HF.out⟩

end Go.Proofs.YtkplmaaeggnbgaaDoor.Dk
namespace Go.Proofs.YtkplmaaeggnbgaaDoor.Dk
open Go.RowKit

theorem readUpto_succ (S : DS) (i k : Nat) : S.readUpto i (k + 1) = if (wAt S.W k).1 = i then (wAt S.W k).2 else S.readUpto i k := by
  unfold DS.readUpto
  show (match (if (wAt S.W k).1 = i then some k else lastUpto S.W i k) with | some j => (wAt S.W j).2 | none => bAt S.L i) = _
  by_cases e : (wAt S.W k).1 = i
  · rw [if_pos e, if_pos e]
  · rw [if_neg e, if_neg e]; rfl

set_option maxHeartbeats 1000000 in
theorem ref_read_off (r : Nat) (S : DS) (i : Int) (F : Nat → Prop) (w : World) (h : RefAt w F r S) (hon : S.on = false) :
    Calls Tryd.prog 69 #[.pointer (some ⟨r, 0, none⟩), .int .i64 i] w fun e w' => e = .returned (.tuple #[.string ByteArray.empty, .int .i64 7]) ∧ w = w' := by
  obtain ⟨vl, vw, a, m, hR, -⟩ := h
  have c2 := hR.cell (i := 2) rfl
  rw [hon] at c2
  clear hR
  go_enter Tryd.func69, Tryd.ntmps69
  go_wp2
  go_ret2
  exact ⟨rfl, rfl⟩

set_option maxHeartbeats 1000000 in
theorem ref_read_bad (r : Nat) (S : DS) (i : Int) (F : Nat → Prop) (w : World) (h : RefAt w F r S) (hon : S.on = true) (hi : i < 0 ∨ (S.L.length : Int) ≤ i) :
    Calls Tryd.prog 69 #[.pointer (some ⟨r, 0, none⟩), .int .i64 i] w fun e w' => e = .returned (.tuple #[.string ByteArray.empty, .int .i64 1]) ∧ w = w' := by
  obtain ⟨vl, vw, a, m, hR, -⟩ := h
  have c2 := hR.cell (i := 2) rfl
  rw [hon] at c2
  obtain ⟨gl, cl, rfl⟩ := hR.formL
  have c0 := hR.cell (i := 0) rfl
  clear hR
  by_cases h0 : i < 0
  · have t0 : decide (i < 0) = true := decide_eq_true h0
    go_enter Tryd.func69, Tryd.ntmps69
    go_wp2
    go_ret2
    exact ⟨rfl, rfl⟩
  · have t0 : decide (i < 0) = false := decide_eq_false h0
    have t1 : decide ((S.L.length : Int) ≤ i) = true := decide_eq_true (by omega)
    go_enter Tryd.func69, Tryd.ntmps69
    go_wp2
    go_ret2
    exact ⟨rfl, rfl⟩

set_option maxHeartbeats 2000000 in
set_option maxRecDepth 100000 in
theorem ref_read_ok (r : Nat) (S : DS) (i : Nat) (F : Nat → Prop) (w : World) (h : RefAt w F r S) (hon : S.on = true) (hi : i < S.L.length) (hc : S.c ≤ 2 ^ 40) :
    Calls Tryd.prog 69 #[.pointer (some ⟨r, 0, none⟩), .int .i64 (i : Int)] w fun e w' => e = .returned (.tuple #[.string (strOf (S.read i)), .int .i64 0]) ∧ w = w' := by
  obtain ⟨vl, vw, a, m, hR, -⟩ := h
  have c2 := hR.cell (i := 2) rfl
  rw [hon] at c2
  obtain ⟨gl, cl, rfl⟩ := hR.formL
  obtain ⟨pw, cw, rfl, hpw⟩ := hR.formW
  have c0 := hR.cell (i := 0) rfl
  have c1 := hR.cell (i := 1) rfl
  have HR := Lib.hid hR
  have hfew := hR.ok.few
  have hhi := hR.ok.hi
  have cl0 : w.cell? ⟨gl, i, none⟩ = some (.string (strOf (bAt S.L i))) := by
    have := ownsRow_range hR.rowL i (.string (strOf (bAt S.L i))) (by unfold strs; rw [List.getElem?_map, bAt_lt hi]; rfl)
    rwa [Nat.zero_add] at this
  have z0 : (0 : Int) ≤ (i : Int) := by omega
  have z1 : (i : Int) < (S.L.length : Int) := by omega
  have t0 : decide ((i : Int) < 0) = false := decide_eq_false (by omega)
  have t1 : decide ((S.L.length : Int) ≤ (i : Int)) = false := decide_eq_false (by omega)
  have t2 : decide (S.L.length ≤ i) = false := decide_eq_false (by omega)
  obtain ⟨n, hn⟩ : ∃ n, n = S.W.length := ⟨_, rfl⟩
  rw [← hn] at c1 hpw hfew HR
  have HC1 := Lib.hid c1
  have hread : strOf (bAt S.L i) = strOf (S.readUpto i 0) := rfl
  rw [hread] at cl0
  clear hR hread
  go_enter Tryd.func69, Tryd.ntmps69
  go_wp2
  clear c0 c1 c2 cl0 t0 t1 t2 z1
  go_loopw [6, 7] (fun vs vk wr => ∃ k : Nat, k ≤ n ∧ vk = .int .i64 k ∧ vs = .string (strOf (S.readUpto i k)) ∧ wr = w) (fun _ vk _ => n - (intOf vk).toNat)
  case atStart => exact ⟨0, Nat.zero_le _, rfl, rfl, rfl⟩
  case round =>
    obtain ⟨k, hk, rfl, rfl, rfl⟩ := hrel
    have c1 := HC1.out
    by_cases hkn : k < n
    · obtain ⟨gw, rfl⟩ := hpw (by omega)
      have y0 : (0 : Int) ≤ (k : Int) := by omega
      have y1 : (k : Int) < (n : Int) := by omega
      have y2 : (n : Int) ≤ 1099511627776 := by omega
      obtain ⟨p1, p2⟩ := puts_at (W := S.W) (j := k) (by omega)
      have hrw := HR.out.rowW
      rw [← hn] at hrw
      have d1 := ownsRow_range hrw _ _ p1
      have d2 := ownsRow_range hrw _ _ p2
      clear hrw
      have d3 := d1
      have d4 := d2
      rw [Nat.zero_add] at d3 d4
      have hsucc := readUpto_succ S i k
      by_cases hi2 : (wAt S.W k).1 = i
      · rw [if_pos hi2] at hsucc
        rw [hi2] at d1 d3
        have HS := Lib.hid hsucc
        clear p1 p2 hsucc
        go_wp2
        clear d1 d2 d3 d4 c1
        go_roundw
        case rel => exact ⟨k + 1, by omega, by go_num, by rw [HS.out], by first | trivial | rfl⟩
        case measure => simp [intOf]; omega
      · rw [if_neg hi2] at hsucc
        have HS := Lib.hid hsucc
        have u0 : (((wAt S.W k).1 : Int) == (i : Int)) = false := by simp; omega
        have u1 : decide (((wAt S.W k).1 : Int) = (i : Int)) = false := decide_eq_false (by omega)
        have u2 : ((wAt S.W k).1 == i) = false := by simpa using hi2
        have u3 : decide ((wAt S.W k).1 = i) = false := decide_eq_false hi2
        clear p1 p2 hsucc
        go_wp2
        clear d1 d2 d3 d4 c1 u0 u1 u2 u3
        go_roundw
        case rel => exact ⟨k + 1, by omega, by go_num, by rw [HS.out], by first | trivial | rfl⟩
        case measure => simp [intOf]; omega
    · obtain rfl : k = n := by omega
      have e : S.readUpto i k = S.read i := by rw [hn]; rfl
      rw [e]
      go_wp2
      go_ret2
      exact ⟨rfl, rfl⟩

set_option maxHeartbeats 1000000 in
theorem ref_cut_bad (p : Option Addr) (k : Int) (q : Int) (hk : k < 0) (w : World) :
    Calls Tryd.prog 25 #[.pointer p, .int .i64 k, .int .u64 q] w fun e w' => e = .returned (.int .i64 1) ∧ w = w' := by
  have t0 : decide (k < 0) = true := decide_eq_true hk
  go_enter Tryd.func25, Tryd.ntmps25
  go_wp2
  go_ret
  exact ⟨rfl, rfl⟩

set_option maxHeartbeats 1000000 in
theorem ref_cut_ok (r : Nat) (S : DS) (k q : Nat) (hk : k < 2 ^ 63) (hq : q < 2 ^ 64) (F : Nat → Prop) (w : World) (h : RefAt w F r S) :
    Calls Tryd.prog 25 #[.pointer (some ⟨r, 0, none⟩), .int .i64 (k : Int), .int .u64 (q : Int)] w fun e w' => e = .returned (.int .i64 0) ∧ RefAt w' F r (S.plan k q) ∧ Only F w w' := by
  obtain ⟨vl, vw, a, m, hR, hF1, hF2, hF3⟩ := h
  have h1 := hR.put 4 (by decide) (.bool true) (a' := a) (m' := m) (T := { S with next := some (a, m) }) (by unfold rcells; rfl) rfl rfl ⟨hR.ok.lo, hR.ok.hi, hR.ok.blk, hR.ok.wat, hR.ok.few, fun k' q' e => by cases e; exact hR.size⟩ (fun k' q' e => by cases e; exact ⟨rfl, rfl⟩) hR.size
  have h2 := h1.put 5 (by decide) (.int .i64 (k : Int)) (a' := k) (m' := m) (T := { S with next := some (k, m) }) (by unfold rcells; rfl) rfl rfl ⟨hR.ok.lo, hR.ok.hi, hR.ok.blk, hR.ok.wat, hR.ok.few, fun k' q' e => by cases e; exact ⟨hk, hR.size.2⟩⟩ (fun k' q' e => by cases e; exact ⟨rfl, rfl⟩) ⟨hk, hR.size.2⟩
  have h3 := h2.put 6 (by decide) (.int .u64 (q : Int)) (a' := k) (m' := q) (T := S.plan k q) (by unfold rcells; rfl) rfl rfl (hR.ok.plan hk hq) (fun k' q' e => by cases e; exact ⟨rfl, rfl⟩) ⟨hk, hq⟩
  have HZ : Hid (RefAt _ F r (S.plan k q) ∧ Only F w _) := Lib.hid ⟨⟨vl, vw, k, q, h3, hF1, hF2, hF3⟩, (((Only.refl F w).setCell ⟨r, 4, none⟩ hF1 (.bool true)).setCell ⟨r, 5, none⟩ hF1 (.int .i64 (k : Int))).setCell ⟨r, 6, none⟩ hF1 (.int .u64 (q : Int))⟩
  have c4 := hR.cell (i := 4) rfl
  have c5 := hR.cell (i := 5) rfl
  have c6 := hR.cell (i := 6) rfl
  have f4 := hR.free 4 (by decide)
  have f5 := hR.free 5 (by decide)
  have f6 := hR.free 6 (by decide)
  have t0 : decide ((k : Int) < 0) = false := decide_eq_false (by omega)
  have z0 : (0 : Int) ≤ (k : Int) := by omega
  clear h1 h2 h3 hR hF2 hF3
  go_enter Tryd.func25, Tryd.ntmps25
  go_wp2
  go_ret
  exact ⟨rfl, HZ.out⟩

end Go.Proofs.YtkplmaaeggnbgaaDoor.Dk
namespace Go.Proofs.YtkplmaaeggnbgaaDoor.Dk
open Go.RowKit

/-- The state while the first k that wait are settled. -/
def DS.part (S : DS) (q k : Nat) : DS := { S with L := stl q S.W S.L k }
theorem part_ok {S : DS} (h : S.Ok) (q k : Nat) (hk : k ≤ S.W.length) : (S.part q k).Ok := by
  have hl : (S.part q k).L.length = S.L.length := stl_length _ _ _ _
  refine ⟨by rw [hl]; exact h.lo, by rw [hl]; exact h.hi, fun i hi => stl_blk h.blk h.wat k hk i (by rw [hl] at hi; exact hi), fun j hj => ?_, h.few, h.next⟩
  rw [hl]; exact h.wat j hj

theorem part_yes (S : DS) (q k : Nat) (hb : bit q k = true) : (S.part q (k + 1)).L = (S.part q k).L.set (wAt S.W k).1 (wAt S.W k).2 := by
  show (if bit q k then _ else _) = _
  rw [if_pos hb]; rfl
theorem part_no (S : DS) (q k : Nat) (hb : bit q k = false) : S.part q (k + 1) = S.part q k := by
  show ({ S with L := if bit q k then _ else _ } : DS) = _
  rw [if_neg (by rw [hb]; decide)]; rfl

theorem bit_rem (q k : Nat) : (((q : Int) / 2 ^ (k % 64)).tmod 2 == 1) = bit q k := by
  have e : (q : Int) / 2 ^ (k % 64) = ((q / 2 ^ (k % 64) : Nat) : Int) := by simp
  rw [e]
  unfold bit
  generalize q / 2 ^ (k % 64) = x
  have e2 : ((x : Int).tmod 2) = ((x % 2 : Nat) : Int) := by rw [Int.tmod_eq_emod_of_nonneg (by omega)]; rfl
  rw [e2]
  rcases Nat.mod_two_eq_zero_or_one x with h | h <;> rw [h] <;> rfl

/-- What the region reads beside the row of texts. -/
def RefS (W : World) (r gw k n cw : Nat) (p : Nat × Bytes) : Prop := W.cell? ⟨r, 1, none⟩ = some (.slice (some ⟨gw, 0, none⟩) n cw) ∧ W.cell? ⟨gw, k * 2, none⟩ = some (.int .i64 (p.1 : Int)) ∧ W.cell? ⟨gw, k * 2 + 1, none⟩ = some (.string (strOf p.2))

theorem refS_of {W : World} {r gw k n cw : Nat} {vl : Value} {a m : Nat} {T : DS} (h : RefIn W r vl (.slice (some ⟨gw, 0, none⟩) n cw) a m T) (hn : n = T.W.length) (hk : k < n) : RefS W r gw k n cw (wAt T.W k) := by
  have hrw := h.rowW
  rw [← hn] at hrw
  obtain ⟨p1, p2⟩ := puts_at (W := T.W) (j := k) (by omega)
  have d1 := ownsRow_range hrw _ _ p1
  have d2 := ownsRow_range hrw _ _ p2
  rw [Nat.zero_add] at d1 d2
  exact ⟨h.cell (i := 1) rfl, d1, d2⟩

/-- One that waits is settled: its row of texts is another one. -/
theorem ref_one {F : Nat → Prop} {w wr : World} {r gl gw cl cw a m k q n nl : Nat} {S : DS} (hOK : S.Ok) (hn : n = S.W.length) (hk : k < n) (hb : bit q k = true) (hnl : nl = S.L.length)
    (hI : RefIn wr r (.slice (some ⟨gl, 0, none⟩) nl cl) (.slice (some ⟨gw, 0, none⟩) n cw) a m (S.part q k)) (hF : F r) (hB : Only F w wr) :
    RefS wr.drew r gw k n cw (wAt S.W k) ∧ Calls Tryd.prog 62 #[.slice (some ⟨gl, 0, none⟩) nl cl, .int .i64 ((wAt S.W k).1 : Int), .string (strOf (wAt S.W k).2)] wr.drew fun e w' => ∃ g' c', e = .returned (.slice (some ⟨g', 0, none⟩) nl c') ∧
      RefS w' r gw k n cw (wAt S.W k) ∧ RefS (w'.setCell ⟨r, 0, none⟩ (.slice (some ⟨g', 0, none⟩) nl c')) r gw k n cw (wAt S.W k) ∧ w'.cell? ⟨r, 0, none⟩ = some (.slice (some ⟨gl, 0, none⟩) nl cl) ∧ w'.frozen? ⟨r, 0, none⟩ = false ∧
      Hid (RefIn (w'.setCell ⟨r, 0, none⟩ (.slice (some ⟨g', 0, none⟩) nl c')) r (.slice (some ⟨g', 0, none⟩) nl c') (.slice (some ⟨gw, 0, none⟩) n cw) a m (S.part q (k + 1)) ∧ Only F w (w'.setCell ⟨r, 0, none⟩ (.slice (some ⟨g', 0, none⟩) nl c')) ∧ w.heap.size ≤ g') := by
  have hD : RefIn wr.drew r (.slice (some ⟨gl, 0, none⟩) nl cl) (.slice (some ⟨gw, 0, none⟩) n cw) a m (S.part q k) := hI.below ⟨rfl, rfl, rfl, Nat.le_refl _, fun _ _ => rfl⟩
  have hpl : (S.part q k).L.length = nl := (stl_length _ _ _ _).trans hnl.symm
  have hrl := hD.rowL
  rw [hpl] at hrl
  have hlo := hOK.lo
  have hhi := hOK.hi
  have hwat := hOK.wat k (by omega)
  refine ⟨refS_of (T := S.part q k) hD hn hk, (ref_set gl nl cl (wAt S.W k).1 (S.part q k).L (wAt S.W k).2 wr.drew hrl (hD.bl gl rfl).1 (by omega) (by omega) (by omega) hpl).mono fun e w' ⟨g', c', he, hbel, h1, h2, hrow⟩ => ?_⟩
  have h3 := hD.below hbel
  have hs := hbel.size
  have hlt := hD.lt
  have hw := h3.bw gw rfl
  have hpyes := part_yes S q k hb
  have hgr : g' ≠ r := fun e => by rw [e] at h1; exact absurd hlt (Nat.not_lt.2 h1)
  have hgw : (Value.slice (some ⟨gw, 0, none⟩) n cw).ownBlock ≠ some g' := fun e => by
    have e2 : gw = g' := by simpa [Value.ownBlock] using e
    have h5 := (hD.bw gw rfl).1
    rw [e2] at h5
    exact absurd h5 (Nat.not_lt.2 h1)
  have h4 := RefIn.putL h3 (v := .slice (some ⟨g', 0, none⟩) nl c') (T := S.part q (k + 1)) rfl (by rw [hpyes, List.length_set, hpl]; exact hrow) (fun b hb' => by cases hb'; exact ⟨h2, hgr, hgw⟩) rfl (part_ok hOK q (k + 1) (by omega)) rfl
  refine ⟨g', c', he, refS_of (T := S.part q k) h3 hn hk, refS_of (T := S.part q (k + 1)) h4 hn hk, h3.cell (i := 0) rfl, h3.free 0 (by decide), Lib.hid ⟨h4, ?_, ?_⟩⟩
  · exact (((hB.drew).trans (Only.of_below hbel) (fun _ _ e => e)).setCell ⟨r, 0, none⟩ hF _)
  · have := hB.size
    have e : wr.drew.heap.size = wr.heap.size := rfl
    omega

set_option maxHeartbeats 2000000 in
set_option maxRecDepth 100000 in
theorem ref_fail_on (r : Nat) (S : DS) (q : Nat) (_hq : q < 2 ^ 64) (F : Nat → Prop) (w : World) (h : RefAt w F r S) (hon : S.on = true) (hc : S.c ≤ 2 ^ 40) :
    Calls Tryd.prog 27 #[.pointer (some ⟨r, 0, none⟩), .int .u64 (q : Int)] w fun e w' => e = .returned (.tuple #[]) ∧ RefAt w' (More F w) r (S.fail q) ∧ Only F w w' := by
  obtain ⟨vl0, vw, a, m, hR, hF1, hF2, hF3⟩ := h
  have c2 := hR.cell (i := 2) rfl
  rw [hon] at c2
  obtain ⟨pw, cw, rfl, hpw⟩ := hR.formW
  have hfew := hR.ok.few
  have HOK := Lib.hid hR.ok
  have HF := Lib.hid (And.intro hF1 hF3)
  have H0 : Hid (RefIn w r vl0 (.slice pw S.W.length cw) a m (S.part q 0)) := Lib.hid hR
  have HB0 : Hid (Only F w w ∧ ∀ b, vl0.ownBlock = some b → F b ∨ w.heap.size ≤ b) := Lib.hid ⟨Only.refl _ _, fun b hb => .inl (hF2 b hb)⟩
  obtain ⟨n, hn⟩ : ∃ n, n = S.W.length := ⟨_, rfl⟩
  rw [← hn] at H0 hfew hpw HF
  have HN := Lib.hid hn
  clear hR hF1 hF2 hF3 hn
  go_enter Tryd.func27, Tryd.ntmps27
  go_wp2
  clear c2
  go_loopw [4] (fun vk wr => ∃ (k : Nat) (vl : Value), k ≤ n ∧ vk = .int .i64 k ∧ Hid (RefIn wr r vl (.slice pw n cw) a m (S.part q k)) ∧ Hid (Only F w wr ∧ ∀ b, vl.ownBlock = some b → F b ∨ w.heap.size ≤ b)) (fun vk _ => n - (intOf vk).toNat)
  case atStart => exact ⟨0, vl0, Nat.zero_le _, rfl, H0, HB0⟩
  case round =>
    clear H0 HB0
    obtain ⟨k, vl, hk, rfl, hI, hB⟩ := hrel
    have c1 := hI.out.cell (i := 1) rfl
    have y2 : (n : Int) ≤ 1099511627776 := by omega
    by_cases hkn : k < n
    · obtain ⟨gw, rfl⟩ := hpw (by omega)
      obtain ⟨gl, cl, hvl⟩ := hI.out.formL
      obtain ⟨nl, hnl⟩ : ∃ nl, nl = S.L.length := ⟨_, rfl⟩
      rw [show (S.part q k).L.length = nl from (stl_length _ _ _ _).trans hnl.symm] at hvl
      subst hvl
      have HNL := Lib.hid hnl
      have y0 : (0 : Int) ≤ (k : Int) := by omega
      have y1 : (k : Int) < (n : Int) := by omega
      have hbr := bit_rem q k
      clear hnl
      cases hbit : bit q k with
      | false =>
        rw [hbit] at hbr
        have HNX : Hid (RefIn wr r (.slice (some ⟨gl, 0, none⟩) nl cl) (.slice (some ⟨gw, 0, none⟩) n cw) a m (S.part q (k + 1))) := Lib.hid (by rw [part_no S q k hbit]; exact hI.out)
        clear hI
        go_wp2
        clear hbr c1
        go_roundw
        case rel => exact ⟨k + 1, _, by omega, by go_num, HNX, hB⟩
        case measure => simp [intOf]; omega
      | true =>
        rw [hbit] at hbr
        go_wp2_with fail
        obtain ⟨hS0, cset⟩ := ref_one HOK.out HN.out hkn hbit HNL.out hI.out HF.out.1 hB.out.1
        have CS := Lib.hid cset
        have hS1 := hS0
        have c0 := hI.out.cell (i := 0) rfl
        have c0d : wr.drew.cell? ⟨r, 0, none⟩ = some (.slice (some ⟨gl, 0, none⟩) nl cl) := c0
        clear cset
        generalize hp : wAt S.W k = p at hS0 hS1 CS
        obtain ⟨p1, p2⟩ := p
        replace hS0 : RefS wr.drew r gw k n cw (p1, p2) := hS0
        unfold RefS at hS0 hS1 CS
        clear hp hI hB
        refine wp_region_noPanic (wp_region_held_drew (S := fun W => W.cell? ⟨r, 1, none⟩ = some (.slice (some ⟨gw, 0, none⟩) n cw) ∧ W.cell? ⟨gw, k * 2, none⟩ = some (.int .i64 (p1 : Int)) ∧ W.cell? ⟨gw, k * 2 + 1, none⟩ = some (.string (strOf p2))) (by kernel_rfl) hS0 (fun hHeld => ?_))
        refine wpAnyH_take (i := 0) (v := ?_) rfl (by kernel_rfl) (by kernel_rfl) (by kernel_rfl) (fun _ _ _ h => h) (Or.inl ⟨by rfl, ?_⟩) (by assumption) ?_
        rotate_left
        · intro w' hSw
          try dsimp only at hSw
          go_simp
          first | done | with_reducible rfl
        simp only [Act.put, List.setIfInBounds_toArray]
        refine wpAnyH_take (i := 1) (v := ?_) rfl (by kernel_rfl) (by kernel_rfl) (by kernel_rfl) (fun _ _ _ h => h) (Or.inl ⟨by rfl, ?_⟩) (by assumption) ?_
        rotate_left
        · intro w' hSw
          try dsimp only at hSw
          go_simp
          first | done | with_reducible rfl
        simp only [Act.put]
        refine wpAnyH_take (i := 2) (v := ?_) rfl (by kernel_rfl) (by kernel_rfl) (by kernel_rfl) (fun _ _ _ h => h) (Or.inl ⟨by rfl, ?_⟩) (by assumption) ?_
        rotate_left
        · intro w' hSw
          try dsimp only at hSw
          go_simp
          first | done | with_reducible rfl
        simp only [Act.put]
        refine wpAnyH_take (i := 3) (v := ?_) rfl (by kernel_rfl) (by kernel_rfl) (by kernel_rfl) (fun _ _ _ h => h) (Or.inl ⟨by rfl, ?_⟩) (by assumption) ?_
        rotate_left
        · intro w' hSw
          try dsimp only at hSw
          go_simp
          first | done | with_reducible rfl
        simp only [Act.put]
        refine wpAnyH_take (i := 5) (v := ?_) rfl (by kernel_rfl) (by kernel_rfl) (by kernel_rfl) (fun _ _ _ h => h) (Or.inl ⟨by rfl, ?_⟩) (by assumption) ?_
        rotate_left
        · intro w' hSw
          try dsimp only at hSw
          go_simp
          first | done | with_reducible rfl
        simp only [Act.put]
        refine wpAnyH_take (i := 6) (v := ?_) rfl (by kernel_rfl) (by kernel_rfl) (by kernel_rfl) (fun _ _ _ h => h) (Or.inl ⟨by rfl, ?_⟩) (by assumption) ?_
        rotate_left
        · intro w' hSw
          try dsimp only at hSw
          go_simp
          first | done | with_reducible rfl
        simp only [Act.put]
        refine wpAnyH_take (i := 7) (v := ?_) rfl (by kernel_rfl) (by kernel_rfl) (by kernel_rfl) (fun _ _ _ h => h) (Or.inl ⟨by rfl, ?_⟩) (by assumption) ?_
        rotate_left
        · intro w' hSw
          try dsimp only at hSw
          go_simp
          first | done | with_reducible rfl
        simp only [Act.put]
        refine wpAnyH_take (i := 8) (v := ?_) rfl (by kernel_rfl) (by kernel_rfl) (by kernel_rfl) (fun _ _ _ h => h) (Or.inl ⟨by rfl, ?_⟩) (by assumption) ?_
        rotate_left
        · intro w' hSw
          try dsimp only at hSw
          go_simp
          first | done | with_reducible rfl
        simp only [Act.put]
        refine wpAnyH_take (i := 9) (v := ?_) rfl (by kernel_rfl) (by kernel_rfl) (by kernel_rfl) (fun _ _ _ h => h) (Or.inl ⟨by rfl, ?_⟩) (by assumption) ?_
        rotate_left
        · intro w' hSw
          try dsimp only at hSw
          go_simp
          first | done | with_reducible rfl
        simp only [Act.put]
        refine wpAnyH_take (i := 10) (v := ?_) rfl (by kernel_rfl) (by kernel_rfl) (by kernel_rfl) (fun _ _ _ h => h) (Or.inl ⟨by rfl, ?_⟩) (by assumption) ?_
        rotate_left
        · intro w' hSw
          try dsimp only at hSw
          go_simp
          first | done | with_reducible rfl
        simp only [Act.put]
        refine wpAnyH_take (i := 11) (v := ?_) rfl (by kernel_rfl) (by kernel_rfl) (by kernel_rfl) (fun _ _ _ h => h) (Or.inl ⟨by rfl, ?_⟩) (by assumption) ?_
        rotate_left
        · intro w' hSw
          try dsimp only at hSw
          go_simp
          first | done | with_reducible rfl
        simp only [Act.put]
        refine wpAnyH_take (i := 12) (v := ?_) rfl (by kernel_rfl) (by kernel_rfl) (by kernel_rfl) (fun _ _ _ h => h) (Or.inl ⟨by rfl, ?_⟩) (by assumption) ?_
        rotate_left
        · intro w' hSw
          try dsimp only at hSw
          go_simp
          first | done | with_reducible rfl
        simp only [Act.put]
        refine wpAnyH_take (i := 13) (v := ?_) rfl (by kernel_rfl) (by kernel_rfl) (by kernel_rfl) (fun _ _ _ h => h) (Or.inl ⟨by rfl, ?_⟩) (by assumption) ?_
        rotate_left
        · intro w' hSw
          try dsimp only at hSw
          go_simp
          first | done | with_reducible rfl
        simp only [Act.put]
        refine wpAnyH_take (i := 14) (v := ?_) rfl (by kernel_rfl) (by kernel_rfl) (by kernel_rfl) (fun _ _ _ h => h) (Or.inl ⟨by rfl, ?_⟩) (by assumption) ?_
        rotate_left
        · intro w' hSw
          try dsimp only at hSw
          go_simp
          first | done | with_reducible rfl
        simp only [Act.put]
        refine wpAnyH_take (i := 15) (v := ?_) rfl (by kernel_rfl) (by kernel_rfl) (by kernel_rfl) (fun _ _ _ h => h) (Or.inl ⟨by rfl, ?_⟩) (by assumption) ?_
        rotate_left
        · intro w' hSw
          try dsimp only at hSw
          go_simp
          first | done | with_reducible rfl
        simp only [Act.put]
        refine wpAnyH_take (i := 16) (v := ?_) rfl (by kernel_rfl) (by kernel_rfl) (by kernel_rfl) (fun _ _ _ h => h) (Or.inl ⟨by rfl, ?_⟩) (by assumption) ?_
        rotate_left
        · intro w' hSw
          try dsimp only at hSw
          go_simp
          first | done | with_reducible rfl
        simp only [Act.put]
        refine wpAnyH_take (i := 17) (v := ?_) rfl (by kernel_rfl) (by kernel_rfl) (by kernel_rfl) (fun _ _ _ h => h) (Or.inl ⟨by rfl, ?_⟩) (by assumption) ?_
        rotate_left
        · intro w' hSw
          try dsimp only at hSw
          go_simp
          first | done | with_reducible rfl
        simp only [Act.put]
        refine wpAnyH_take (i := 18) (v := ?_) rfl (by kernel_rfl) (by kernel_rfl) (by kernel_rfl) (fun _ _ _ h => h) (Or.inl ⟨by rfl, ?_⟩) (by assumption) ?_
        rotate_left
        · intro w' hSw
          try dsimp only at hSw
          go_simp
          first | done | with_reducible rfl
        simp only [Act.put]
        refine wpAnyH_take (i := 19) (v := ?_) rfl (by kernel_rfl) (by kernel_rfl) (by kernel_rfl) (fun _ _ _ h => h) (Or.inl ⟨by rfl, ?_⟩) (by assumption) ?_
        rotate_left
        · intro w' hSw
          try dsimp only at hSw
          go_simp
          first | done | with_reducible rfl
        simp only [Act.put]
        refine wpAnyH_take (i := 20) (v := ?_) rfl (by kernel_rfl) (by kernel_rfl) (by kernel_rfl) (fun _ _ _ h => h) (Or.inl ⟨by rfl, ?_⟩) (by assumption) ?_
        rotate_left
        · intro w' hSw
          try dsimp only at hSw
          go_simp
          first | done | with_reducible rfl
        simp only [Act.put]

        refine wpAnyH_ready (rs := [4]) (by kernel_rfl) (by simp) ?_
        refine AllReadyH.cons (o := { dst := some 29, op := .load 58 (.tmp 28), type := 58, pos := "ref.go:70", after := #[{ on := 3, ground := Ground.data }], guard := none }) rfl (fun K hK => ?_) AllReadyH.nil
        go_simp
        refine hK.out _ _ (by assumption) (fun hHeld => ?_)
        clear hK K
        try simp only [Act.put, List.setIfInBounds_toArray, List.set_cons_zero, List.set_cons_succ]
        refine wpAnyH_ready (rs := [21]) (by kernel_rfl) (by simp) ?_
        refine AllReadyH.cons (o := { dst := some 46, op := .call { callee := .value (.func 62), args := #[.tmp 29, .tmp 37, .tmp 45], argTypes := #[58, 3, 9] }, type := 58, pos := "ref.go:70", after := #[{ on := 4, ground := Ground.data }, { on := 12, ground := Ground.data }, { on := 20, ground := Ground.data }], guard := none }) rfl (fun K hK => ?_) AllReadyH.nil
        go_simp
        go_at_call 62
        refine CS.out.mono ?_
        rintro e W3 ⟨g', c', rfl, hS3, hS4, c30, f30, HZ⟩
        refine hK.out _ _ (by assumption) (fun hHeld => ?_)
        clear hK K
        try simp only [Act.put, List.setIfInBounds_toArray, List.set_cons_zero, List.set_cons_succ]
        refine wpAnyH_take (i := 22) (v := ?_) rfl (by kernel_rfl) (by kernel_rfl) (by kernel_rfl) (fun _ _ _ h => h) (Or.inl ⟨by rfl, ?_⟩) (by assumption) ?_
        rotate_left
        · intro w' hSw
          try dsimp only at hSw
          go_simp
          first | done | with_reducible rfl
        simp only [Act.put, List.setIfInBounds_toArray]
        refine wpAnyH_take (i := 23) (v := ?_) rfl (by kernel_rfl) (by kernel_rfl) (by kernel_rfl) (fun _ _ _ h => h) (Or.inl ⟨by rfl, ?_⟩) (by assumption) ?_
        rotate_left
        · intro w' hSw
          try dsimp only at hSw
          go_simp
          first | done | with_reducible rfl
        simp only [Act.put]

        refine wpAnyH_ready (rs := [24]) (by kernel_rfl) (by simp) ?_
        refine AllReadyH.cons (o := { dst := none, op := .store 58 (.tmp 48) (.tmp 46), type := 0, pos := "ref.go:70", after := #[{ on := 23, ground := Ground.data }, { on := 21, ground := Ground.data }, { on := 21, ground := Ground.chain }, { on := 0, ground := Ground.phase }, { on := 1, ground := Ground.phase }, { on := 2, ground := Ground.phase }, { on := 3, ground := Ground.phase }, { on := 4, ground := Ground.phase }, { on := 5, ground := Ground.phase }, { on := 6, ground := Ground.phase }, { on := 7, ground := Ground.phase }, { on := 8, ground := Ground.phase }, { on := 9, ground := Ground.phase }, { on := 10, ground := Ground.phase }, { on := 11, ground := Ground.phase }, { on := 12, ground := Ground.phase }, { on := 13, ground := Ground.phase }, { on := 14, ground := Ground.phase }, { on := 15, ground := Ground.phase }, { on := 16, ground := Ground.phase }, { on := 17, ground := Ground.phase }, { on := 18, ground := Ground.phase }, { on := 19, ground := Ground.phase }, { on := 20, ground := Ground.phase }, { on := 21, ground := Ground.phase }], guard := none }) rfl (fun K hK => ?_) AllReadyH.nil
        go_simp
        refine hK.out _ _ (by assumption) (fun hHeld => ?_)
        clear hK K
        try simp only [Act.put, List.setIfInBounds_toArray, List.set_cons_zero, List.set_cons_succ]
        refine wpAnyH_done (by kernel_rfl) ?_ _
        refine NoPanic.normal ?_
        have HNX := Lib.hid HZ.out.1
        have HBX : Hid (Only F w _ ∧ ∀ b, (Value.slice (some ⟨g', 0, none⟩) nl c').ownBlock = some b → F b ∨ w.heap.size ≤ b) := Lib.hid ⟨HZ.out.2.1, fun b hb => by cases hb; exact .inr HZ.out.2.2⟩
        clear hS0 hS1 hS3 hS4 c30 f30 HZ hbr c0 c0d c1
        go_wp2
        go_roundw
        case rel => exact ⟨k + 1, _, by omega, by go_num, HNX, HBX⟩
        case measure => simp [intOf]; omega
    · obtain rfl : k = n := by omega
      have c2 := hI.out.cell (i := 2) rfl
      have f1 := hI.out.free 1 (by decide)
      have f2 := hI.out.free 2 (by decide)
      have h1 := hI.out.putW (v := .slice none 0 0) (T := S.settled q) rfl (World.ownsRow_nil _ _ _ _) (fun b hb => by cases hb) (by show stl q S.W S.L S.W.length = stl q S.W S.L k; rw [← HN.out]) (HOK.out.settled q) rfl
      have h2 := h1.put 2 (by decide) (.bool true) (a' := a) (m' := m) (T := S.lose q) rfl rfl rfl ⟨h1.ok.lo, h1.ok.hi, h1.ok.blk, h1.ok.wat, h1.ok.few, h1.ok.next⟩ h1.plan h1.size
      have e : S.fail q = S.lose q := by unfold DS.fail; rw [hon]; rfl
      have HZ : Hid (RefAt _ (More F w) r (S.fail q) ∧ Only F w _) := Lib.hid (by
        rw [e]
        exact ⟨⟨vl, .slice none 0 0, a, m, h2, .inl HF.out.1, fun b hb => hB.out.2 b hb, fun b hb => by cases hb⟩, (hB.out.1.setCell ⟨r, 1, none⟩ HF.out.1 (.slice none 0 0)).setCell ⟨r, 2, none⟩ HF.out.1 (.bool true)⟩)
      clear h1 h2 hI hB
      go_wp2
      refine bodyPost_end (results_none rfl _ _ _) rfl ⟨rfl, HZ.out⟩

end Go.Proofs.YtkplmaaeggnbgaaDoor.Dk
namespace Go.Proofs.YtkplmaaeggnbgaaDoor.Dk
open Go.RowKit

set_option maxHeartbeats 1000000 in
theorem ref_fail_off (r : Nat) (S : DS) (q : Int) (F : Nat → Prop) (w : World) (h : RefAt w F r S) (hon : S.on = false) :
    Calls Tryd.prog 27 #[.pointer (some ⟨r, 0, none⟩), .int .u64 q] w fun e w' => e = .returned (.tuple #[]) ∧ w = w' := by
  obtain ⟨vl, vw, a, m, hR, -⟩ := h
  have c2 := hR.cell (i := 2) rfl
  rw [hon] at c2
  clear hR
  go_enter Tryd.func27, Tryd.ntmps27
  go_wp2
  exact bodyPost_ret (results_none rfl _ _ _) rfl ⟨rfl, rfl⟩

set_option maxHeartbeats 1000000 in
set_option maxRecDepth 100000 in
theorem ref_cut (r : Nat) (S : DS) (F : Nat → Prop) (w : World) (h : RefAt w F r S) (hon : S.on = true) (hc : S.c ≤ 2 ^ 40) (hops : S.ops ≤ 2 ^ 40) :
    Calls Tryd.prog 60 #[.pointer (some ⟨r, 0, none⟩)] w fun e w' => e = .returned (.bool (!S.step.2)) ∧ RefAt w' (More F w) r S.step.1 ∧ Only F w w' := by
  obtain ⟨vl, vw, a, m, hR, hF1, hF2, hF3⟩ := h
  have y0 : (0 : Int) ≤ (S.ops : Int) := by omega
  have y1 : (S.ops : Int) ≤ 1099511627776 := by omega
  have h1 := hR.put 3 (by decide) (.int .i64 ((S.ops : Int) + 1)) (a' := a) (m' := m) (T := S.tick) (by unfold rcells DS.tick; simp) rfl rfl hR.ok.tick hR.plan hR.size
  have c3 := hR.cell (i := 3) rfl
  have f3 := hR.free 3 (by decide)
  have c4 := hR.cell (i := 4) rfl
  have c5 := hR.cell (i := 5) rfl
  have c6 := hR.cell (i := 6) rfl
  have f4 := hR.free 4 (by decide)
  have f5 := hR.free 5 (by decide)
  have hOK := hR.ok
  have HF := Lib.hid (And.intro hF1 (And.intro hF2 hF3))
  have o1 : Only F w (w.setCell ⟨r, 3, none⟩ (.int .i64 ((S.ops : Int) + 1))) := (Only.refl F w).setCell ⟨r, 3, none⟩ hF1 _
  have HO := Lib.hid o1
  have H1 := Lib.hid h1
  have hsz := hR.size
  have hpl := hR.plan
  clear h1 hR hF1 hF2 hF3 o1
  cases hn : S.next with
  | none =>
    have e : S.step = (S.tick, true) := step_none hn
    rw [e]
    rw [hn] at c4
    have HZ : Hid (RefAt _ (More F w) r S.tick ∧ Only F w _) := Lib.hid ⟨⟨vl, vw, a, m, H1.out, .inl HF.out.1, fun b hb => .inl (HF.out.2.1 b hb), fun b hb => .inl (HF.out.2.2 b hb)⟩, HO.out⟩
    clear H1 HF HO
    go_enter Tryd.func60, Tryd.ntmps60
    go_wp2
    go_ret
    exact ⟨rfl, HZ.out⟩
  | some p =>
    obtain ⟨k, q⟩ := p
    obtain ⟨rfl, rfl⟩ := hpl k q hn
    rw [hn] at c4
    cases a with
    | zero =>
      have e : S.step = (({ S.tick with next := none } : DS).lose m, false) := by unfold DS.step; rw [hn]
      rw [e]
      have h2 := H1.out.put 4 (by decide) (.bool false) (a' := 0) (m' := m) (T := { S.tick with next := none }) (by unfold rcells DS.tick; simp) rfl rfl ⟨H1.out.ok.lo, H1.out.ok.hi, H1.out.ok.blk, H1.out.ok.wat, H1.out.ok.few, fun _ _ e => by cases e⟩ (fun _ _ e => by cases e) hsz
      have o2 := HO.out.setCell ⟨r, 4, none⟩ HF.out.1 (.bool false)
      have HR2 : Hid (RefAt _ F r { S.tick with next := none } ∧ Only F w _) := Lib.hid ⟨⟨vl, vw, 0, m, h2, HF.out.1, HF.out.2.1, HF.out.2.2⟩, o2⟩
      have hb2 := o2.size
      have hm64 := hsz.2
      clear h2 o2 H1 HO HF hpl hsz
      rw [show ((0 : Nat) : Int) = 0 from rfl] at c5
      go_enter Tryd.func60, Tryd.ntmps60
      go_wp2_with fail
      refine (ref_fail_on r { S.tick with next := none } m hm64 F _ HR2.out.1 hon hc).mono ?_
      rintro e3 w3 ⟨rfl, hr3, ho3⟩
      have ef : ({ S.tick with next := none } : DS).fail m = ({ S.tick with next := none } : DS).lose m := by unfold DS.fail; rw [show ({ S.tick with next := none } : DS).on = true from hon]; rfl
      rw [ef] at hr3
      have HZ : Hid (RefAt w3 (More F w) r (({ S.tick with next := none } : DS).lose m) ∧ Only F w w3) := Lib.hid ⟨hr3.mono (fun i hi => hi.imp id (fun hi => Nat.le_trans hb2 hi)), HR2.out.2.trans ho3 (fun _ _ e => e)⟩
      clear hr3 ho3 HR2 ef
      go_wp2
      go_ret
      exact ⟨rfl, HZ.out⟩
    | succ k =>
      have e : S.step = (S.tick.plan k m, true) := by unfold DS.step; rw [hn]
      rw [e]
      have h2 := H1.out.put 5 (by decide) (.int .i64 (k : Int)) (a' := k) (m' := m) (T := S.tick.plan k m) (by unfold rcells DS.tick DS.plan; simp [hn]) rfl rfl (hOK.tick.plan (by omega) hsz.2) (fun k' q' e => by cases e; exact ⟨rfl, rfl⟩) ⟨by omega, hsz.2⟩
      have HZ : Hid (RefAt _ (More F w) r (S.tick.plan k m) ∧ Only F w _) := Lib.hid ⟨⟨vl, vw, k, m, h2, .inl HF.out.1, fun b hb => .inl (HF.out.2.1 b hb), fun b hb => .inl (HF.out.2.2 b hb)⟩, HO.out.setCell ⟨r, 5, none⟩ HF.out.1 (.int .i64 (k : Int))⟩
      have z0 : (0 : Int) ≤ (k : Int) := by omega
      have z1 : (k : Int) + 1 < 9223372036854775808 := by omega
      rw [show ((k + 1 : Nat) : Int) = (k : Int) + 1 from rfl] at c5
      have t0 : decide ((0 : Int) < (k : Int) + 1) = true := decide_eq_true (by omega)
      have ew2 : (k : Int) + 1 - 1 = (k : Int) := by omega
      clear h2 H1 HO HF hpl hsz
      go_enter Tryd.func60, Tryd.ntmps60
      go_wp2
      go_ret
      exact ⟨rfl, HZ.out⟩

end Go.Proofs.YtkplmaaeggnbgaaDoor.Dk
namespace Go.Proofs.YtkplmaaeggnbgaaDoor.Dk
open Go.RowKit

set_option maxHeartbeats 2000000 in
set_option maxRecDepth 100000 in
theorem ref_sync_on (r : Nat) (S0 : DS) (F0 : Nat → Prop) (w0 : World) (h : RefAt w0 F0 r S0) (hon : S0.on = true) (hc : S0.c ≤ 2 ^ 40) (hops : S0.ops ≤ 2 ^ 40) :
    Calls Tryd.prog 23 #[.pointer (some ⟨r, 0, none⟩)] w0 fun e w' => e = .returned (.int .i64 (errOf S0.sync.2)) ∧ RefAt w' (More F0 w0) r S0.sync.1 ∧ Only F0 w0 w' := by
  have C := Lib.hid (ref_cut r S0 F0 w0 h hon hc hops)
  have c2 : w0.cell? ⟨r, 2, none⟩ = some (.bool false) := by
    obtain ⟨vl0, vw, a, m, hR, -⟩ := h
    have := hR.cell (i := 2) rfl
    rwa [hon] at this
  clear h
  cases hs : S0.step.2 with
  | false =>
    have e1 : S0.sync = S0.step := by unfold DS.sync; rw [hs]; rfl
    rw [e1, hs]
    rw [hs] at C
    go_enter Tryd.func23, Tryd.ntmps23
    go_wp2_with fail
    refine C.out.mono ?_
    rintro e w ⟨rfl, hr, ho⟩
    have HZ := Lib.hid (And.intro hr ho)
    clear hr ho
    go_wp2
    go_ret
    exact ⟨rfl, HZ.out⟩
  | true =>
    have e1 : S0.sync = (S0.step.1.settled allM, true) := by unfold DS.sync; rw [hs]; rfl
    rw [e1]
    rw [hs] at C
    have hcs : S0.step.1.c ≤ 2 ^ 40 := by
      have : S0.step.1.c = S0.c := by unfold DS.step; split <;> rfl
      omega
    obtain ⟨S, hS⟩ : ∃ S, S = S0.step.1 := ⟨_, rfl⟩
    obtain ⟨F, hF⟩ : ∃ F, F = More F0 w0 := ⟨_, rfl⟩
    rw [← hS] at C hcs ⊢
    rw [← hF] at C
    go_enter Tryd.func23, Tryd.ntmps23
    go_wp2_with fail
    refine C.out.mono ?_
    rintro e w ⟨rfl, hr, ho⟩
    have HO0 := Lib.hid ho
    have hw0 := ho.size
    clear ho C c2 hs e1 hS
    obtain ⟨vl0, vw, a, m, hR, hF1, hF2, hF3⟩ := hr
    obtain ⟨pw, cw, rfl, hpw⟩ := hR.formW
    have hfew := hR.ok.few
    have HOK := Lib.hid hR.ok
    have HF := Lib.hid (And.intro hF1 hF3)
    have H0 : Hid (RefIn w r vl0 (.slice pw S.W.length cw) a m (S.part allM 0)) := Lib.hid hR
    have HB0 : Hid (Only F w w ∧ ∀ b, vl0.ownBlock = some b → F b ∨ w.heap.size ≤ b) := Lib.hid ⟨Only.refl _ _, fun b hb => .inl (hF2 b hb)⟩
    obtain ⟨n, hn⟩ : ∃ n, n = S.W.length := ⟨_, rfl⟩
    rw [← hn] at H0 hfew hpw HF
    have HN := Lib.hid hn
    clear hR hF1 hF2 hF3 hn
    go_wp2
    go_loopw [3] (fun vk wr => ∃ (k : Nat) (vl : Value), k ≤ n ∧ vk = .int .i64 k ∧ Hid (RefIn wr r vl (.slice pw n cw) a m (S.part allM k)) ∧ Hid (Only F w wr ∧ ∀ b, vl.ownBlock = some b → F b ∨ w.heap.size ≤ b)) (fun vk _ => n - (intOf vk).toNat)
    case atStart => exact ⟨0, vl0, Nat.zero_le _, rfl, H0, HB0⟩
    case round =>
      clear H0 HB0
      obtain ⟨k, vl, hk, rfl, hI, hB⟩ := hrel
      have c1 := hI.out.cell (i := 1) rfl
      have y2 : (n : Int) ≤ 1099511627776 := by omega
      by_cases hkn : k < n
      · obtain ⟨gw, rfl⟩ := hpw (by omega)
        obtain ⟨gl, cl, hvl⟩ := hI.out.formL
        obtain ⟨nl, hnl⟩ : ∃ nl, nl = S.L.length := ⟨_, rfl⟩
        rw [show (S.part allM k).L.length = nl from (stl_length _ _ _ _).trans hnl.symm] at hvl
        subst hvl
        have HNL := Lib.hid hnl
        have y0 : (0 : Int) ≤ (k : Int) := by omega
        have y1 : (k : Int) < (n : Int) := by omega
        have hbit := bit_all k
        clear hnl
        go_wp2_with fail
        obtain ⟨hS0, cset⟩ := ref_one HOK.out HN.out hkn hbit HNL.out hI.out HF.out.1 hB.out.1
        have CS := Lib.hid cset
        have hS1 := hS0
        have c0 := hI.out.cell (i := 0) rfl
        have c0d : wr.drew.cell? ⟨r, 0, none⟩ = some (.slice (some ⟨gl, 0, none⟩) nl cl) := c0
        clear cset
        generalize hp : wAt S.W k = p at hS0 hS1 CS
        obtain ⟨p1, p2⟩ := p
        replace hS0 : RefS wr.drew r gw k n cw (p1, p2) := hS0
        unfold RefS at hS0 hS1 CS
        clear hp hI hB
        refine wp_region_noPanic (wp_region_held_drew (S := fun W => W.cell? ⟨r, 1, none⟩ = some (.slice (some ⟨gw, 0, none⟩) n cw) ∧ W.cell? ⟨gw, k * 2, none⟩ = some (.int .i64 (p1 : Int)) ∧ W.cell? ⟨gw, k * 2 + 1, none⟩ = some (.string (strOf p2))) (by kernel_rfl) hS0 (fun hHeld => ?_))
        refine wpAnyH_take (i := 0) (v := ?_) rfl (by kernel_rfl) (by kernel_rfl) (by kernel_rfl) (fun _ _ _ h => h) (Or.inl ⟨by rfl, ?_⟩) (by assumption) ?_
        rotate_left
        · intro w' hSw
          try dsimp only at hSw
          go_simp
          first | done | with_reducible rfl
        simp only [Act.put, List.setIfInBounds_toArray]
        refine wpAnyH_take (i := 1) (v := ?_) rfl (by kernel_rfl) (by kernel_rfl) (by kernel_rfl) (fun _ _ _ h => h) (Or.inl ⟨by rfl, ?_⟩) (by assumption) ?_
        rotate_left
        · intro w' hSw
          try dsimp only at hSw
          go_simp
          first | done | with_reducible rfl
        simp only [Act.put]
        refine wpAnyH_take (i := 2) (v := ?_) rfl (by kernel_rfl) (by kernel_rfl) (by kernel_rfl) (fun _ _ _ h => h) (Or.inl ⟨by rfl, ?_⟩) (by assumption) ?_
        rotate_left
        · intro w' hSw
          try dsimp only at hSw
          go_simp
          first | done | with_reducible rfl
        simp only [Act.put]
        refine wpAnyH_take (i := 3) (v := ?_) rfl (by kernel_rfl) (by kernel_rfl) (by kernel_rfl) (fun _ _ _ h => h) (Or.inl ⟨by rfl, ?_⟩) (by assumption) ?_
        rotate_left
        · intro w' hSw
          try dsimp only at hSw
          go_simp
          first | done | with_reducible rfl
        simp only [Act.put]
        refine wpAnyH_take (i := 5) (v := ?_) rfl (by kernel_rfl) (by kernel_rfl) (by kernel_rfl) (fun _ _ _ h => h) (Or.inl ⟨by rfl, ?_⟩) (by assumption) ?_
        rotate_left
        · intro w' hSw
          try dsimp only at hSw
          go_simp
          first | done | with_reducible rfl
        simp only [Act.put]
        refine wpAnyH_take (i := 6) (v := ?_) rfl (by kernel_rfl) (by kernel_rfl) (by kernel_rfl) (fun _ _ _ h => h) (Or.inl ⟨by rfl, ?_⟩) (by assumption) ?_
        rotate_left
        · intro w' hSw
          try dsimp only at hSw
          go_simp
          first | done | with_reducible rfl
        simp only [Act.put]
        refine wpAnyH_take (i := 7) (v := ?_) rfl (by kernel_rfl) (by kernel_rfl) (by kernel_rfl) (fun _ _ _ h => h) (Or.inl ⟨by rfl, ?_⟩) (by assumption) ?_
        rotate_left
        · intro w' hSw
          try dsimp only at hSw
          go_simp
          first | done | with_reducible rfl
        simp only [Act.put]
        refine wpAnyH_take (i := 8) (v := ?_) rfl (by kernel_rfl) (by kernel_rfl) (by kernel_rfl) (fun _ _ _ h => h) (Or.inl ⟨by rfl, ?_⟩) (by assumption) ?_
        rotate_left
        · intro w' hSw
          try dsimp only at hSw
          go_simp
          first | done | with_reducible rfl
        simp only [Act.put]
        refine wpAnyH_take (i := 9) (v := ?_) rfl (by kernel_rfl) (by kernel_rfl) (by kernel_rfl) (fun _ _ _ h => h) (Or.inl ⟨by rfl, ?_⟩) (by assumption) ?_
        rotate_left
        · intro w' hSw
          try dsimp only at hSw
          go_simp
          first | done | with_reducible rfl
        simp only [Act.put]
        refine wpAnyH_take (i := 10) (v := ?_) rfl (by kernel_rfl) (by kernel_rfl) (by kernel_rfl) (fun _ _ _ h => h) (Or.inl ⟨by rfl, ?_⟩) (by assumption) ?_
        rotate_left
        · intro w' hSw
          try dsimp only at hSw
          go_simp
          first | done | with_reducible rfl
        simp only [Act.put]
        refine wpAnyH_take (i := 11) (v := ?_) rfl (by kernel_rfl) (by kernel_rfl) (by kernel_rfl) (fun _ _ _ h => h) (Or.inl ⟨by rfl, ?_⟩) (by assumption) ?_
        rotate_left
        · intro w' hSw
          try dsimp only at hSw
          go_simp
          first | done | with_reducible rfl
        simp only [Act.put]
        refine wpAnyH_take (i := 12) (v := ?_) rfl (by kernel_rfl) (by kernel_rfl) (by kernel_rfl) (fun _ _ _ h => h) (Or.inl ⟨by rfl, ?_⟩) (by assumption) ?_
        rotate_left
        · intro w' hSw
          try dsimp only at hSw
          go_simp
          first | done | with_reducible rfl
        simp only [Act.put]
        refine wpAnyH_take (i := 13) (v := ?_) rfl (by kernel_rfl) (by kernel_rfl) (by kernel_rfl) (fun _ _ _ h => h) (Or.inl ⟨by rfl, ?_⟩) (by assumption) ?_
        rotate_left
        · intro w' hSw
          try dsimp only at hSw
          go_simp
          first | done | with_reducible rfl
        simp only [Act.put]
        refine wpAnyH_take (i := 14) (v := ?_) rfl (by kernel_rfl) (by kernel_rfl) (by kernel_rfl) (fun _ _ _ h => h) (Or.inl ⟨by rfl, ?_⟩) (by assumption) ?_
        rotate_left
        · intro w' hSw
          try dsimp only at hSw
          go_simp
          first | done | with_reducible rfl
        simp only [Act.put]
        refine wpAnyH_take (i := 15) (v := ?_) rfl (by kernel_rfl) (by kernel_rfl) (by kernel_rfl) (fun _ _ _ h => h) (Or.inl ⟨by rfl, ?_⟩) (by assumption) ?_
        rotate_left
        · intro w' hSw
          try dsimp only at hSw
          go_simp
          first | done | with_reducible rfl
        simp only [Act.put]
        refine wpAnyH_take (i := 16) (v := ?_) rfl (by kernel_rfl) (by kernel_rfl) (by kernel_rfl) (fun _ _ _ h => h) (Or.inl ⟨by rfl, ?_⟩) (by assumption) ?_
        rotate_left
        · intro w' hSw
          try dsimp only at hSw
          go_simp
          first | done | with_reducible rfl
        simp only [Act.put]
        refine wpAnyH_take (i := 17) (v := ?_) rfl (by kernel_rfl) (by kernel_rfl) (by kernel_rfl) (fun _ _ _ h => h) (Or.inl ⟨by rfl, ?_⟩) (by assumption) ?_
        rotate_left
        · intro w' hSw
          try dsimp only at hSw
          go_simp
          first | done | with_reducible rfl
        simp only [Act.put]
        refine wpAnyH_take (i := 18) (v := ?_) rfl (by kernel_rfl) (by kernel_rfl) (by kernel_rfl) (fun _ _ _ h => h) (Or.inl ⟨by rfl, ?_⟩) (by assumption) ?_
        rotate_left
        · intro w' hSw
          try dsimp only at hSw
          go_simp
          first | done | with_reducible rfl
        simp only [Act.put]
        refine wpAnyH_take (i := 19) (v := ?_) rfl (by kernel_rfl) (by kernel_rfl) (by kernel_rfl) (fun _ _ _ h => h) (Or.inl ⟨by rfl, ?_⟩) (by assumption) ?_
        rotate_left
        · intro w' hSw
          try dsimp only at hSw
          go_simp
          first | done | with_reducible rfl
        simp only [Act.put]
        refine wpAnyH_take (i := 20) (v := ?_) rfl (by kernel_rfl) (by kernel_rfl) (by kernel_rfl) (fun _ _ _ h => h) (Or.inl ⟨by rfl, ?_⟩) (by assumption) ?_
        rotate_left
        · intro w' hSw
          try dsimp only at hSw
          go_simp
          first | done | with_reducible rfl
        simp only [Act.put]

        refine wpAnyH_ready (rs := [4]) (by kernel_rfl) (by simp) ?_
        refine AllReadyH.cons (o := { dst := some 25, op := .load 58 (.tmp 24), type := 58, pos := "ref.go:113", after := #[{ on := 3, ground := Ground.data }], guard := none }) rfl (fun K hK => ?_) AllReadyH.nil
        go_simp
        refine hK.out _ _ (by assumption) (fun hHeld => ?_)
        clear hK K
        try simp only [Act.put, List.setIfInBounds_toArray, List.set_cons_zero, List.set_cons_succ]
        refine wpAnyH_ready (rs := [21]) (by kernel_rfl) (by simp) ?_
        refine AllReadyH.cons (o := { dst := some 42, op := .call { callee := .value (.func 62), args := #[.tmp 25, .tmp 33, .tmp 41], argTypes := #[58, 3, 9] }, type := 58, pos := "ref.go:113", after := #[{ on := 4, ground := Ground.data }, { on := 12, ground := Ground.data }, { on := 20, ground := Ground.data }], guard := none }) rfl (fun K hK => ?_) AllReadyH.nil
        go_simp
        go_at_call 62
        refine CS.out.mono ?_
        rintro e W3 ⟨g', c', rfl, hS3, hS4, c30, f30, HZ⟩
        refine hK.out _ _ (by assumption) (fun hHeld => ?_)
        clear hK K
        try simp only [Act.put, List.setIfInBounds_toArray, List.set_cons_zero, List.set_cons_succ]
        refine wpAnyH_take (i := 22) (v := ?_) rfl (by kernel_rfl) (by kernel_rfl) (by kernel_rfl) (fun _ _ _ h => h) (Or.inl ⟨by rfl, ?_⟩) (by assumption) ?_
        rotate_left
        · intro w' hSw
          try dsimp only at hSw
          go_simp
          first | done | with_reducible rfl
        simp only [Act.put, List.setIfInBounds_toArray]
        refine wpAnyH_take (i := 23) (v := ?_) rfl (by kernel_rfl) (by kernel_rfl) (by kernel_rfl) (fun _ _ _ h => h) (Or.inl ⟨by rfl, ?_⟩) (by assumption) ?_
        rotate_left
        · intro w' hSw
          try dsimp only at hSw
          go_simp
          first | done | with_reducible rfl
        simp only [Act.put]

        refine wpAnyH_ready (rs := [24]) (by kernel_rfl) (by simp) ?_
        refine AllReadyH.cons (o := { dst := none, op := .store 58 (.tmp 44) (.tmp 42), type := 0, pos := "ref.go:113", after := #[{ on := 23, ground := Ground.data }, { on := 21, ground := Ground.data }, { on := 21, ground := Ground.chain }, { on := 0, ground := Ground.phase }, { on := 1, ground := Ground.phase }, { on := 2, ground := Ground.phase }, { on := 3, ground := Ground.phase }, { on := 4, ground := Ground.phase }, { on := 5, ground := Ground.phase }, { on := 6, ground := Ground.phase }, { on := 7, ground := Ground.phase }, { on := 8, ground := Ground.phase }, { on := 9, ground := Ground.phase }, { on := 10, ground := Ground.phase }, { on := 11, ground := Ground.phase }, { on := 12, ground := Ground.phase }, { on := 13, ground := Ground.phase }, { on := 14, ground := Ground.phase }, { on := 15, ground := Ground.phase }, { on := 16, ground := Ground.phase }, { on := 17, ground := Ground.phase }, { on := 18, ground := Ground.phase }, { on := 19, ground := Ground.phase }, { on := 20, ground := Ground.phase }, { on := 21, ground := Ground.phase }], guard := none }) rfl (fun K hK => ?_) AllReadyH.nil
        go_simp
        refine hK.out _ _ (by assumption) (fun hHeld => ?_)
        clear hK K
        try simp only [Act.put, List.setIfInBounds_toArray, List.set_cons_zero, List.set_cons_succ]
        refine wpAnyH_done (by kernel_rfl) ?_ _
        refine NoPanic.normal ?_
        have HNX := Lib.hid HZ.out.1
        have HBX : Hid (Only F w _ ∧ ∀ b, (Value.slice (some ⟨g', 0, none⟩) nl c').ownBlock = some b → F b ∨ w.heap.size ≤ b) := Lib.hid ⟨HZ.out.2.1, fun b hb => by cases hb; exact .inr HZ.out.2.2⟩
        clear hS0 hS1 hS3 hS4 c30 f30 HZ c0 c0d c1
        go_wp2
        go_roundw
        case rel => exact ⟨k + 1, _, by omega, by go_num, HNX, HBX⟩
        case measure => simp [intOf]; omega
      · obtain rfl : k = n := by omega
        have f1 := hI.out.free 1 (by decide)
        have h1 := hI.out.putW (v := .slice none 0 0) (T := S.settled allM) rfl (World.ownsRow_nil _ _ _ _) (fun b hb => by cases hb) (by show stl allM S.W S.L S.W.length = stl allM S.W S.L k; rw [← HN.out]) (HOK.out.settled allM) rfl
        have HZ : Hid (RefAt _ (More F0 w0) r (S.settled allM) ∧ Only F0 w0 _) := Lib.hid (by
          have o1 := hB.out.1.setCell ⟨r, 1, none⟩ HF.out.1 (.slice none 0 0)
          subst hF
          exact ⟨⟨vl, .slice none 0 0, a, m, h1, HF.out.1, fun b hb => (hB.out.2 b hb).elim id (fun e => .inr (Nat.le_trans hw0 e)), fun b hb => by cases hb⟩, HO0.out.trans o1 (fun i hi e => e.elim id (fun e => absurd hi (Nat.not_lt.2 e)))⟩)
        clear h1 hI hB
        go_wp2
        go_ret
        exact ⟨rfl, HZ.out⟩

end Go.Proofs.YtkplmaaeggnbgaaDoor.Dk
namespace Go.Proofs.YtkplmaaeggnbgaaDoor.Dk
open Go.RowKit

theorem RefIn.pushW {w W : World} {r : Nat} {vl vw : Value} {a m : Nat} {S : DS} (h : RefIn w r vl vw a m S) (k : Only (fun b => vw.ownBlock = some b) w W) {v : Value} {T : DS} (e : (rcells vl vw S a m).set 1 v = rcells vl v T a m)
    (hr : W.ownsRow 0 111 2 v T.W.length (puts T.W)) (hv : ∀ b, v.ownBlock = some b → b < W.heap.size ∧ b ≠ r ∧ vl.ownBlock ≠ some b) (hL : T.L = S.L) (hok : T.Ok) (hn : T.next = S.next) : RefIn (W.setCell ⟨r, 1, none⟩ v) r vl v a m T := by
  have hb : ∀ b, b ≠ r → (W.setCell ⟨r, 1, none⟩ v).heap[b]? = W.heap[b]? := fun b hb => Below.heap_setCell _ _ _ _ hb
  have br : W.heap[r]? = w.heap[r]? := k.block r h.lt (fun e => (h.bw r e).2 rfl)
  have bl : ∀ b, vl.ownBlock = some b → W.heap[b]? = w.heap[b]? := fun b hb' => k.block b (h.bl b hb').1 (h.bl b hb').2.2
  have hc : ∀ j u, (rcells vl vw S a m)[j]? = some u → W.cell? ⟨r, j, none⟩ = some u := fun j u hu => (World.cell?_of_block (a := ⟨r, j, none⟩) br).trans (h.cell hu)
  refine ⟨fun j u hu => ?_, there_setCell (there_block h.room br) _ _, ?_, ownsRow_block hr (fun b hb' => hb b (hv b hb').2.1), fun k q hq => h.plan k q (hn ▸ hq), h.size, hok, by have := k.size; have := h.lt; simp; omega, fun b hb => ?_, fun b hb => by have := hv b hb; exact ⟨by simpa using this.1, this.2.1⟩⟩
  · rw [← e, List.getElem?_set] at hu
    rw [Nat.zero_add]
    by_cases hij : 1 = j
    · subst hij
      rw [if_pos rfl, if_pos (show 1 < (rcells vl vw S a m).length from Nat.succ_lt_succ (Nat.zero_lt_succ _))] at hu
      cases hu
      exact World.cell?_setCell_same _ _ _ (hc 1 _ rfl)
    · rw [if_neg hij] at hu
      rw [World.cell?_setCell_other _ _ _ _ (by intro e'; simp at e'; first | done | omega)]
      exact hc j u hu
  · rw [hL]; exact ownsRow_block (ownsRow_block h.rowL bl) (fun b hb' => hb b (h.bl b hb').2.1)
  · have := h.bl b hb
    have hs := k.size
    exact ⟨by simp; omega, this.2.1, fun e => (hv b e).2.2 hb⟩

set_option maxHeartbeats 1000000 in
theorem ref_write_off (r : Nat) (S : DS) (i : Int) (s : ByteArray) (F : Nat → Prop) (w : World) (h : RefAt w F r S) (hon : S.on = false) :
    Calls Tryd.prog 21 #[.pointer (some ⟨r, 0, none⟩), .int .i64 i, .string s] w fun e w' => e = .returned (.int .i64 7) ∧ w = w' := by
  obtain ⟨vl, vw, a, m, hR, -⟩ := h
  have c2 := hR.cell (i := 2) rfl
  rw [hon] at c2
  clear hR
  go_enter Tryd.func21, Tryd.ntmps21
  go_wp2
  go_ret
  exact ⟨rfl, rfl⟩

set_option maxHeartbeats 2000000 in
set_option maxRecDepth 100000 in
theorem ref_write_ok (r i : Nat) (S : DS) (s : Bytes) (F : Nat → Prop) (w : World) (h : RefAt w F r S) (hon : S.on = true) (hi : i < S.L.length) (hs : s.length = 64) (hc : S.c < 2 ^ 40) (hops : S.ops ≤ 2 ^ 40) :
    Calls Tryd.prog 21 #[.pointer (some ⟨r, 0, none⟩), .int .i64 (i : Int), .string (strOf s)] w fun e w' => e = .returned (.int .i64 (errOf (S.write i s).2)) ∧ RefAt w' (More F w) r (S.write i s).1 ∧ Only F w w' := by
  obtain ⟨vl, vw, a, m, hR, hF1, hF2, hF3⟩ := h
  have c2 := hR.cell (i := 2) rfl
  rw [hon] at c2
  obtain ⟨gl, cl, rfl⟩ := hR.formL
  obtain ⟨pw, cw, hvw, -⟩ := hR.formW
  have c0 := hR.cell (i := 0) rfl
  have c1 := hR.cell (i := 1) rfl
  have f1 := hR.free 1 (by decide)
  have hfew := hR.ok.few
  have hsl : (strOf s).size = 64 := by rw [strOf_size, hs]
  have hb : ∀ W, (Instr.buildSlice 59 1 #[(0, .agg #[.int .i64 (i : Int), .string (strOf s)])]).run Tryd.prog W = .ok (.slice (some ⟨W.heap.size, 0, none⟩) 1 1) (W.alloc (.cells #[.int .i64 (i : Int), .string (strOf s)] 111)) :=
    fun W => run_buildSlice_one 59 111 _ 24 2 (putc (i, s)) W Tryd.underlying59 put_info rfl rfl (by decide) (by decide)
  obtain ⟨i0, hi0, hy0, hy1, hy2⟩ := info_parts put_info
  have HROW : Hid ((w.alloc (.cells #[.int .i64 (i : Int), .string (strOf s)] 111)).ownsRow 0 111 2 vw S.W.length (puts S.W)) := Lib.hid (hR.rowW.alloc _)
  have HNEW : Hid (∀ j u, (putc (i, s))[j]? = some u → (w.alloc (.cells #[.int .i64 (i : Int), .string (strOf s)] 111)).cell? ((⟨w.heap.size, 0, none⟩ : Addr).add j) = some u) := Lib.hid (news_at w (putc (i, s)).toArray _)
  have HR := Lib.hid hR
  have HF := Lib.hid (And.intro hF1 (And.intro hF2 hF3))
  have hr1 := hR.lt
  have hrb := hR.bw
  have z0 : (0 : Int) ≤ (i : Int) := by omega
  have t0 : decide ((i : Int) < 0) = false := decide_eq_false (by omega)
  have t1 : decide ((S.L.length : Int) ≤ (i : Int)) = false := decide_eq_false (by omega)
  have t2 : decide (S.L.length ≤ i) = false := decide_eq_false (by omega)
  have HC1 := Lib.hid c1
  have HF1 := Lib.hid f1
  have HDONE : Hid (∀ (W7 : World) (g' cap : Nat), W7.ownsRow 0 111 2 (.slice (some ⟨g', 0, none⟩) (S.W.length + 1) cap) (S.W.length + 1) (puts S.W ++ putc (i, s)) → (w.alloc (.cells #[.int .i64 (i : Int), .string (strOf s)] 111)).grownBy W7 vw.ownBlock → (vw.ownBlock = some g' ∨ g' = w.heap.size + 1) → g' < W7.heap.size →
      W7.cell? ⟨r, 1, none⟩ = some vw ∧ W7.frozen? ⟨r, 1, none⟩ = false ∧ RefAt (W7.setCell ⟨r, 1, none⟩ (.slice (some ⟨g', 0, none⟩) (S.W.length + 1) cap)) (More F w) r (S.put i s) ∧ Only F w (W7.setCell ⟨r, 1, none⟩ (.slice (some ⟨g', 0, none⟩) (S.W.length + 1) cap))) := Lib.hid (fun W7 g' cap hrow hgr hg hlt => by
    have o7 : Only (fun b => vw.ownBlock = some b) w W7 := ((Only.refl _ w).alloc _).trans (Only.of_grown hgr (fun k e => e)) (fun _ _ e => e)
    have br : W7.heap[r]? = w.heap[r]? := o7.block r hr1 (fun e => (hrb r e).2 rfl)
    have hne : g' ≠ r := hg.elim (fun e => (hrb g' e).2) (fun e e2 => by rw [e2] at e; omega)
    have hnl : (Value.slice (some ⟨gl, 0, none⟩) S.L.length cl).ownBlock ≠ some g' := fun e2 => hg.elim (fun e => (hR.bl g' e2).2.2 e) (fun e => by have := (hR.bl g' e2).1; omega)
    have hFg : More F w g' := hg.elim (fun e => .inl (hF3 g' e)) (fun e => .inr (by omega))
    have h7 := hR.pushW o7 (v := .slice (some ⟨g', 0, none⟩) (S.W.length + 1) cap) (T := S.put i s) rfl (by
      show W7.ownsRow 0 _ 2 _ (S.W ++ [(i, s)]).length (puts (S.W ++ [(i, s)]))
      rw [puts_push, List.length_append]; exact hrow) (fun b hb => by
        cases hb; exact ⟨hlt, hne, hnl⟩) rfl (hR.ok.put hi hs) rfl
    refine ⟨(World.cell?_of_block (a := ⟨r, 1, none⟩) br).trans c1, (World.frozen?_of_block (a := ⟨r, 1, none⟩) br).trans f1, ⟨_, _, a, m, h7, .inl hF1, fun b hb => .inl (hF2 b hb), fun b hb => ?_⟩, (o7.mono (fun b e => hF3 b e)).setCell ⟨r, 1, none⟩ hF1 _⟩
    cases hb; exact hFg)
  clear hR hF1 hF2 hF3 hr1 hrb
  rw [show S.write i s = (S.put i s).step from rfl]
  subst hvw
  generalize hn : S.W.length = n at *
  go_enter Tryd.func21, Tryd.ntmps21
  go_wp2_with (first
    | (refine wpList_append_lies _ rfl _ _ 59 rfl 0 111 i0 _ 2 24 Tryd.underlying59 hi0 hy0 hy1 hy2 rfl (by decide) (.slice pw n cw) n (puts S.W) rfl HROW.out ⟨w.heap.size, 0, none⟩ 1 1 (putc (i, s)) rfl rfl HNEW.out (fun u hu => by simp [putc] at hu; rcases hu with rfl | rfl <;> rfl) (by decide) (by unfold maxLen; omega) (by omega) (Nat.zero_le _) (w.heap.size + 1) (by simp) ?_; intro g' cap W7 hrow hgr hgl hlt7
       obtain ⟨c71, f71, hr8, ho8⟩ := HDONE.out W7 g' cap hrow hgr hgl hlt7
       have HR8 := Lib.hid hr8
       have HO8 := Lib.hid ho8
       clear hrow hgr hgl hlt7 hr8 ho8))
  clear c71 f71
  generalize World.setCell W7 _ _ = W8 at HR8 HO8 ⊢
  have C := ref_cut r (S.put i s) (More F w) W8 HR8.out hon (by show S.c + 1 ≤ 2 ^ 40; omega) hops
  refine C.mono ?_
  rintro e W9 ⟨rfl, hr9, ho9⟩
  have hs8 := HO8.out.size
  have HZ : Hid (RefAt W9 (More F w) r (S.put i s).step.1 ∧ Only F w W9) := Lib.hid ⟨hr9.mono (fun b hb => hb.elim id (fun e => .inr (Nat.le_trans hs8 e))), HO8.out.trans ho9 (fun b hb e => e.elim id (fun e => absurd hb (Nat.not_lt.2 e)))⟩
  clear C hr9 ho9 HR8 HO8
  cases hP : (S.put i s).step.2 with
  | false =>
    go_wp2
    go_ret
    exact ⟨by rw [hP]; rfl, HZ.out⟩
  | true =>
    go_wp2
    go_ret
    exact ⟨by rw [hP]; rfl, HZ.out⟩

end Go.Proofs.YtkplmaaeggnbgaaDoor.Dk
namespace Go.Proofs.YtkplmaaeggnbgaaDoor.Dk
open Go.RowKit

set_option maxHeartbeats 2000000 in
theorem ref_write_bad (r : Nat) (S : DS) (i : Int) (s : ByteArray) (F : Nat → Prop) (w : World) (h : RefAt w F r S) (hon : S.on = true) (hi : i < 0 ∨ (S.L.length : Int) ≤ i ∨ s.size ≠ 64) :
    Calls Tryd.prog 21 #[.pointer (some ⟨r, 0, none⟩), .int .i64 i, .string s] w fun e w' => e = .returned (.int .i64 1) ∧ w = w' := by
  obtain ⟨vl, vw, a, m, hR, -⟩ := h
  have c2 := hR.cell (i := 2) rfl
  rw [hon] at c2
  obtain ⟨gl, cl, rfl⟩ := hR.formL
  have c0 := hR.cell (i := 0) rfl
  clear hR
  by_cases h0 : i < 0
  · have t0 : decide (i < 0) = true := decide_eq_true h0
    go_enter Tryd.func21, Tryd.ntmps21
    go_wp2
    go_ret
    exact ⟨rfl, rfl⟩
  · have t0 : decide (i < 0) = false := decide_eq_false h0
    by_cases h1 : (S.L.length : Int) ≤ i
    · have t1 : decide ((S.L.length : Int) ≤ i) = true := decide_eq_true h1
      go_enter Tryd.func21, Tryd.ntmps21
      go_wp2
      go_ret
      exact ⟨rfl, rfl⟩
    · have t1 : decide ((S.L.length : Int) ≤ i) = false := decide_eq_false h1
      have h2 : s.size ≠ 64 := by rcases hi with e | e | e; exact absurd e h0; exact absurd e h1; exact e
      have u0 : ((s.size : Int) == 64) = false := by simp; omega
      have u1 : (s.size == 64) = false := by simpa using h2
      have u2 : decide ((s.size : Int) = 64) = false := decide_eq_false (by omega)
      have u3 : decide (s.size = 64) = false := decide_eq_false h2
      go_enter Tryd.func21, Tryd.ntmps21
      go_wp2
      go_ret
      exact ⟨rfl, rfl⟩

set_option maxHeartbeats 1000000 in
theorem ref_zero (w : World) : Calls Tryd.prog 52 #[] w fun e w' => e = .returned (.string (strOf zeroB)) ∧ Below w.heap.size w w' := by
  have hm := make64
  have hcv := convert_range (P := Tryd.prog) (w := w.alloc (.cells (List.replicate 64 (.int .u8 0)).toArray 5)) (src := 85) (dst := 9) (e := 5) w.heap.size 0 64 64 zeroB Tryd.underlying85 Tryd.underlying5 Tryd.underlying9 rfl (by
    rw [show bv zeroB = List.replicate 64 (.int .u8 0) from rfl]; exact range_new w _ _)
  replace hcv : _ = Result.ok (Value.string (strOf zeroB)) _ := hcv
  have HB : Hid (Below w.heap.size w (w.alloc (.cells (List.replicate 64 (.int .u8 0)).toArray 5))) := Lib.hid ((Below.refl _ _).alloc (Nat.le_refl _) _)
  generalize (List.replicate 64 (Value.int .u8 0)).toArray = Z at *
  generalize strOf zeroB = X at *
  go_enter Tryd.func52, Tryd.ntmps52
  go_wp2
  go_ret
  exact ⟨rfl, HB.out⟩

end Go.Proofs.YtkplmaaeggnbgaaDoor.Dk
namespace Go.Proofs.YtkplmaaeggnbgaaDoor.Dk
open Go.RowKit

set_option maxHeartbeats 1000000 in
theorem ref_sync_off (r : Nat) (S : DS) (F : Nat → Prop) (w : World) (h : RefAt w F r S) (hon : S.on = false) :
    Calls Tryd.prog 23 #[.pointer (some ⟨r, 0, none⟩)] w fun e w' => e = .returned (.int .i64 7) ∧ w = w' := by
  obtain ⟨vl, vw, a, m, hR, -⟩ := h
  have c2 := hR.cell (i := 2) rfl
  rw [hon] at c2
  clear hR
  go_enter Tryd.func23, Tryd.ntmps23
  go_wp2
  go_ret
  exact ⟨rfl, rfl⟩

set_option maxHeartbeats 1000000 in
theorem ref_new_bad (n : Int) (h : n < 16 ∨ 512 < n) (w : World) :
    Calls Tryd.prog 15 #[.int .i64 n] w fun e w' => e = .returned (.tuple #[.pointer (some ⟨w.heap.size, 0, none⟩), .int .i64 1]) ∧ Below w.heap.size w w' := by
  by_cases h0 : n < 16
  · have t0 : decide (n < 16) = true := decide_eq_true h0
    go_enter Tryd.func15, Tryd.ntmps15
    go_wp2
    go_ret2
    exact ⟨rfl, (Below.refl _ _).alloc (Nat.le_refl _) _⟩
  · have t0 : decide (n < 16) = false := decide_eq_false h0
    have t1 : decide ((512 : Int) < n) = true := decide_eq_true (by omega)
    go_enter Tryd.func15, Tryd.ntmps15
    go_wp2
    go_ret2
    exact ⟨rfl, (Below.refl _ _).alloc (Nat.le_refl _) _⟩

/-- A document's disk that is being made: k blocks so far. -/
structure NewR (w wr : World) (vl : Value) (k : Nat) : Prop where
  cells : wr.rangeAt w.heap.size 0 (rcells vl (.slice none 0 0) (new k) 0 0)
  room : wr.there w.heap.size 0 7
  row : wr.ownsRow 0 9 1 vl k (strs (List.replicate k zeroB))
  bl : ∀ b, vl.ownBlock = some b → w.heap.size < b ∧ b < wr.heap.size
  below : Below w.heap.size w wr
  lt : w.heap.size < wr.heap.size

theorem rcells_new (vl : Value) (j k : Nat) : rcells vl (.slice none 0 0) (new j) 0 0 = rcells vl (.slice none 0 0) (new k) 0 0 := rfl

theorem newR_zero (w : World) (u : TypeId) : NewR w (w.alloc (.cells (rcells (.slice none 0 0) (.slice none 0 0) (new 0) 0 0).toArray u)) (.slice none 0 0) 0 :=
  ⟨range_new w _ u, there_new w _ u, World.ownsRow_nil _ _ _ _, fun b hb => (by cases hb), (Below.refl _ _).alloc (Nat.le_refl _) _, by simp⟩

theorem strs_zero (k : Nat) : strs (List.replicate k zeroB) ++ [.string (strOf zeroB)] = strs (List.replicate (k + 1) zeroB) := by
  rw [← strs_push, List.replicate_succ']

theorem newR_step {w wr W1 W7 : World} {vl : Value} {k g' cap : Nat} {o : Obj} (h : NewR w wr vl k) (hb : Below wr.heap.size wr W1) (hrow : W7.ownsRow 0 9 1 (.slice (some ⟨g', 0, none⟩) (k + 1) cap) (k + 1) (strs (List.replicate k zeroB) ++ [.string (strOf zeroB)]))
    (hgr : (W1.alloc o).grownBy W7 vl.ownBlock) (hg : vl.ownBlock = some g' ∨ g' = W1.heap.size + 1) (hlt : g' < W7.heap.size) :
    W7.cell? ⟨w.heap.size, 0, none⟩ = some vl ∧ W7.frozen? ⟨w.heap.size, 0, none⟩ = false ∧ NewR w (W7.setCell ⟨w.heap.size, 0, none⟩ (.slice (some ⟨g', 0, none⟩) (k + 1) cap)) (.slice (some ⟨g', 0, none⟩) (k + 1) cap) (k + 1) := by
  have hl := h.lt
  have hs1 := hb.size
  have o7 : Only (fun b => vl.ownBlock = some b) wr W7 := ((Only.of_below hb).alloc o).trans (Only.of_grown hgr (fun k e => e)) (fun _ _ e => e)
  have br : W7.heap[w.heap.size]? = wr.heap[w.heap.size]? := o7.block _ hl (fun e => by have := (h.bl _ e).1; omega)
  have hs7 := o7.size
  have hg2 : w.heap.size < g' := hg.elim (fun e => (h.bl _ e).1) (fun e => by omega)
  have hc : ∀ j u, (rcells vl (.slice none 0 0) (new k) 0 0)[j]? = some u → W7.cell? ⟨w.heap.size, j, none⟩ = some u := fun j u hu => by
    have := (World.cell?_of_block (a := ⟨w.heap.size, 0 + j, none⟩) br).trans (h.cells j u hu)
    rwa [Nat.zero_add] at this
  have f0 := (h.room 0 (by decide)).2
  refine ⟨hc 0 _ rfl, (World.frozen?_of_block (a := ⟨w.heap.size, 0, none⟩) br).trans f0, ?_⟩
  refine ⟨fun j u hu => ?_, there_setCell (there_block h.room br) _ _, ?_, fun b hb' => ?_, ?_, by simp; omega⟩
  · rw [Nat.zero_add]
    by_cases hj : j = 0
    · subst hj
      cases hu
      exact World.cell?_setCell_same _ _ _ (hc 0 _ rfl)
    · rw [World.cell?_setCell_other _ _ _ _ (by intro e'; simp at e'; first | done | omega)]
      refine hc j u ?_
      rw [← hu]
      unfold rcells
      match j, hj with
      | j + 1, _ => rfl
  · rw [← strs_zero]
    exact ownsRow_block hrow (fun b hb' => Below.heap_setCell _ _ _ _ (fun e => by cases hb'; simp at e; omega))
  · cases hb'; exact ⟨hg2, by simpa using hlt⟩
  · have hb7 : Below w.heap.size w W7 := o7.below h.below (fun b hb' => Nat.le_of_lt (h.bl b hb').1) (Nat.le_refl _)
    exact hb7.setCell (Nat.le_refl _) _

theorem newR_done {w wr : World} {vl : Value} {n : Nat} (h1 : 16 ≤ n) (h2 : n ≤ 512) (h : NewR w wr vl n) : RefAt wr (fun k => w.heap.size ≤ k) w.heap.size (new n) := by
  have hL : (new n).L.length = n := by simp [new]
  refine ⟨vl, .slice none 0 0, 0, 0, ⟨h.cells, h.room, by rw [hL]; exact h.row, World.ownsRow_nil _ _ _ _, fun _ _ e => (by cases e), by decide, new_ok h1 h2, h.lt, fun b hb => ⟨(h.bl b hb).2, (by have := (h.bl b hb).1; omega), fun e => (by cases e)⟩, fun b hb => (by cases hb)⟩, Nat.le_refl _, fun b hb => (by have := (h.bl b hb).1; omega), fun b hb => (by cases hb)⟩

set_option maxHeartbeats 2000000 in
set_option maxRecDepth 100000 in
theorem ref_new_ok (n : Nat) (h1 : 16 ≤ n) (h2 : n ≤ 512) (w : World) :
    Calls Tryd.prog 15 #[.int .i64 (n : Int)] w fun e w' => e = .returned (.tuple #[.pointer (some ⟨w.heap.size, 0, none⟩), .int .i64 0]) ∧ RefAt w' (fun k => w.heap.size ≤ k) w.heap.size (new n) ∧ Below w.heap.size w w' := by
  have HW0 := Lib.hid (newR_zero w 61)
  replace HW0 : Hid (NewR w (w.alloc (.cells #[.slice none 0 0, .slice none 0 0, .bool false, .int .i64 0, .bool false, .int .i64 0, .int .u64 0] 61)) (.slice none 0 0) 0) := HW0
  have t0 : decide ((n : Int) < 16) = false := decide_eq_false (by omega)
  have t1 : decide ((512 : Int) < (n : Int)) = false := decide_eq_false (by omega)
  have t2 : decide (n < 16) = false := decide_eq_false (by omega)
  have t3 : decide (512 < n) = false := decide_eq_false (by omega)
  go_enter Tryd.func15, Tryd.ntmps15
  go_wp2
  clear t0 t1 t2 t3
  obtain ⟨i0, hi0, hy0, hy1, hy2⟩ := info_parts str_info2
  go_loopw [5] (fun vi wr => ∃ (k : Nat) (vl : Value), k ≤ n ∧ vi = .int .i64 k ∧ Hid (NewR w wr vl k)) (fun vi _ => n - (intOf vi).toNat)
  case atStart => exact ⟨0, _, Nat.zero_le _, rfl, HW0⟩
  case round =>
    clear HW0
    obtain ⟨k, vl, hk, rfl, hI⟩ := hrel
    by_cases hkn : k < n
    · have z1 : (k : Int) < (n : Int) := by omega
      have z2 : (n : Int) ≤ 512 := by omega
      have c0 : wr.cell? ⟨w.heap.size, 0, none⟩ = some vl := by have := hI.out.cells 0 _ rfl; rwa [Nat.zero_add] at this
      have C0 : Hid (∀ W1, Below wr.heap.size wr.drew W1 → W1.cell? ⟨w.heap.size, 0, none⟩ = some vl) := Lib.hid (fun W1 hb => (hb.cell (p := ⟨w.heap.size, 0, none⟩) hI.out.lt).trans c0)
      have CA : Hid (∀ W1, Below wr.heap.size wr.drew W1 → ∀ o, (W1.alloc o).cell? ⟨w.heap.size, 0, none⟩ = some vl) := Lib.hid (fun W1 hb o => (World.cell?_of_block (a := ⟨w.heap.size, 0, none⟩) (Below.heap_alloc W1 _ _ (Nat.lt_of_lt_of_le hI.out.lt hb.size))).trans (C0.out W1 hb))
      have HROW : Hid (∀ W1 o, Below wr.heap.size wr.drew W1 → (W1.alloc o).ownsRow 0 9 1 vl k (strs (List.replicate k zeroB))) := Lib.hid (fun W1 o hb => World.ownsRow.alloc (ownsRow_block hI.out.row (fun b hb' => hb.block b (hI.out.bl b hb').2)) _)
      have HN := Lib.hid (fun W1 : World => news_at W1 #[.string (strOf zeroB)] 9)
      have HST : Hid (∀ (W1 W7 : World) (g' cap : Nat) (o : Obj), Below wr.heap.size wr.drew W1 → W7.ownsRow 0 9 1 (.slice (some ⟨g', 0, none⟩) (k + 1) cap) (k + 1) (strs (List.replicate k zeroB) ++ [.string (strOf zeroB)]) → (W1.alloc o).grownBy W7 vl.ownBlock → (vl.ownBlock = some g' ∨ g' = W1.heap.size + 1) → g' < W7.heap.size → _) := Lib.hid (fun W1 W7 g' cap o hb hrow hgr hg hlt => newR_step hI.out (W1 := W1) ⟨hb.os, hb.tape, hb.output, hb.size, hb.block⟩ hrow hgr hg hlt)
      have T1 : Hid (k + 1 ≤ maxLen) := Lib.hid (by unfold maxLen; omega)
      have T2 : Hid ((k + 1) * 16 ≤ 140737488355328) := Lib.hid (by omega)
      go_wp2_with fail
      go_region_law (first
        | (refine step_append_lies _ (by rfl) (.tmp 24) (.tmp 26) 58 (by rfl) 0 9 i0 (.string ByteArray.empty) 1 16 Tryd.underlying58 hi0 hy0 hy1 hy2 (by rfl) (by decide) vl k (strs (List.replicate k zeroB)) (by rfl) (by exact HROW.out _ _ hb1) ⟨_, 0, none⟩ 1 1 [.string (strOf zeroB)] (by rfl) (by rfl) (by exact HN.out _) (by simp [Value.oneCell']) (by decide) T1.out T2.out (Nat.zero_le _) _ (by rfl) ?_; intro g' cap W7 hrow hgr hgl hlt7; obtain ⟨c7, f7, h7⟩ := HST.out _ _ _ _ _ hb1 hrow hgr (by simpa using hgl) hlt7)
        | (go_simp; go_at_call 52; refine (ref_zero _).mono ?_; rintro e W1 ⟨rfl, hb1⟩; have c1 := C0.out W1 hb1; have c1a := CA.out W1 hb1))
      all_goals
        have HN7 := Lib.hid h7
        clear hrow hgr hgl hlt7 h7 c7 f7 c1 c1a
        go_wp2
        go_roundw
        case rel => exact ⟨k + 1, _, by omega, by go_num, HN7⟩
        case measure => simp [intOf]; omega
    · obtain rfl : k = n := by omega
      have HZ := Lib.hid (And.intro (newR_done h1 h2 hI.out) hI.out.below)
      clear hI
      go_wp2
      go_ret2
      exact ⟨rfl, HZ.out⟩

end Go.Proofs.YtkplmaaeggnbgaaDoor.Dk
