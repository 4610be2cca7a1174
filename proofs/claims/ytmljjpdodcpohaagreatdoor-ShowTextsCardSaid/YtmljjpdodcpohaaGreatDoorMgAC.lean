/- Facts on rows of bytes that a call owns; Facts on memory that the disk's proofs share; Tokens in blocks of their own, and the walks of lex; A name for a text that stands elsewhere. No condition but those that each states. -/
import Derived.WalkKit
import Derived.Laws.IdiomStrings
import Derived.Laws.OwnMore
import Derived.Test.YtmljjpdodcpohaaGreatDoorRows
import Derived.WalkLawsBesides
import Derived.WalkSpells
import Derived.ArgAppend
import Derived.Lib.Hide
import Derived.Lib.SlBuf
import Derived.Deep.OwnRows
import Derived.Deep.QuietTactic
import Derived.Deep.MidRow
import Derived.Deep.AppendLies
import Derived.Deep.RegionHeld3
import Derived.Deep.DrawnRows
import Derived.Deep.Heap
import Derived.LaidEqlPtr
import Derived.BigQuiet
import Derived.StillTailTactics
import Derived.Maps.OwnSet
import Derived.Maps.Views
import Derived.Shelf.SlMaps.Clone
import Derived.Test.YtmljjpdodcpohaaGreatDoorMgAB
namespace Go.Proofs.YtmljjpdodcpohaaGreatDoor
open Go.RowKit
def bv (l : List UInt8) : List Value := l.map fun b => .int .u8 (b.toNat : Int)
theorem bv_append (a b : List UInt8) : bv (a ++ b) = bv a ++ bv b := by simp [bv]
theorem run_convert_owned {P : Program} {w : World} {base : Nat} {src dst e : TypeId} {v : Value} {l : List UInt8} (hs : P.underlying src = some (.slice e)) (he : P.underlying e = some (.int .u8)) (hd : P.underlying dst = some .string)
    (hown : w.ownsRow base e 1 v l.length (bv l)) : (convert src dst v).run P w = .ok (.string ⟨l.toArray⟩) w := by
  rcases hown.2 with ⟨hv, h0⟩ | ⟨g, cap, cur, hv, hbg, hg, hnc, hcm, hcs, htake⟩
  · subst hv
    have hl : l = [] := List.eq_nil_of_length_eq_zero h0; subst hl; rw [run_convert_bytes_string w src dst e none 0 0 hs he hd]; simp [Conv.bytesToString]
    rfl
  · subst hv
    refine run_convert_bytes_back w src dst e ⟨g, 0, none⟩ cap l hs he hd (fun i hi => ?_); rw [Addr.add_lit, Nat.zero_add, hown.cellAt i (by omega)]; simp [bv, List.getElem?_eq_getElem hi]
theorem news_at (W : World) (cs : Array Value) (e : TypeId) : ∀ j u, cs.toList[j]? = some u → (W.alloc (.cells cs e)).cell? ((⟨W.heap.size, 0, none⟩ : Addr).add j) = some u := by
  intro j u h; rw [Addr.add_lit, Nat.zero_add, World.cell?_alloc_mark]; simpa using h
end Go.Proofs.YtmljjpdodcpohaaGreatDoor

namespace Go.Proofs.YtmljjpdodcpohaaGreatDoor.Dk
open Go.RowKit
theorem region_still_tail {P : Program} {id : Nat} {Q : Exit → Act → World → Prop} {a : Act} {w : World} {l : List Oper} (n : Nat) (hm : P.follows .mixedOrders = true) (hB : Region.lexTailB .any l.toArray n = true)
    (w1 : World) (hw : w.drew = w1) (h : wpStill P l.toArray w1 (fun a' => wpList P l.toArray Q (l.drop n) a' w1) (l.take n) a) : (Code.region id l.toArray true).wp P Q a w := by
  subst hw; exact wp_region_still_tail n hm hB h
theorem region_still {P : Program} {id : Nat} {Q : Exit → Act → World → Prop} {a : Act} {w : World} {l : List Oper} (hm : P.follows .mixedOrders = true) (hB : Region.lexB .any l.toArray = true)
    (w1 : World) (hw : w.drew = w1) (h : wpStill P l.toArray w1 (fun a' => Q .normal a' w1) l a) : (Code.region id l.toArray true).wp P Q a w := by
  subst hw; exact wp_region_still_lit hm hB h
theorem drawn_world (w0 : World) : ∃ w1 : World, Hid (w0.drew = w1) ∧ (∀ a, w1.cell? a = w0.cell? a) ∧ (∀ a, w1.frozen? a = w0.frozen? a) ∧ Hid (w1.heap = w0.heap) ∧ Hid (Below w0.heap.size w0 w1) :=
  ⟨_, rfl, fun _ => rfl, fun _ => rfl, rfl, ⟨rfl, rfl, rfl, Nat.le_refl _, fun _ _ => rfl⟩⟩
theorem chain2 {w w1 w2 : World} (h : Below w.heap.size w w1) (k : Below w1.heap.size w1 w2) : Below w.heap.size w w2 := h.trans (k.mono h.size)
theorem below_setCells {B : Nat} {w w' : World} (_h : Below B w w') (g : Nat) (hg : B ≤ g) : ∀ (vs : List Value) (o : Nat) (w' : World), Below B w w' → Below B w (w'.setCells g o vs)
  | [], _, _, h => h
  | v :: r, o, w', h => by
    rw [World.setCells]; exact below_setCells h g hg r (o + 1) _ (h.setCell (by simpa using hg) v)
theorem size_setCells (g : Nat) : ∀ (vs : List Value) (o : Nat) (w : World), (w.setCells g o vs).heap.size = w.heap.size
  | [], _, _ => rfl
  | v :: r, o, w => by
    rw [World.setCells, size_setCells g r (o + 1)]; simp
theorem range_new (W : World) (l : List Value) (u : TypeId) : (W.alloc (.cells l.toArray u)).rangeAt W.heap.size 0 l := fun j v hv => by
  rw [Nat.zero_add, World.cell?_alloc_mark]; simpa using hv
theorem there_new (W : World) (Z : Array Value) (u : TypeId) : (W.alloc (.cells Z u)).there W.heap.size 0 Z.size := fun j hj => by
  rw [Nat.zero_add]; refine ⟨?_, frozen_of_row _ _ _ Z u (heap_alloc_new W _)⟩; rw [cell_of_row _ _ _ Z u (0, 0) (heap_alloc_new W _), Array.getElem?_eq_getElem hj]; rfl
theorem there_setCell {w : World} {b o n : Nat} (h : w.there b o n) (a : Addr) (v : Value) : (w.setCell a v).there b o n := fun j hj => by
  obtain ⟨h1, h2⟩ := h j hj; refine ⟨?_, by simpa using h2⟩; obtain ⟨u, hu⟩ := Option.isSome_iff_exists.1 h1; by_cases e : a = ⟨b, o + j, none⟩
  · subst e; rw [World.cell?_setCell_same _ _ _ hu]; rfl
  · rw [World.cell?_setCell_other _ _ _ _ e, hu]; rfl
theorem rangeAt_left {w : World} {b o : Nat} {xs ys : List Value} (h : w.rangeAt b o (xs ++ ys)) : w.rangeAt b o xs := fun j v hv => by
  have hj : j < xs.length := (List.getElem?_eq_some_iff.1 hv).1; exact h j v (by rw [List.getElem?_append_left hj]; exact hv)
theorem rangeAt_right {w : World} {b o n : Nat} {xs ys : List Value} (h : w.rangeAt b o (xs ++ ys)) (hn : n = xs.length) : w.rangeAt b (o + n) ys := fun j v hv => by
  subst hn; have := h (xs.length + j) v (by rw [List.getElem?_append_right (by omega)]; simpa using hv)
  rwa [← Nat.add_assoc] at this
theorem rangeAt_block {w w' : World} {b o : Nat} {cs : List Value} (h : w.rangeAt b o cs) (hb : w'.heap[b]? = w.heap[b]?) : w'.rangeAt b o cs := fun j v hv =>
  (World.cell?_of_block (w := w) (w' := w') (a := ⟨b, o + j, none⟩) hb).trans (h j v hv)
theorem there_block {w w' : World} {b o n : Nat} (h : w.there b o n) (hb : w'.heap[b]? = w.heap[b]?) : w'.there b o n := fun j hj => by
  rw [World.cell?_of_block (w := w) (w' := w') (a := ⟨b, o + j, none⟩) hb, World.frozen?_of_block (w := w) (w' := w') (a := ⟨b, o + j, none⟩) hb]; exact h j hj
theorem ownsRow_block {w w' : World} {base : Nat} {e : TypeId} {size : Nat} {v : Value} {n : Nat} {xs : List Value} (h : w.ownsRow base e size v n xs) (hb : ∀ b, v.ownBlock = some b → w'.heap[b]? = w.heap[b]?) : w'.ownsRow base e size v n xs := by
  refine ⟨h.1, ?_⟩; rcases h.2 with h0 | ⟨g, cap, cur, hv, hbg, hg, rest⟩
  · exact .inl h0
  · exact .inr ⟨g, cap, cur, hv, hbg, (hb g (by rw [hv]; rfl)).trans hg, rest⟩
theorem ownsRow_base {w : World} {base base' : Nat} {e : TypeId} {size : Nat} {v : Value} {n : Nat} {xs : List Value} (h : w.ownsRow base e size v n xs) (hb : ∀ b, v.ownBlock = some b → base' ≤ b) : w.ownsRow base' e size v n xs := by
  refine ⟨h.1, ?_⟩; rcases h.2 with h0 | ⟨g, cap, cur, hv, hbg, rest⟩
  · exact .inl h0
  · exact .inr ⟨g, cap, cur, hv, hb g (by rw [hv]; rfl), rest⟩
theorem ownsRow_range {w : World} {base : Nat} {e : TypeId} {size : Nat} {g n cap : Nat} {xs : List Value} (h : w.ownsRow base e size (.slice (some ⟨g, 0, none⟩) n cap) n xs) : w.rangeAt g 0 xs := fun j v hv => by
  have := h.cells (g := g) rfl j v hv; rwa [Addr.add_lit] at this
structure Only (F : Nat → Prop) (w w' : World) : Prop where
  os : w'.os = w.os
  tape : w'.tape = w.tape
  output : w'.output = w.output
  size : w.heap.size ≤ w'.heap.size
  block : ∀ k, k < w.heap.size → ¬F k → w'.heap[k]? = w.heap[k]?
theorem Only.refl (F : Nat → Prop) (w : World) : Only F w w := ⟨rfl, rfl, rfl, Nat.le_refl _, fun _ _ _ => rfl⟩
theorem Only.trans {F G : Nat → Prop} {a b c : World} (h : Only F a b) (k : Only G b c) (hG : ∀ i, i < a.heap.size → G i → F i) : Only F a c :=
  ⟨k.os.trans h.os, k.tape.trans h.tape, k.output.trans h.output, Nat.le_trans h.size k.size, fun i hi hf => (k.block i (Nat.lt_of_lt_of_le hi h.size) (fun hg => hf (hG i hi hg))).trans (h.block i hi hf)⟩
theorem Only.mono {F G : Nat → Prop} {a b : World} (h : Only F a b) (hFG : ∀ i, F i → G i) : Only G a b := ⟨h.os, h.tape, h.output, h.size, fun i hi hg => h.block i hi (fun hf => hg (hFG i hf))⟩
theorem Only.of_below {F : Nat → Prop} {w w' : World} (h : Below w.heap.size w w') : Only F w w' := ⟨h.os, h.tape, h.output, h.size, fun k hk _ => h.block k hk⟩
theorem Only.drew {F : Nat → Prop} {a b : World} (h : Only F a b) : Only F a b.drew := ⟨h.os, h.tape, h.output, h.size, h.block⟩
theorem Only.alloc {F : Nat → Prop} {a b : World} (h : Only F a b) (o : Obj) : Only F a (b.alloc o) :=
  h.trans (Only.of_below (F := F) ((Below.refl _ _).alloc (Nat.le_refl _) _)) (fun _ _ h => h)
theorem Only.setCell {F : Nat → Prop} {a b : World} (h : Only F a b) (p : Addr) (hp : F p.block) (v : Value) : Only F a (b.setCell p v) :=
  have hb : Below 0 b (b.setCell p v) := (Below.refl 0 b).setCell (Nat.zero_le _) v; h.trans (G := F) ⟨hb.os, hb.tape, hb.output, hb.size, fun _k _ hk => Below.heap_setCell _ _ _ _ (fun e => hk (e ▸ hp))⟩ (fun _ _ h => h)
theorem Only.setCells {F : Nat → Prop} {a : World} (g : Nat) (hg : F g) : ∀ (vs : List Value) (o : Nat) (b : World), Only F a b → Only F a (b.setCells g o vs)
  | [], _, _, h => h
  | v :: r, o, b, h => by
    rw [World.setCells]; exact Only.setCells g hg r (o + 1) _ (h.setCell ⟨g, o, none⟩ hg v)
theorem Only.below {F : Nat → Prop} {B : Nat} {a w w' : World} (k : Only F w w') (h : Below B a w) (hF : ∀ i, F i → B ≤ i) (ha : B ≤ a.heap.size) : Below B a w' :=
  ⟨k.os.trans h.os, k.tape.trans h.tape, k.output.trans h.output, Nat.le_trans h.size k.size, fun i hi => (k.block i (by have := h.size; omega) (fun hf => by have := hF i hf; omega)).trans (h.block i hi)⟩
theorem Only.of_grown {F : Nat → Prop} {w w' : World} {row : Option Nat} (h : w.grownBy w' row) (hr : ∀ k, row = some k → F k) : Only F w w' :=
  ⟨h.os, h.tape, h.output, h.size, fun k hk hf => h.block k hk (fun e => hf (hr k e.symm))⟩
def strOf (l : List UInt8) : ByteArray := ⟨l.toArray⟩
theorem strOf_size (l : List UInt8) : (strOf l).size = l.length := by simp [strOf, ByteArray.size]
theorem strOf_toList (l : List UInt8) : (strOf l).data.toList = l := by simp [strOf]
theorem strOf_self (s : ByteArray) : strOf s.data.toList = s := by apply ByteArray.ext; simp [strOf]
end Go.Proofs.YtmljjpdodcpohaaGreatDoor.Dk

namespace Go.Proofs.YtmljjpdodcpohaaGreatDoor.Lx
open Lib (hid)
set_option maxHeartbeats 4000000
open Go.RowKit Dk
def Tk.cells (t : Tk) : List Value := [.int .i64 t.kind, .string (strOf t.text), .int .i64 t.n, .int .i64 t.place]
def Tk.zero : Tk := ⟨0, [], 0, 0⟩
structure TB (W : World) (B : Nat) (t : Tk) : Prop where
  cells : W.rangeAt B 0 t.cells
  room : W.there B 0 4
  lt : B < W.heap.size
theorem TB.of_block {W W' : World} {B : Nat} {t : Tk} (h : TB W B t) (hb : W'.heap[B]? = W.heap[B]?) (hs : W.heap.size ≤ W'.heap.size) : TB W' B t := ⟨rangeAt_block h.cells hb, there_block h.room hb, Nat.lt_of_lt_of_le h.lt hs⟩
theorem TB.later {W W' : World} {B : Nat} {t : Tk} (h : TB W B t) (hb : Below W.heap.size W W') : TB W' B t := h.of_block (hb.block B h.lt) hb.size
theorem tb_new (w : World) (t : Tk) (ty : TypeId) : TB (w.alloc (.cells t.cells.toArray ty)) w.heap.size t := ⟨range_new w t.cells ty, there_new w t.cells.toArray ty, by simp⟩
theorem TB.set {W : World} {B : Nat} {t : Tk} (h : TB W B t) (t' : Tk) : TB (W.setCells B 0 t'.cells) B t' :=
  ⟨World.rangeAt_setCells_same W B 0 t'.cells h.room, World.there_setCells h.room _ _ _, by rw [Dk.size_setCells]; exact h.lt⟩
theorem t_one (t : Tk) : ∀ u ∈ t.cells, u.oneCell' = true := by
  intro u hu; simp [Tk.cells] at hu
  rcases hu with rfl | rfl | rfl | rfl <;> rfl
theorem t_all (t : Tk) : t.cells.toArray.all (·.oneCell') = true := all_oneCell_toArray (t_one t)
theorem t_info (t : Tk) : (Tryz.prog.info? 73).map (·.size) = some t.cells.length := by kernel_rfl
theorem t_infoA (t : Tk) : (Tryz.prog.info? 73).map (·.size) = some t.cells.toArray.size := t_info t
theorem t_info3 : (Tryz.prog.info? 73).map (fun i => (i.zero, i.size, i.bytes)) = some (some (.agg Tk.zero.cells.toArray), 4, 40) := by kernel_rfl
theorem results_cell3 {P : Program} {fn : Func} {t u v : Tmp} {ty : TypeId} {d : TypeDesc} {cs : List Value} {b : Nat} (h : fn.results = #[.cell t ty, .tmp u, .tmp v]) (tmps : Array Value) (w : World) (ht : tmps.getD t undef = .pointer (some ⟨b, 0, none⟩)) (hc : w.rangeAt b 0 cs)
    (hu : P.underlying ty = some d) (hd : d.isRow = true) (hi : (P.info? ty).map (·.size) = some cs.length) : (results fn tmps).run P w = .ok (.tuple #[.agg cs.toArray, tmps.getD u undef, tmps.getD v undef]) w := by
  have hl := run_loadVar_mid (P := P) w b 0 ty cs d hc hu hd hi; simp only [Array.getD_eq_getD_getElem?] at ht; simp [results, h, ht, hl, asAddr]
theorem strOf_tl (l : List UInt8) : (strOf l).toList = l := ByteArray.toList_mk l
theorem str_beq (a b : List UInt8) : ((strOf a).toList == (strOf b).toList) = decide (a = b) := by
  rw [strOf_tl, strOf_tl]; by_cases h : a = b
  · rw [decide_eq_true h]; subst h; simp
  · rw [decide_eq_false h]; exact beq_false_of_ne h
theorem key_yes (l : List UInt8) (h : l ∈ keyList) (w : World) : Calls Tryz.prog 99 #[.string (strOf l)] w fun e w' => e = .returned (.bool true) ∧ w = w' := by
  have hb : ∀ m, m ∈ keyList → ((strOf l).toList == m) = decide (l = m) := fun m _ => by
    have := str_beq l m; rwa [strOf_tl m] at this
  simp only [keyList, List.mem_cons, List.not_mem_nil, or_false, forall_eq_or_imp, forall_eq] at hb; obtain ⟨h1, h2, h3, h4, h5, h6, h7, h8, h9, h10, h11, h12, h13, h14, h15, h16, h17, h18, h19, h20⟩ := hb; simp only [keyList, List.mem_cons, List.not_mem_nil, or_false] at h; generalize strOf l = s at *; rcases h with rfl | rfl | rfl | rfl | rfl | rfl | rfl | rfl | rfl | rfl | rfl | rfl | rfl | rfl | rfl | rfl | rfl | rfl | rfl | rfl
  all_goals
    first | replace h1 := h1.trans (show decide _ = true by decide) | replace h1 := h1.trans (show decide _ = false by decide)
    first | replace h2 := h2.trans (show decide _ = true by decide) | replace h2 := h2.trans (show decide _ = false by decide)
    first | replace h3 := h3.trans (show decide _ = true by decide) | replace h3 := h3.trans (show decide _ = false by decide)
    first | replace h4 := h4.trans (show decide _ = true by decide) | replace h4 := h4.trans (show decide _ = false by decide)
    first | replace h5 := h5.trans (show decide _ = true by decide) | replace h5 := h5.trans (show decide _ = false by decide)
    first | replace h6 := h6.trans (show decide _ = true by decide) | replace h6 := h6.trans (show decide _ = false by decide)
    first | replace h7 := h7.trans (show decide _ = true by decide) | replace h7 := h7.trans (show decide _ = false by decide)
    first | replace h8 := h8.trans (show decide _ = true by decide) | replace h8 := h8.trans (show decide _ = false by decide)
    first | replace h9 := h9.trans (show decide _ = true by decide) | replace h9 := h9.trans (show decide _ = false by decide)
    first | replace h10 := h10.trans (show decide _ = true by decide) | replace h10 := h10.trans (show decide _ = false by decide)
    first | replace h11 := h11.trans (show decide _ = true by decide) | replace h11 := h11.trans (show decide _ = false by decide)
    first | replace h12 := h12.trans (show decide _ = true by decide) | replace h12 := h12.trans (show decide _ = false by decide)
    first | replace h13 := h13.trans (show decide _ = true by decide) | replace h13 := h13.trans (show decide _ = false by decide)
    first | replace h14 := h14.trans (show decide _ = true by decide) | replace h14 := h14.trans (show decide _ = false by decide)
    first | replace h15 := h15.trans (show decide _ = true by decide) | replace h15 := h15.trans (show decide _ = false by decide)
    first | replace h16 := h16.trans (show decide _ = true by decide) | replace h16 := h16.trans (show decide _ = false by decide)
    first | replace h17 := h17.trans (show decide _ = true by decide) | replace h17 := h17.trans (show decide _ = false by decide)
    first | replace h18 := h18.trans (show decide _ = true by decide) | replace h18 := h18.trans (show decide _ = false by decide)
    first | replace h19 := h19.trans (show decide _ = true by decide) | replace h19 := h19.trans (show decide _ = false by decide)
    first | replace h20 := h20.trans (show decide _ = true by decide) | replace h20 := h20.trans (show decide _ = false by decide)
    go_enter Tryz.func99, Tryz.ntmps99
    go_wp2; go_ret; exact ⟨rfl, rfl⟩
theorem key_no (l : List UInt8) (h : l ∉ keyList) (w : World) : Calls Tryz.prog 99 #[.string (strOf l)] w fun e w' => e = .returned (.bool false) ∧ w = w' := by
  have hb : ∀ m, m ∈ keyList → ((strOf l).toList == m) = false := fun m hm => by
    rw [strOf_tl]; exact beq_false_of_ne (fun e => h (e ▸ hm))
  simp only [keyList, List.mem_cons, List.not_mem_nil, or_false, forall_eq_or_imp, forall_eq] at hb; obtain ⟨h1, h2, h3, h4, h5, h6, h7, h8, h9, h10, h11, h12, h13, h14, h15, h16, h17, h18, h19, h20⟩ := hb; generalize strOf l = s at *; go_enter Tryz.func99, Tryz.ntmps99
  go_wp2; go_ret; exact ⟨rfl, rfl⟩
theorem isKey_iff (l : List UInt8) : isKey l = true ↔ l ∈ keyList := by unfold isKey; exact List.contains_iff_mem
theorem key_any (l : List UInt8) (w : World) : Calls Tryz.prog 99 #[.string (strOf l)] w fun e w' => e = .returned (.bool (isKey l)) ∧ w = w' := by
  cases h : isKey l with
  | true => exact key_yes l ((isKey_iff l).1 h) w
  | false => exact key_no l (fun hm => by rw [(isKey_iff l).2 hm] at h; cases h) w
theorem markOf_cons (l m : List UInt8) (r : List (List UInt8)) : markOf l (m :: r) = if m.isPrefixOf l then m.length else markOf l r := rfl
theorem indexByte_cons (x : UInt8) (cs : List UInt8) (c : UInt8) : Lib.indexByte (x :: cs) c = if x == c then 0 else if Lib.indexByte cs c == -1 then -1 else Lib.indexByte cs c + 1 := rfl
theorem markOf_ones (c : UInt8) (r : List UInt8) : ∀ cs : List UInt8, markOf (c :: r) (cs.map fun x => [x]) = if 0 ≤ Lib.indexByte cs c then 1 else 0
  | [] => by rw [if_neg (by simp [Lib.indexByte])]; rfl
  | x :: cs => by
    rw [List.map_cons, markOf_cons, markOf_ones c r cs]; have hge := Lib.indexByte_ge cs c; rw [indexByte_cons]; by_cases h : x = c
    · subst h; simp
    · have h1 : (x == c) = false := beq_false_of_ne h
      have h2 : [x].isPrefixOf (c :: r) = false := by simp [List.isPrefixOf, h]
      rw [h1, h2]; by_cases h3 : Lib.indexByte cs c = -1
      · rw [h3]; simp
      · have : (Lib.indexByte cs c == -1) = false := by simpa using h3
        rw [this]; simp only [Bool.false_eq_true, if_false]; rw [if_pos (by omega), if_pos (by omega)]
def ones : List UInt8 := [40, 41, 123, 125, 91, 93, 44, 59, 46, 47, 61, 60, 43, 45, 42, 37]
theorem marks_drop : markList.drop 4 = ones.map fun x => [x] := rfl
theorem markSize_any (c : UInt8) (r : List UInt8) (w : World) : Calls Tryz.prog 179 #[.string (strOf (c :: r))] w fun e w' => e = .returned (.int .i64 (markN (c :: r) : Nat)) ∧ Below w.heap.size w w' := by
  have HP : Hid (∀ m W, Calls Tryz.prog 205 #[.string (strOf (c :: r)), .string (strOf m)] W fun e w' => e = .returned (.bool (m.isPrefixOf (c :: r))) ∧ w' = W) := hid (fun m W => by
    have := strings_HasPrefix (strOf (c :: r)) (strOf m) W; rw [strOf_toList, strOf_toList] at this
    exact this)
  have HX : Hid (∀ W, Calls Tryz.prog 206 #[.string ⟨#[40, 41, 123, 125, 91, 93, 44, 59, 46, 47, 61, 60, 43, 45, 42, 37]⟩, .int .u8 (c.toNat : Int)] W fun e w' => e = .returned (.int .i64 (Lib.indexByte ones c)) ∧ w' = W) := hid (fun W => by
    have := strings_IndexByte (strOf ones) (c.toNat : Int) W; rw [strOf_toList, show ((c.toNat : Int).toNat).toUInt8 = c by simp] at this
    exact this)
  have H0 : Hid (markN (c :: r) = markOf (c :: r) (markList.drop 0)) := hid rfl; have hpos : 0 < (strOf (c :: r)).size := by rw [strOf_size]; simp
  have hidx : ∀ W : World, (Instr.index 9 (.string (strOf (c :: r))) (.int .i64 0)).run Tryz.prog W = .ok (.int .u8 (c.toNat : Int)) W := fun W => by
    have h1 : ((strOf (c :: r))[0]'hpos) = c := rfl; rw [← h1]; go_simp
  generalize hs : strOf (c :: r) = s at *; clear hs; go_enter Tryz.func179, Tryz.ntmps179
  go_wp2
  have q : ∀ j u, #[Value.string ⟨#[61, 61]⟩, Value.string ⟨#[33, 61]⟩, Value.string ⟨#[60, 61]⟩, Value.string ⟨#[46, 46]⟩][j]? = some u → (w.alloc (.cells #[Value.string ⟨#[61, 61]⟩, Value.string ⟨#[33, 61]⟩, Value.string ⟨#[60, 61]⟩, Value.string ⟨#[46, 46]⟩] 9)).cell? ⟨w.heap.size, j, none⟩ = some u := fun j u h => by
    rw [World.cell?_alloc_mark]; simpa using h
  have q0 := q 0 _ rfl; have q1 := q 1 _ rfl; have q2 := q 2 _ rfl; have q3 := q 3 _ rfl; clear q; have HB : Hid (Below w.heap.size w (w.alloc (.cells #[Value.string ⟨#[61, 61]⟩, Value.string ⟨#[33, 61]⟩, Value.string ⟨#[60, 61]⟩, Value.string ⟨#[46, 46]⟩] 9))) := hid ((Below.refl _ _).alloc (Nat.le_refl _) _); generalize w.alloc (.cells #[Value.string ⟨#[61, 61]⟩, Value.string ⟨#[33, 61]⟩, Value.string ⟨#[60, 61]⟩, Value.string ⟨#[46, 46]⟩] 9) = W1 at *; go_loopw [7] (fun vi wr => ∃ j : Nat, j ≤ 4 ∧ vi = .int .i64 (j : Int) ∧ wr = W1 ∧ Hid (markN (c :: r) = markOf (c :: r) (markList.drop j))) (fun vi _ => 4 - (intOf vi).toNat)
  case atStart => exact ⟨0, Nat.zero_le _, rfl, rfl, H0⟩
  case round =>
    obtain ⟨j, hj, rfl, rfl, hm⟩ := hrel; rcases (show j = 0 ∨ j = 1 ∨ j = 2 ∨ j = 3 ∨ j = 4 by omega) with rfl | rfl | rfl | rfl | rfl
    · have hm' := hm.out
      rw [show markList.drop 0 = [61, 61] :: markList.drop 1 from rfl, markOf_cons] at hm'; have C := hid (HP.out [61, 61]); cases hb : List.isPrefixOf [61, 61] (c :: r) with
      | true =>
        rw [hb] at hm' C; have HM := hid hm'; clear hb hm hm' H0; go_wp2_with (go_at_call 205; refine (C.out _).mono ?_; rintro e w' ⟨rfl, rfl⟩)
        go_ret; exact ⟨by rw [HM.out]; rfl, HB.out⟩
      | false =>
        rw [hb] at hm' C; have HM := hid hm'; clear hb hm hm' H0; go_wp2_with (go_at_call 205; refine (C.out _).mono ?_; rintro e w' ⟨rfl, rfl⟩)
        go_roundw
        case rel => exact ⟨1, by omega, by go_num, by trivial, HM⟩
        case measure => simp [intOf]
    · have hm' := hm.out
      rw [show markList.drop 1 = [33, 61] :: markList.drop 2 from rfl, markOf_cons] at hm'; have C := hid (HP.out [33, 61]); cases hb : List.isPrefixOf [33, 61] (c :: r) with
      | true =>
        rw [hb] at hm' C; have HM := hid hm'; clear hb hm hm' H0; go_wp2_with (go_at_call 205; refine (C.out _).mono ?_; rintro e w' ⟨rfl, rfl⟩)
        go_ret; exact ⟨by rw [HM.out]; rfl, HB.out⟩
      | false =>
        rw [hb] at hm' C; have HM := hid hm'; clear hb hm hm' H0; go_wp2_with (go_at_call 205; refine (C.out _).mono ?_; rintro e w' ⟨rfl, rfl⟩)
        go_roundw
        case rel => exact ⟨2, by omega, by go_num, by trivial, HM⟩
        case measure => simp [intOf]
    · have hm' := hm.out
      rw [show markList.drop 2 = [60, 61] :: markList.drop 3 from rfl, markOf_cons] at hm'; have C := hid (HP.out [60, 61]); cases hb : List.isPrefixOf [60, 61] (c :: r) with
      | true =>
        rw [hb] at hm' C; have HM := hid hm'; clear hb hm hm' H0; go_wp2_with (go_at_call 205; refine (C.out _).mono ?_; rintro e w' ⟨rfl, rfl⟩)
        go_ret; exact ⟨by rw [HM.out]; rfl, HB.out⟩
      | false =>
        rw [hb] at hm' C; have HM := hid hm'; clear hb hm hm' H0; go_wp2_with (go_at_call 205; refine (C.out _).mono ?_; rintro e w' ⟨rfl, rfl⟩)
        go_roundw
        case rel => exact ⟨3, by omega, by go_num, by trivial, HM⟩
        case measure => simp [intOf]
    · have hm' := hm.out
      rw [show markList.drop 3 = [46, 46] :: markList.drop 4 from rfl, markOf_cons] at hm'; have C := hid (HP.out [46, 46]); cases hb : List.isPrefixOf [46, 46] (c :: r) with
      | true =>
        rw [hb] at hm' C; have HM := hid hm'; clear hb hm hm' H0; go_wp2_with (go_at_call 205; refine (C.out _).mono ?_; rintro e w' ⟨rfl, rfl⟩)
        go_ret; exact ⟨by rw [HM.out]; rfl, HB.out⟩
      | false =>
        rw [hb] at hm' C; have HM := hid hm'; clear hb hm hm' H0; go_wp2_with (go_at_call 205; refine (C.out _).mono ?_; rintro e w' ⟨rfl, rfl⟩)
        go_roundw
        case rel => exact ⟨4, by omega, by go_num, by trivial, HM⟩
        case measure => simp [intOf]
    · have hm' := hm.out
      rw [marks_drop, markOf_ones] at hm'; by_cases h0 : 0 ≤ Lib.indexByte ones c
      · rw [if_pos h0] at hm'
        have HM := hid hm'; generalize Lib.indexByte ones c = n at *; clear hm hm' H0; go_wp2_with (go_at_call 206; refine (HX.out _).mono ?_; rintro e w' ⟨rfl, rfl⟩)
        go_ret; exact ⟨by rw [HM.out]; rfl, HB.out⟩
      · rw [if_neg h0] at hm'
        have HM := hid hm'; generalize Lib.indexByte ones c = n at *; have h1 : n < 0 := by omega
        clear hm hm' H0; go_wp2_with (go_at_call 206; refine (HX.out _).mono ?_; rintro e w' ⟨rfl, rfl⟩)
        go_ret; exact ⟨by rw [HM.out]; rfl, HB.out⟩
end Go.Proofs.YtmljjpdodcpohaaGreatDoor.Lx

