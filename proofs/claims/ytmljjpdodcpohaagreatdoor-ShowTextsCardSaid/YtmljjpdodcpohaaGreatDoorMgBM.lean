/- slices; What preorder keeps from round to round; The walk of preorder. No condition but those that each states. -/
import Derived.Test.YtmljjpdodcpohaaGreatDoorMgAX
import Derived.RangeFuncNested
import Derived.RangeFuncBox
import Derived.RangeFuncLeaves
import Derived.Shelf.Abstract
import Derived.WalkKit
import Derived.OwnWalkIn
import Derived.TacticsInMore
import Derived.LoopNIn
import Derived.LoopIn
import Derived.Maps.AppendAt
import Derived.Test.YtmljjpdodcpohaaGreatDoorMgBC
import Derived.Test.YtmljjpdodcpohaaGreatDoorMgAE
import Derived.Maps.OwnIn
namespace Go.Proofs.YtmljjpdodcpohaaGreatDoor.Pa
open Lib (hid)
set_option maxRecDepth 100000
set_option maxHeartbeats 2000000
open Go.RowKit Go.Shelf Dk Lx Tr
attribute [local go_sem] Oper.semAt_some
def upto {α : Type} (f : Nat → α) (k : Nat) : List α := (List.range k).map f
theorem upto_succ {α : Type} (f : Nat → α) (k : Nat) : upto f (k + 1) = upto f k ++ [f k] := by simp [upto, List.range_succ]
theorem upto_length {α : Type} (f : Nat → α) (k : Nat) : (upto f k).length = k := by simp [upto]
def back (ps : List Nat) (j : Nat) : Nat × Nat := (ps.length - 1 - j, ps.getD (ps.length - 1 - j) 0)
def encB (x : Nat × Nat) : Array Value := #[.int .i64 (x.1 : Int), ptr x.2]
def KeepZ (Z : Nat → Prop) (A B : World) : Prop := ∀ k, Z k → B.heap[k]? = A.heap[k]?
theorem KeepZ.trans {Z : Nat → Prop} {A B C : World} (h : KeepZ Z A B) (k : KeepZ Z B C) : KeepZ Z A C := fun i hi => (k i hi).trans (h i hi)
theorem back1_in (F : Fence) (n : Nat) (hf : F.fn 185) (hro : F.round = none) (hn : 1 ≤ n) (l Bs b off len cap : Nat) (ps : List Nat) (hps : len = ps.length) (hlen : len ≤ 2000000) (Z : Nat → Prop) (hZB : Z Bs) (hZb : Z b) (J Jx : List (Nat × Nat) → World → Prop)
    (hY : ∀ pre x W, J pre W → pre.length < len → YieldAt F (n - 1) Tryz.prog l (encB x) W fun e W' =>
      (e = .returned (.bool true) ∧ J (pre ++ [x]) W' ∧ KeepZ Z W W') ∨ (e = .returned (.bool false) ∧ Jx (pre ++ [x]) W'))
    (W : World) (hBs : W.cell? ⟨Bs, 0, none⟩ = some (.slice (some ⟨b, off, none⟩) len cap)) (hc : ∀ j, j < len → W.cell? ⟨b, off + j, none⟩ = some (ptr (ps.getD j 0))) (h0 : J [] W) :
    CallsIn F n Tryz.prog 185 #[.func (.yield l) #[] #[], .pointer (some ⟨Bs, 0, none⟩)] W fun e W' => (∃ v, e = .returned v) ∧
      ((∃ ys, ys = upto (back ps) len ∧ J ys W') ∨ (∃ pre, (∃ k, k ≤ len ∧ pre = upto (back ps) k) ∧ Jx pre W')) := by
  have HPS := hid hps; have HC := hid hc; have HY := hid hY; clear hps hc hY; refine callsIn_of_wp Tryz.func185 rfl hf ?_ hro; simp only [Tryz.ntmps185, List.size_toArray, List.length_cons, List.length_nil, Nat.reduceAdd, Nat.reduceSub, Array.replicate_succ, Array.replicate_zero, List.push_toArray, List.append_toArray, List.nil_append, List.cons_append]; gi_wp2
  gi_loopw [3] (fun i wr => ∃ k : Nat, k ≤ len ∧ i = .int .i64 ((len : Int) - 1 - (k : Int)) ∧ J (upto (back ps) k) wr ∧ KeepZ Z W wr)
    (fun i _ => (intOf i + 1).toNat)
  case atStart => exact ⟨0, Nat.zero_le _, by simp, h0, fun _ _ => rfl⟩
  case round =>
    obtain ⟨k, hk, rfl, hJs, hnx⟩ := hrel; by_cases hlt : k < len
    · obtain ⟨m, hm⟩ : ∃ m : Nat, m = len - 1 - k := ⟨_, rfl⟩
      have em : (len : Int) - 1 - (k : Int) = (m : Int) := by omega
      have eb : back ps k = (m, ps.getD m 0) := by unfold back; rw [← HPS.out, ← hm]
      have hml : m < len := by omega
      have c0 : wr.cell? ⟨Bs, 0, none⟩ = some (.slice (some ⟨b, off, none⟩) len cap) := (World.cell?_of_block (a := ⟨Bs, 0, none⟩) (hnx Bs hZB)).trans hBs; have c1 : wr.cell? ⟨b, off + m, none⟩ = some (ptr (ps.getD m 0)) := (World.cell?_of_block (a := ⟨b, off + m, none⟩) (hnx b hZb)).trans (HC.out m hml); obtain ⟨fn, tmps, assign, body, hy, hR⟩ := HY.out _ (m, ps.getD m 0) wr hJs (by rw [upto_length]; exact hlt)
      have HEB := hid eb; have HEM := hid em; have HM := hid hm; generalize ps.getD m 0 = pb at *; simp only [encB] at hy; rw [em]; have z0 : (m : Int) ≥ 0 := by omega
      have z0' : (0 : Int) ≤ (m : Int) := by omega
      have z1 : (m : Int) < (len : Int) := by omega
      clear em hm eb; gi_wp2
      refine hR.mono ?_; rintro e W3 (⟨rfl, hJ3, hk3⟩ | ⟨rfl, hJx3⟩)
      · gi_wp2
        go_roundw
        case rel => exact ⟨k + 1, by omega, by have := HEM.out; first | (simp; done) | (simp; omega), by rw [upto_succ, HEB.out]; exact hJ3, hnx.trans hk3⟩
        case measure => first | (simp [intOf]; done) | (simp [intOf]; omega)
      · gi_wp2
        refine bodyPost_ret (results_none rfl _ _ _) rfl ?_; exact ⟨⟨_, rfl⟩, .inr ⟨_, ⟨k + 1, by omega, by rw [upto_succ, HEB.out]⟩, hJx3⟩⟩
    · obtain rfl : k = len := by omega
      have z0 : ¬((k : Int) - 1 - (k : Int) ≥ 0) := by omega
      gi_wp2
      go_end0
      exact ⟨⟨_, rfl⟩, .inl hJs⟩
theorem back1_nil_in (F : Fence) (n : Nat) (hf : F.fn 185) (hro : F.round = none) (l Bs : Nat) (q : Option Addr) (c : Nat) (J : List (Nat × Nat) → World → Prop) (W : World) (hBs : W.cell? ⟨Bs, 0, none⟩ = some (.slice q 0 c)) (h0 : J [] W) :
    CallsIn F n Tryz.prog 185 #[.func (.yield l) #[] #[], .pointer (some ⟨Bs, 0, none⟩)] W fun e W' => (∃ v, e = .returned v) ∧ J [] W' := by
  refine callsIn_of_wp Tryz.func185 rfl hf ?_ hro; simp only [Tryz.ntmps185, List.size_toArray, List.length_cons, List.length_nil, Nat.reduceAdd, Nat.reduceSub, Array.replicate_succ, Array.replicate_zero, List.push_toArray, List.append_toArray, List.nil_append, List.cons_append]; gi_wp2
  gi_loopw [3] (fun i wr => i = .int .i64 (-1) ∧ J [] wr) (fun _ _ => 0)
  case atStart => exact ⟨rfl, h0⟩
  case round =>
    obtain ⟨rfl, hJs⟩ := hrel; gi_wp2
    go_end0
    exact ⟨⟨_, rfl⟩, hJs⟩
theorem back_in (F : Fence) (n : Nat) (hf : F.fn 152) (hro : F.round = none) (a : Option Addr) (len cap : Nat) (w : World) :
    CallsIn F n Tryz.prog 152 #[.slice a len cap] w fun e w' => e = .returned (.func (.func 185) #[] #[.pointer (some ⟨w.heap.size, 0, none⟩)]) ∧ w' = w.alloc (.cells #[.slice a len cap] 172) := by
  refine callsIn_of_wp Tryz.func152 rfl hf ?_ hro; simp only [Tryz.ntmps152, List.size_toArray, List.length_cons, List.length_nil, Nat.reduceAdd, Nat.reduceSub, Array.replicate_succ, Array.replicate_zero, List.push_toArray, List.append_toArray, List.nil_append, List.cons_append]; gi_wp2
  go_ret; exact ⟨rfl, rfl⟩
def PtrZ (Z : Nat → Prop) (W : World) (sv : Value) (ps : List Nat) : Prop := ∃ q c, sv = .slice q ps.length c ∧ (ps = [] ∨ ∃ r o, q = some ⟨r, o, none⟩ ∧ Z r ∧ r < W.heap.size ∧ W.rangeAt r o (bp ps))
theorem back_stops (F : Fence) (n : Nat) (hf : F.fn 185) (hro : F.round = none) (hn : 1 ≤ n) (Z : Nat → Prop) (Bs : Nat) (hZB : Z Bs) (sv : Value) (ps : List Nat) (hlen : ps.length ≤ 2000000) (w : World) (hBs : Bs < w.heap.size) (hc : w.cell? ⟨Bs, 0, none⟩ = some sv) (hI : PtrZ Z w sv ps) :
    SeqStopsK F n Tryz.prog 185 #[.pointer (some ⟨Bs, 0, none⟩)] encB (KeepZ Z) (fun ys => ys = upto (back ps) ps.length) (fun pre => ∃ k, k ≤ ps.length ∧ pre = upto (back ps) k) ps.length w := fun l J Jx W hW _ _ hY h0 => by
  have hc' := (hW.cell (p := ⟨Bs, 0, none⟩) hBs).trans hc; obtain ⟨q, c, rfl, h | ⟨r, o, rfl, hZr, hr, hrow⟩⟩ := hI
  · subst h
    exact (back1_nil_in F n hf hro l Bs q c J W hc' h0).mono fun e W' ⟨he, hj⟩ => ⟨he, .inl ⟨_, rfl, hj⟩⟩
  · refine back1_in F n hf hro hn l Bs r o ps.length c ps rfl hlen Z hZB hZr J Jx hY W hc' (fun j hj => ?_) h0
    refine (hW.cell (p := ⟨r, o + j, none⟩) hr).trans (hrow j _ ?_); simp [bp, hj]
end Go.Proofs.YtmljjpdodcpohaaGreatDoor.Pa

namespace Go.Proofs.YtmljjpdodcpohaaGreatDoor.Pa
open Go.RowKit Go.Shelf Dk Lx Tr
theorem br_put {W : World} {X : Nat → Prop} {b c : Nat} {t : List Nd} {k0 k : Int} (h : Br W X b t) (hc : W.cell? ⟨c, 1, none⟩ = some (.int .i64 k0)) : Br (W.setCell ⟨c, 1, none⟩ (.int .i64 k)) X b t := by
  induction h with
  | mk b x k1 v cs hcs ht hb hX hr hs ih =>
    have hrow : Row (W.setCell ⟨c, 1, none⟩ (.int .i64 k)) X v (cs.map (·.1)) := by
      obtain ⟨p, cp, hv, hcap, h0 | ⟨r, o, hp, hr0, hx, hq⟩⟩ := hr
      · exact ⟨p, cp, hv, hcap, .inl h0⟩
      · refine ⟨p, cp, hv, hcap, .inr ⟨r, o, hp, by simpa using hr0, hx, fun j u hu => ?_⟩⟩
        have h1 := hq j u hu; by_cases e : (⟨r, o + j, none⟩ : Addr) = ⟨c, 1, none⟩
        · rw [e, hc] at h1
          simp only [bp, List.getElem?_map, Option.map_eq_some_iff] at hu; obtain ⟨a, -, rfl⟩ := hu; cases h1
        · rw [World.cell?_setCell_other _ _ _ _ (fun e2 => e e2.symm)]
          exact h1
    by_cases e : b = c
    · subst e
      refine .mk b x k v cs (fun j u hu => ?_) (there_setCell ht _ _) (by simpa using hb) hX hrow ih; rw [Nat.zero_add]; by_cases ej : j = 1
      · subst ej
        rw [World.cell?_setCell_same _ _ _ hc]; exact hu
      · rw [World.cell?_setCell_other _ _ _ _ (by simp [])]
        have := hcs j u (by
          rcases j with _ | _ | j
          · exact hu
          · exact absurd rfl ej
          · exact hu)
        rwa [Nat.zero_add] at this
    · refine .mk b x k1 v cs (fun j u hu => ?_) (there_setCell ht _ _) (by simpa using hb) hX hrow ih
      rw [World.cell?_setCell_other _ _ _ _ (by simp [])]; exact hcs j u hu
theorem br_open {W : World} {X : Nat → Prop} {b : Nat} {t : List Nd} (h : Br W X b t) : ∃ (x : Nd) (k : Int) (v : Value) (cs : List (Nat × List Nd)), t = join x (cs.map (·.2)) ∧ W.rangeAt b 0 (bcells x k v) ∧ W.there b 0 6 ∧ b < W.heap.size ∧ ¬X b ∧ Row W X v (cs.map (·.1)) ∧ ∀ c ∈ cs, Br W X c.1 c.2 := by
  cases h with
  | mk b x k v cs hc ht hb hX hr hs => exact ⟨x, k, v, cs, rfl, hc, ht, hb, hX, hr, hs⟩
structure Pre (b0 : Nat) (w W : World) (ob : Nat) (vn vo : Value) (nodes : List Nd) (opn : List (Nat × List Nd)) (Ds : List Nat) : Prop where
  box : Boxed W ob 172 vo
  own : w.heap.size ≤ ob
  open' : W.ownsRow w.heap.size 128 1 vo opn.length (bp (opn.map (·.1)))
  nodes' : W.ownsRow w.heap.size 58 5 vn nodes.length (ncells nodes)
  kids : ∀ c ∈ opn, Br W (fun k => k < b0 ∨ w.heap.size ≤ k) c.1 c.2
  old : Only (fun k => b0 ≤ k) w W
  marks : ∀ D ∈ Ds, w.heap.size ≤ D ∧ W.heap[D]? = some (.deferred (some []))
  nodup : Ds.Nodup
def rest (opn : List (Nat × List Nd)) : List Nd := (opn.reverse.map (·.2)).flatten
end Go.Proofs.YtmljjpdodcpohaaGreatDoor.Pa

namespace Go.Proofs.YtmljjpdodcpohaaGreatDoor.Pa
set_option maxRecDepth 100000
set_option maxHeartbeats 4000000
open Go.RowKit Go.Shelf Dk Lx Tr
attribute [local go_sem] Oper.semAt_some
def mark (D : Nat) : Deferred := { target := .collected D, args := #[] }
theorem leaves_marks {F : Fence} {n : Nat} {P : Program} {fn : Func} {tmps : Array Value} {R : Ending → World → Prop} (J : World → Prop) :
    ∀ (Ds : List Nat) (W : World), Ds.Nodup → (∀ D ∈ Ds, W.heap[D]? = some (.deferred (some []))) → (∀ D ∈ Ds, ∀ W, J W → W.heap[D]? = some (.deferred (some [])) → J (W.putObj D (.deferred none))) →
    (∀ W, J W → ∃ v, (results fn tmps).run P W = .ok v W ∧ R (.returned v) W) → J W → LeavesInM F n P fn tmps R (Ds.map mark) .returning W
  | [], W, _, _, _, hR, h0 => hR W h0
  | D :: Ds, W, hn, hm, hJ, hR, h0 => by
    have hD := hm D (List.mem_cons_self ..); refine ⟨by simp, .inl ⟨_, _, rfl, run_takeDeferred hD, ?_⟩⟩; refine leaves_marks J Ds _ (List.nodup_cons.mp hn).2 (fun E hE => ?_) (fun E hE => hJ E (List.mem_cons_of_mem _ hE)) hR (hJ D (List.mem_cons_self ..) W h0 hD); rw [World.putObj_heap_other (fun e : E = D => (List.nodup_cons.mp hn).1 (by rw [← e]; exact hE))]
    exact hm E (List.mem_cons_of_mem _ hE)
theorem Only.putObj {G : Nat → Prop} {a b : World} (h : Only G a b) {D : Nat} (hD : G D) (o : Obj) : Only G a (b.putObj D o) :=
  ⟨h.os, h.tape, h.output, by simpa using h.size, fun k hk hg => (World.putObj_heap_other (fun e : k = D => hg (by rw [e]; exact hD))).trans (h.block k hk hg)⟩
theorem rows_ne {w : World} {b1 b2 s1 s2 n1 n2 : Nat} {e1 e2 : TypeId} {v1 v2 : Value} {x1 x2 : List Value} (h1 : w.ownsRow b1 e1 s1 v1 n1 x1) (h2 : w.ownsRow b2 e2 s2 v2 n2 x2) (he : e1 ≠ e2) : v1.ownBlock = none ∨ v1.ownBlock ≠ v2.ownBlock := by
  rcases h1.2 with ⟨rfl, _⟩ | ⟨g, cap, cur, rfl, _, hg, _⟩
  · exact .inl rfl
  · right
    rcases h2.2 with ⟨rfl, _⟩ | ⟨g', cap', cur', rfl, _, hg', _⟩
    · simp [Value.ownBlock]
    · intro e
      obtain rfl : g = g' := by simpa [Value.ownBlock] using e
      rw [hg] at hg'; cases hg'
      exact he rfl
theorem own_cells {w : World} {b s n : Nat} {e : TypeId} {v : Value} {x : List Value} (h : w.ownsRow b e s v n x) {k : Nat} (hk : v.ownBlock = some k) : ∃ o : Obj, w.heap[k]? = some o ∧ o.isCells = true := by
  rcases h.2 with ⟨rfl, _⟩ | ⟨g, cap, cur, rfl, _, hg, _⟩
  · cases hk
  · obtain rfl : g = k := by simpa [Value.ownBlock] using hk
    exact ⟨_, hg, rfl⟩
theorem upto_back (ps : List Nat) : (upto (back ps) ps.length).map (·.2) = ps.reverse := by
  refine List.ext_getElem (by simp [upto]) (fun i h1 h2 => ?_); have hi : i < ps.length := by simpa using h2
  have h3 : ps.length - 1 - i < ps.length := by omega
  simp [upto, back, h3]
theorem ownFrom_only {β : Type} {F : Nat → Prop} {w0 : World} {B : Nat} (hB : w0.heap.size ≤ B) : OwnFrom B (fun (_ : β) W => Only F w0 W) := fun _ _ _ _ hs hg hr =>
  hs.trans (Only.of_grown (F := fun k => B ≤ k) hg (fun k e => (hr k e).1)) (fun i hi hG => absurd hG (by omega))
theorem row_put {W : World} {X : Nat → Prop} {c : Nat} {v : Value} {ps : List Nat} {k0 k : Int} (hr : Row W X v ps) (hc : W.cell? ⟨c, 1, none⟩ = some (.int .i64 k0)) : Row (W.setCell ⟨c, 1, none⟩ (.int .i64 k)) X v ps := by
  obtain ⟨p, cp, hv, hcap, h0 | ⟨r, o, hp, hr0, hx, hq⟩⟩ := hr
  · exact ⟨p, cp, hv, hcap, .inl h0⟩
  · refine ⟨p, cp, hv, hcap, .inr ⟨r, o, hp, by simpa using hr0, hx, fun j u hu => ?_⟩⟩
    have h1 := hq j u hu; by_cases e : (⟨r, o + j, none⟩ : Addr) = ⟨c, 1, none⟩
    · rw [e, hc] at h1
      simp only [bp, List.getElem?_map, Option.map_eq_some_iff] at hu; obtain ⟨a, -, rfl⟩ := hu; cases h1
    · rw [World.cell?_setCell_other _ _ _ _ (fun e2 => e e2.symm)]
      exact h1
theorem rest_app (a b : List (Nat × List Nd)) : rest (a ++ b) = rest b ++ rest a := by simp [rest]
theorem rest_rev (cs : List (Nat × List Nd)) : rest cs.reverse = (cs.map (·.2)).flatten := by simp [rest]
theorem br_pos {W : World} {X : Nat → Prop} {b : Nat} {t : List Nd} (h : Br W X b t) : 1 ≤ t.length := by cases h with | mk => simp [join]
theorem kids_few : ∀ (cs : List (Nat × List Nd)), (∀ c ∈ cs, 1 ≤ c.2.length) → cs.length ≤ ((cs.map (·.2)).flatten).length
  | [], _ => by simp
  | c :: cs, h => by
    have h1 := kids_few cs (fun d hd => h d (List.mem_cons_of_mem _ hd)); have h2 := h c (List.mem_cons_self ..); simp only [List.map_cons, List.flatten_cons, List.length_append, List.length_cons]; omega
def PreI (p0 b0 : Nat) (T : List Nd) (w : World) (ob : Nat) (a : Act) (W : World) : Prop := ∃ (vn vo : Value) (nodes : List Nd) (opn : List (Nat × List Nd)) (Ds : List Nat) (u5 u6 u7 u8 u9 u10 u11 u12 u13 u14 u15 u16 u17 u18 u19 u20 u21 u22 u23 u24 u25 u26 u27 u28 u29 u30 u31 u32 u33 u34 u35 u36 u37 u38 u39 u40 u41 u42 u43 u44 u45 u46 u47 u48 u49 u50 u51 : Value),
  a = { tmps := #[ptr p0, undef, .slice none 0 0, vn, .pointer (some ⟨ob, 0, none⟩), u5, u6, u7, u8, u9, u10, u11, u12, u13, u14, u15, u16, u17, u18, u19, u20, u21, u22, u23, u24, u25, u26, u27, u28, u29, u30, u31, u32, u33, u34, u35, u36, u37, u38, u39, u40, u41, u42, u43, u44, u45, u46, u47, u48, u49, u50, u51], defers := Ds.map mark } ∧ Pre b0 w W ob vn vo nodes opn Ds ∧ nodes ++ rest opn = T
theorem preorder_in (F : Fence) (n : Nat) (hF1 : F.fn 87) (hF2 : F.fn 152) (hF3 : F.fn 185) (hro : F.round = none) (hn : 3 ≤ n)
    (b0 p0 : Nat) (T : List Nd) (w : World) (hT : T.length ≤ 1000000) (hb0 : b0 ≤ w.heap.size) (hb : Br w (fun k => k < b0) p0 T) :
    CallsIn F n Tryz.prog 87 #[ptr p0] w fun e w' => ∃ v, e = .returned v ∧ w'.ownsRow w.heap.size 58 5 v T.length (ncells T) ∧ Only (fun k => b0 ≤ k) w w' := by
  have h1 : 1 ≤ n := by omega
  refine callsIn_of_wp_marks Tryz.func87 rfl hF1 ?_ hro; simp only [Tryz.ntmps87, List.size_toArray, List.length_cons, List.length_nil, Nat.reduceAdd, Nat.reduceSub, Array.replicate_succ, Array.replicate_zero, List.push_toArray, List.append_toArray, List.nil_append, List.cons_append]; gi_wp2
  refine wpIn_loop (PreI p0 b0 T w (w.heap.size + 1)) (fun a _ => T.length - (match a.tmps.getD 3 undef with | .slice _ l _ => l | _ => 0)) ?_ ?_
  · unfold PreI
    refine ⟨_, .slice (some ⟨w.heap.size, 0, none⟩) 1 1, [], [(p0, T)], [], _, _, _, _, _, _, _, _, _, _, _, _, _, _, _, _, _, _, _, _, _, _, _, _, _, _, _, _, _, _, _, _, _, _, _, _, _, _, _, _, _, _, _, _, _, _, _, rfl, ?_, by simp [rest]⟩; refine ⟨?_, by omega, ?_, World.ownsRow_nil _ _ _ _, ?_, ?_, by simp, List.nodup_nil⟩
    · have := Boxed.new (w.alloc (.cells #[ptr p0] 128)) 172 (.slice (some ⟨w.heap.size, 0, none⟩) 1 1)
      rwa [World.size_alloc] at this
    · exact (World.ownsRow_lit w #[ptr p0] 1 (Nat.le_refl _) (by decide) rfl).alloc _
    · intro c hc
      obtain rfl : c = (p0, T) := by simpa using hc
      exact Br.only (hb.weaken (fun i hi hx => hx.elim id (fun h => absurd h (by omega)))) (((Only.refl (fun _ => False) w).alloc _).alloc _) (fun _ _ h => h.elim)
    · exact ((Only.refl _ w).alloc _).alloc _
  · rintro a W ⟨vn, vo, nodes, opn, Ds, u5, u6, u7, u8, u9, u10, u11, u12, u13, u14, u15, u16, u17, u18, u19, u20, u21, u22, u23, u24, u25, u26, u27, u28, u29, u30, u31, u32, u33, u34, u35, u36, u37, u38, u39, u40, u41, u42, u43, u44, u45, u46, u47, u48, u49, u50, u51, rfl, hP, hT'⟩
    generalize w.heap.size + 1 = ob at *; obtain ⟨qn, cn, rfl, -, -⟩ := Tr.own_form0 hP.nodes'; rcases List.eq_nil_or_concat opn with rfl | ⟨ini, ⟨b, t⟩, rfl⟩
    · obtain ⟨qo, co, rfl, -, -⟩ := Tr.own_form0 hP.open'
      have hc := hP.box.cell; have e0 : nodes = T := by simpa [rest] using hT'
      subst e0; gi_wp2
      refine leaves_marks (fun W' => W'.ownsRow w.heap.size 58 5 (.slice qn nodes.length cn) nodes.length (ncells nodes) ∧ Only (fun k => b0 ≤ k) w W') Ds W hP.nodup (fun D hD => (hP.marks D hD).2) (fun D hD W1 h1 hD1 => ⟨ownsRow_putObj h1.1 _ hD1 rfl, Only.putObj h1.2 (by have := (hP.marks D hD).1; omega) _⟩) (fun W1 h1 => ⟨_, results_tmp rfl _ _ _, .slice qn nodes.length cn, by rfl, h1⟩) ⟨hP.nodes', hP.old⟩
    · rw [List.concat_eq_append] at *
      have hk := hP.kids (b, t) (by simp); obtain ⟨x, k, v, cs, et, hbc, hroom, hbl, hbX, hrow, hcs⟩ := br_open hk; replace et : t = join x (cs.map (·.2)) := et
      have hop : W.ownsRow w.heap.size 128 1 vo (ini.length + 1) (bp (ini.map (·.1)) ++ [ptr b]) := by
        have := hP.open'; simpa [bp] using this
      obtain ⟨go, co, rfl⟩ := ownsRow_succ hop; obtain ⟨pv, cv, rfl, hcv, hpv⟩ := hrow; have hlast : W.cell? ⟨go, ini.length, none⟩ = some (ptr b) := (hop.cellAt ini.length (by omega)).trans (by simp [bp]); have hc := hP.box.cell; have hcf := hP.box.frozen; have hbo : b ≠ ob := by have := hP.own; omega
      have hbo' : b ≠ go := by have := (hop.lt go rfl).1; omega
      have hoo : go ≠ ob := fun e => hP.box.not_row (by decide) hop (by rw [← e]; rfl)
      have hco : ini.length + 1 ≤ co ∧ co ≤ 9223372036854775807 := by
        rcases hop.2 with ⟨h', _⟩ | ⟨g', cap', cur, h', _, hg, hh, hm, _, htake⟩
        · simp at h'
        · simp only [Value.slice.injEq, Option.some.injEq, Addr.mk.injEq, and_true, true_and] at h'
          obtain ⟨rfl, rfl⟩ := h'; exact ⟨hh, by unfold maxLen at hm; omega⟩
      have hbk : W.cell? ⟨b, 1, none⟩ = some (.int .i64 k) := hbc 1 _ rfl; have hbv : W.cell? ⟨b, 5, none⟩ = some (.slice pv cs.length cv) := by simpa using hbc 5 _ rfl
      have hbf : W.frozen? ⟨b, 1, none⟩ = false := by have := (hroom 1 (by omega)).2; rwa [Nat.zero_add] at this
      have hbc0 : W.cell? ⟨b, 0, none⟩ = some (.int .i64 x.kind) := hbc 0 _ rfl; have hbc2 : W.cell? ⟨b, 2, none⟩ = some (.string (strOf x.name)) := by simpa using hbc 2 _ rfl
      have hbc3 : W.cell? ⟨b, 3, none⟩ = some (.int .i64 x.n) := by simpa using hbc 3 _ rfl
      have hbc4 : W.cell? ⟨b, 4, none⟩ = some (.string (strOf x.text)) := by simpa using hbc 4 _ rfl
      have hnl : nodes.length ≤ 1000000 := by have := congrArg List.length hT'; rw [List.length_append] at this; omega
      obtain ⟨V, hV⟩ : ∃ V : Value, V = .slice (some ⟨go, 0, none⟩) ini.length co := ⟨_, rfl⟩; obtain ⟨K, hK⟩ : ∃ K : Value, K = .int .i64 (cs.length : Int) := ⟨_, rfl⟩; obtain ⟨W2, hW2⟩ : ∃ W2 : World, W2 = (W.setCell ⟨ob, 0, none⟩ V).setCell ⟨b, 1, none⟩ K := ⟨_, rfl⟩; have hO2 : Only (fun k => k = ob ∨ k = b) W W2 := by rw [hW2]; exact ((Only.refl _ W).setCell ⟨ob, 0, none⟩ (.inl rfl) _).setCell ⟨b, 1, none⟩ (.inr rfl) _
      have hz2' : W2.heap.size = W.heap.size := by rw [hW2]; simp
      have hb2 : Boxed W2 ob 172 V := by
        rw [hW2]; exact ((Only.setCell (F := fun k => k = b) (Only.refl _ _) ⟨b, 1, none⟩ rfl _).block ob (by simpa using hP.box.lt) (fun e => hbo e.symm)).trans (hP.box.set V)
      have hn2 : W2.ownsRow w.heap.size 58 5 (.slice qn nodes.length cn) nodes.length (ncells nodes) := ownsRow_block hP.nodes' (fun i hi => hO2.block i (Tr.own_lo hP.nodes' i hi).2 (by
        rintro (rfl | rfl)
        · exact hP.box.not_row (by decide) hP.nodes' hi.symm
        · have := (Tr.own_lo hP.nodes' _ hi).1; omega))
      have hb25 : W2.cell? ⟨b, 5, none⟩ = some (.slice pv cs.length cv) := by
        rw [hW2, World.cell?_setCell_other _ _ _ _ (by simp), World.cell?_setCell_other _ _ _ _ (by simp [])]; exact hbv
      have hop2 : W2.ownsRow w.heap.size 128 1 V ini.length (bp (ini.map (·.1))) := by
        rw [hV]; refine ownsRow_pop (last := [ptr b]) (by simp [bp]) (ownsRow_block hop (fun i hi => hO2.block i (Tr.own_lo hop i hi).2 ?_)); obtain rfl : go = i := by simpa [Value.ownBlock] using hi
        rintro (e | e)
        · exact hoo e
        · exact hbo' e.symm
      have hVb : V.ownBlock = some go := by rw [hV]; rfl
      have hbk' : (W.setCell ⟨ob, 0, none⟩ V).cell? ⟨b, 1, none⟩ = some (.int .i64 k) := by rw [World.cell?_setCell_other _ _ _ _ (by simp [])]; exact hbk
      have hob1 : Only (fun k => k = ob) W (W.setCell ⟨ob, 0, none⟩ V) := Only.of_setCell _
      have hkid2 : ∀ c : Nat × List Nd, Br W (fun k => k < b0 ∨ w.heap.size ≤ k) c.1 c.2 → Br W2 (fun k => k < b0 ∨ w.heap.size ≤ k) c.1 c.2 := fun c hc => by
        rw [hW2, hK]; exact br_put (hc.only hob1 (fun i _ hi => .inr (by have := hP.own; omega))) hbk'
      have hrow2 : Row W2 (fun k => k < b0 ∨ w.heap.size ≤ k) (.slice pv (cs.map (·.1)).length cv) (cs.map (·.1)) := by
        rw [hW2, hK]; exact row_put (Row.only ⟨pv, cv, rfl, hcv, hpv⟩ hob1 (fun i _ hi => .inr (by have := hP.own; omega))) hbk'
      have hcf2 : cs.length + 1 ≤ t.length := by
        have := kids_few cs (fun c hc => br_pos (hcs c hc)); rw [et]; simp only [join, List.length_cons]; omega
      have htT : nodes.length + t.length + (rest ini).length = T.length := by
        have := congrArg List.length hT'; rw [rest_app, List.length_append, List.length_append] at this; simp [rest] at this ⊢
        omega
      have hiT : ini.length ≤ (rest ini).length := by
        have := kids_few ini.reverse (fun c hc => br_pos (hP.kids c (by simp at hc; simp [hc])))
        simpa [rest] using this
      have hm2 : ∀ D ∈ Ds, W2.heap[D]? = some (.deferred (some [])) := fun D hD => by
        obtain ⟨h1, h2⟩ := hP.marks D hD; refine (hO2.block D (Array.getElem?_eq_some_iff.1 h2).1 ?_).trans h2; rintro (e | e)
        · have := hP.box
          unfold Boxed at this; rw [← e, h2] at this; cases this
        · omega
      have AFT : ∀ (o : Obj) (w1 : World), (W2.alloc o).grownBy w1 (Value.slice qn nodes.length cn).ownBlock → w1.cell? ⟨b, 5, none⟩ = some (.slice pv cs.length cv) ∧ Boxed w1 ob 172 V ∧ w1.ownsRow w.heap.size 128 1 V ini.length (bp (ini.map (·.1))) ∧
          (∀ c : Nat × List Nd, Br W (fun k => k < b0 ∨ w.heap.size ≤ k) c.1 c.2 → Br w1 (fun k => k < b0 ∨ w.heap.size ≤ k) c.1 c.2) ∧ Row w1 (fun k => k < b0 ∨ w.heap.size ≤ k) (.slice pv (cs.map (·.1)).length cv) (cs.map (·.1)) ∧
          Only (fun k => k = ob ∨ k = b ∨ w.heap.size ≤ k) W w1 ∧ (∀ D ∈ Ds, w1.heap[D]? = some (.deferred (some []))) := by
        intro o w1 hg; have h1 : Only (fun k => w.heap.size ≤ k) W2 w1 := ((Only.refl _ W2).alloc o).trans (Only.of_grown (F := fun k => w.heap.size ≤ k) hg (fun k hk => (Tr.own_lo hP.nodes' k hk).1)) (fun _ _ h => h)
        refine ⟨(World.cell?_of_block (a := ⟨b, 5, none⟩) (h1.block b (by omega) (by omega))).trans hb25, (hb2.alloc o).kept hg (hb2.not_row (by decide) hn2), (hop2.alloc o).kept hg (rows_ne hop2 hn2 (by decide)),
          fun c hc => (hkid2 c hc).only h1 (fun i _ hi => .inr hi), hrow2.only h1 (fun i _ hi => .inr hi), (hO2.mono (fun i hi => hi.elim .inl (fun e => .inr (.inl e)))).trans h1 (fun i _ hi => .inr (.inr hi)), fun D hD => ?_⟩
        have hD2 := hm2 D hD; have hD3 : (W2.alloc o).heap[D]? = some (.deferred (some [])) := (Below.heap_alloc W2 o D (Array.getElem?_eq_some_iff.1 hD2).1).trans hD2; refine (hg.block D (Array.getElem?_eq_some_iff.1 hD3).1 (fun e => ?_)).trans hD3; obtain ⟨o', ho', hc'⟩ := own_cells (hn2.alloc o) e.symm; rw [hD3] at ho'; cases ho'
        cases hc'
      have hnew := (World.ownsRow_lit (base := 0) (e := 58) (size := 5) W2 #[.int .i64 x.kind, .int .i64 (cs.length : Int), .string (strOf x.name), .int .i64 x.n, .string (strOf x.text)] 1 (Nat.zero_le _) (by decide) rfl).cells rfl; rw [hz2'] at hnew; obtain ⟨i0, hi0, hz0, hz1, hz2⟩ := info_parts n_info3; subst hW2 hV hK; gi_wp2_with (gi_at_builtin; refine wpListIn_append_own_at _ rfl _ _ 22 rfl w.heap.size 58 i0 _ 5 56 Tryz.underlying22 hi0 hz0 hz1 hz2 rfl (by decide) _ _ _ rfl (hn2.alloc _) ⟨W.heap.size, 0, none⟩ 1 1 _ rfl rfl hnew (by simp [Value.oneCell']) (by unfold maxLen; omega) (by omega) (by have := hP.old.size; simp; omega) ?_; intro vn' w1 hown' hgrow _ hat; obtain ⟨hb15, hbox1, hop1, hkid1, hrow1, hO1, hm1⟩ := AFT _ _ hgrow; obtain ⟨gn, cn', rfl⟩ := ownsRow_succ hown')
      refine (back_in F (n - 1) hF2 hro _ _ _ w1).mono ?_; rintro e w' ⟨rfl, rfl⟩; gi_wp2
      have hsz1 : W.heap.size ≤ w1.heap.size := hO1.size; have hwW : w.heap.size ≤ W.heap.size := hP.old.size; obtain ⟨Wr, hWr⟩ : ∃ Wr, Wr = w1.alloc (.cells #[.slice pv cs.length cv] 172) := ⟨_, rfl⟩; have hszr : Wr.heap.size = w1.heap.size + 1 := by rw [hWr]; simp
      have hboxr : Boxed Wr ob 172 (.slice (some ⟨go, 0, none⟩) ini.length co) := by rw [hWr]; exact hbox1.alloc _
      have hopr : Wr.ownsRow w.heap.size 128 1 (.slice (some ⟨go, 0, none⟩) ini.length co) ini.length (bp (ini.map (·.1))) := by rw [hWr]; exact hop1.alloc _
      have hnr : Wr.ownsRow w.heap.size 58 5 (.slice (some ⟨gn, 0, none⟩) (nodes.length + 1) cn') (nodes.length + 1) (ncells (nodes ++ [{ x with kids := (cs.length : Int) }])) := by rw [hWr, ncells_app]; exact hown'.alloc _
      have hOr1 : Only (fun _ => False) w1 Wr := by rw [hWr]; exact (Only.refl _ _).alloc _
      have hOr : Only (fun k => k = ob ∨ k = b ∨ w.heap.size ≤ k) W Wr := hO1.trans hOr1 (fun _ _ h => h.elim); have hrowr := hrow1.only hOr1 (fun _ _ h => h.elim); have hboxB : Wr.cell? ⟨w1.heap.size, 0, none⟩ = some (.slice pv cs.length cv) := by rw [hWr]; exact (Boxed.new w1 172 (.slice pv cs.length cv)).cell
      have hmr : ∀ D ∈ Ds, Wr.heap[D]? = some (.deferred (some [])) := fun D hD => (hOr1.block D (Array.getElem?_eq_some_iff.1 (hm1 D hD)).1 id).trans (hm1 D hD)
      have hgoW : w.heap.size ≤ go ∧ go < W.heap.size := hop.lt go rfl; have hobW : ob < W.heap.size := hP.box.lt; obtain ⟨i1, hi1, hy0, hy1, hy2⟩ := info_parts ptr_info3; rw [← hWr]
      refine wpIn_rangeFunc_ownG hro h1 (gf := 185) (lb := #[.pointer (some ⟨w1.heap.size, 0, none⟩)]) rfl hF3 (enters_of Tryz.func185 (by kernel_rfl) rfl)
        (back_stops F (n - 1) hF3 hro (by omega) (fun k => k = w1.heap.size ∨ k < w.heap.size) w1.heap.size (.inl rfl) (.slice pv cs.length cv) (cs.map (·.1)) (by rw [List.length_map]; omega) Wr (by omega) hboxB ?ptrz) (fun h k => h.trans k) ?keepb (Below.refl _ _) (fun _ => rfl)
        (fun pre W3 => (∃ v, Boxed W3 ob 172 v ∧ W3.ownsRow w.heap.size 128 1 v (ini.length + pre.length) (bp (ini.map (·.1)) ++ bp (pre.map (·.2))) ∧ (v.ownBlock = some go ∨ ∃ g, v.ownBlock = some g ∧ Wr.heap.size ≤ g)) ∧ Only (fun k => k = ob ∨ k = go) Wr W3)
        (fun _ _ _ => False)
        (OwnFrom.and (Own.from (holdsRow_own w.heap.size ob 172 128 1 (fun pre : List (Nat × Nat) => ini.length + pre.length) (fun pre => bp (ini.map (·.1)) ++ bp (pre.map (·.2))) (fun _ v => v.ownBlock = some go ∨ ∃ g, v.ownBlock = some g ∧ Wr.heap.size ≤ g)) _) (ownFrom_only (Nat.le_refl _)))
        (fun _ _ _ _ _ hs _ _ => hs)
        ⟨⟨_, hboxr, by simpa [bp] using hopr, .inl rfl⟩, Only.refl _ _⟩
        (fun x' => { tmps := #[ptr p0, undef, .slice none 0 0, .slice (some ⟨gn, 0, none⟩) (nodes.length + 1) cn', .pointer (some ⟨ob, 0, none⟩), .int .i64 (ini.length : Int), ptr b, u7, ptr x'.2, u9, u10,
        .slice (some ⟨go, 0, none⟩) (ini.length + 1) co, .int .i64 ((ini.length : Int) + 1), .bool true, .slice (some ⟨go, 0, none⟩) (ini.length + 1) co, .int .i64 ((ini.length : Int) + 1), .int .i64 (ini.length : Int),
        .slice (some ⟨go, 0, none⟩) (ini.length + 1) co, .int .i64 (ini.length : Int), .pointer (some ⟨go, ini.length, none⟩), ptr b, .slice (some ⟨go, 0, none⟩) (ini.length + 1) co, .int .i64 (ini.length : Int),
        .slice (some ⟨go, 0, none⟩) ini.length co, ptr b, ptr b, .pointer (some ⟨b, 0, none⟩), .pointer (some ⟨b, 5, none⟩), .slice pv cs.length cv, .int .i64 (cs.length : Int), .pointer (some ⟨b, 0, none⟩), .pointer (some ⟨b, 0, none⟩), .pointer (some ⟨b, 1, none⟩),
        .slice qn nodes.length cn, ptr b, .pointer (some ⟨b, 0, none⟩), .pointer (some ⟨b, 0, none⟩), .agg #[.int .i64 x.kind, .int .i64 (cs.length : Int), .string (strOf x.name), .int .i64 x.n, .string (strOf x.text)],
        .slice (some ⟨W.heap.size, 0, none⟩) 1 1, .slice (some ⟨gn, 0, none⟩) (nodes.length + 1) cn', ptr b, .pointer (some ⟨b, 0, none⟩), .pointer (some ⟨b, 5, none⟩), .slice pv cs.length cv, .func (.func 185) #[] #[.pointer (some ⟨w1.heap.size, 0, none⟩)], .int .i64 (x'.1 : Int), ptr x'.2, u47, u48, u49, u50, u51], defers := [] }) ?assign ?body ?done ?stop
      case ptrz =>
        obtain ⟨p', c', e, hc', h⟩ := hrowr; cases e
        refine ⟨pv, cv, by rw [List.length_map], h.imp id ?_⟩; rintro ⟨r, o, hp, hr, hx, hq⟩; exact ⟨r, o, hp, .inr (by omega), hr, hq⟩
      case keepb =>
        intro W3 l o o' hl _ _ _ k' hk'; exact World.putObj_heap_other (by rcases hk' with e | e <;> omega)
      case assign =>
        intro l x' W3 K hK; unfold encB; gi_wp2
        exact hK
      case body =>
        rintro l pre ⟨xi, xp⟩ W3 ⟨⟨vo', hv, hrow3, hg3⟩, hO3⟩ hlt; have hc3 := hv.cell; have hsz3 := hO3.size; rw [List.length_map] at hlt; have hvb : ∀ q, vo'.ownBlock = some q → q = go ∨ Wr.heap.size ≤ q := fun q hq => hg3.elim (fun e => .inl (by rw [hq] at e; exact Option.some.inj e)) (fun ⟨g, e, hg⟩ => .inr (by rw [hq] at e; rw [Option.some.inj e]; exact hg))
        gi_wp2_with (gi_at_builtin; refine wpListIn_append_own_at _ rfl _ _ 172 rfl w.heap.size 128 i1 _ 1 8 Tryz.underlying172 hi1 hy0 hy1 hy2 rfl (by decide) _ _ _ rfl (hrow3.alloc _) ⟨W3.heap.size, 0, none⟩ 1 1 [ptr xp] rfl rfl (cell_one_new _ _ _) (by simp [Value.oneCell']) (by unfold maxLen; omega) (by omega) (by simp; omega) ?_; intro v' w4 hown4 hgrow4 _ hat4; obtain ⟨g', cap', rfl⟩ := ownsRow_succ hown4; obtain ⟨hv1, hv2, hr2, hk2, hb2'⟩ := hv.appended (by decide) hrow3 (by omega) hP.own hown4 hgrow4; have hc4 := hv1.cell; have hf4 := hv1.frozen)
        have hgr4 : Only (fun k => vo'.ownBlock = some k) W3 w4 := ((Only.refl _ W3).alloc _).trans (Only.of_grown (F := fun k => vo'.ownBlock = some k) hgrow4 (fun k hk => hk)) (fun _ _ h => h); have hgr5 : Only (fun k => k = ob ∨ vo'.ownBlock = some k) W3 (w4.setCell ⟨ob, 0, none⟩ (.slice (some ⟨g', 0, none⟩) (ini.length + pre.length + 1) cap')) := (hgr4.mono (fun i hi => .inr hi)).trans (Only.of_setCell (g := ob) _) (fun i _ hi => .inl hi); refine ⟨hk2.from _, ?_, ⟨_, hv2, ?_, ?_⟩, ?_⟩
        · intro k' hk'
          refine hgr5.block k' (by rcases hk' with e | e <;> omega) ?_; have := hP.own; rintro (e | e)
          · rcases hk' with e2 | e2 <;> omega
          · have := (Tr.own_lo hrow3 k' e).1
            rcases hvb k' e with e2 | e2 <;> rcases hk' with e3 | e3 <;> omega
        · rw [List.length_append, List.map_append, bp_app, ← List.append_assoc, ← Nat.add_assoc]
          exact hr2
        · rcases hat4 with e | e
          · rw [e]; exact hg3
          · exact .inr ⟨_, e, by simp; omega⟩
        · exact hO3.trans hgr5 (fun i hi h => h.elim .inl (fun e => (hvb i e).elim .inr (fun e2 => absurd e2 (by omega))))
      case stop =>
        rintro D c pre W3 _ _ h _; exact h.elim
      case done =>
        rintro D ys W3 hD rfl ⟨⟨vo', hv, hrow3, hg3⟩, hO3⟩ hKD; gi_wp2
        refine ⟨?_, show T.length - (nodes.length + 1) < T.length - nodes.length by omega⟩; unfold PreI; refine ⟨_, vo', nodes ++ [{ x with kids := (cs.length : Int) }], ini ++ cs.reverse, D :: Ds, _, _, _, _, _, _, _, _, _, _, _, _, _, _, _, _, _, _, _, _, _, _, _, _, _, _, _, _, _, _, _, _, _, _, _, _, _, _, _, _, _, _, _, _, _, _, _, rfl, ?_, ?_⟩
        · refine ⟨hv, hP.own, ?_, ?_, ?_, ?_, ?_, ?_⟩
          · have e1 : ini.length + (upto (back (cs.map (·.1))) (cs.map (·.1)).length).length = (ini ++ cs.reverse).length := by rw [upto_length]; simp
            have e2 : bp (ini.map (·.1)) ++ bp ((upto (back (cs.map (·.1))) (cs.map (·.1)).length).map (·.2)) = bp ((ini ++ cs.reverse).map (·.1)) := by rw [upto_back, ← bp_app]; simp
            rw [e1, e2] at hrow3; exact hrow3
          · have := ownsRow_block hnr (fun i hi => hO3.block i (Tr.own_lo hnr i hi).2 (by
              rintro (rfl | rfl)
              · exact hboxr.not_row (by decide) hnr hi.symm
              · exact (rows_ne hopr hnr (by decide)).elim (fun e => by cases e) (fun e => e hi.symm)))
            simpa using this
          · intro c hc
            have hcW : Br W (fun k => k < b0 ∨ w.heap.size ≤ k) c.1 c.2 := by
              rcases List.mem_append.1 hc with h | h
              · exact hP.kids c (List.mem_append_left _ h)
              · exact hcs c (by simpa using h)
            exact ((hkid1 c hcW).only hOr1 (fun _ _ h => h.elim)).only hO3 (fun i _ hi => .inr (by have := hP.own; rcases hi with e | e <;> omega))
          · exact hP.old.trans (hOr.trans hO3 (fun i _ hi => hi.elim .inl (fun e => .inr (.inr (by omega))))) (fun i _ hi => by have := hP.own; rcases hi with e | e | e <;> omega)
          · intro E hE
            rcases List.mem_cons.1 hE with rfl | hE
            · exact ⟨by omega, hKD⟩
            · refine ⟨(hP.marks E hE).1, (hO3.block E (Array.getElem?_eq_some_iff.1 (hmr E hE)).1 ?_).trans (hmr E hE)⟩
              have h0 := hmr E hE; rintro (e | e)
              · have := hboxr
                unfold Boxed at this; rw [← e, h0] at this; cases this
              · obtain ⟨o', ho', hc'⟩ := own_cells hopr (k := E) (by rw [e]; rfl)
                rw [h0] at ho'; cases ho'
                cases hc'
          · exact List.nodup_cons.2 ⟨fun hE => by have := (Array.getElem?_eq_some_iff.1 (hP.marks D hE).2).1; omega, hP.nodup⟩
        · rw [rest_app, rest_rev, ← hT', rest_app, et]
          simp [rest, join]
end Go.Proofs.YtmljjpdodcpohaaGreatDoor.Pa

