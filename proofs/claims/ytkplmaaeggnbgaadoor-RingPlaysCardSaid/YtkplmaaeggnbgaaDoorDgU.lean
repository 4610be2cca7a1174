/- The walk of digest.rotr and of the document's rotr: their contracts. The walk of the document's step: its contract. Facts on rows of bytes that a call owns: a row's bytes as a string. The words of a block, by definition; the walk of the document's words. A row that a call makes and lengthens one element at a time, whatever mark lies behind its end. The walk of digest.decodeWord and encodeWord: their contracts. The walk of digest.expand: its contract. The message by definition; the walk of the document's constants and padded. A text's digest by definition (plain functions over lists of bytes); facts on blocks; two digests reckoned out. No condition but those that each states. -/
import Derived.Test.YtkplmaaeggnbgaaDoorRows
import Derived.WalkKit
import Derived.WalkLawsBesides
import Derived.WalkSpells
import Derived.Lib.Hide
import Derived.Deep.OwnRows
import Derived.Deep.QuietTactic
import Derived.BigQuiet
import Derived.StillTailTactics
import Derived.BigRegion
import Derived.Outline
import Derived.Laws.IdiomStrings
import Derived.Laws.OwnMore
import Derived.Deep.RegionHeld3
import Derived.Deep.AppendLies
import Derived.Deep.RegionLaw
import Derived.Deep.DrawnRows
import Derived.IntWalk
import Derived.ArgAppend
import Derived.Deep.Draws
import Derived.Deep.MidRow
namespace Go.Proofs.YtkplmaaeggnbgaaDoor
open Go.RowKit

theorem quiet_add_same {P : Program} {f : FuncId} {args : Array Value} {w : World} {a n : Nat} {v : Value}
    (h : Calls P f args (w.drewN (a + n)) fun e w' => e = .returned v ∧ w' = w.drewN (a + n)) :
    Calls P f args (w.drewN (a + n)) fun e w'' => e = .returned v ∧ ∃ m, w'' = w.drewN (a + m) :=
  h.mono fun _ _ ⟨he, hm⟩ => ⟨he, n, hm⟩

theorem below_drewN {B : Nat} {a w : World} (h : Below B a w) (n : Nat) : Below B a (w.drewN n) := ⟨h.os, h.tape, h.output, h.size, h.block⟩

/-- A drawn region whose head reads, in a world of one name. -/
theorem region_still_tail {P : Program} {id : Nat} {Q : Exit → Act → World → Prop} {a : Act} {w : World} {l : List Oper} (n : Nat) (hm : P.follows .mixedOrders = true) (hB : Region.lexTailB .any l.toArray n = true)
    (w1 : World) (hw : w.drew = w1) (h : wpStill P l.toArray w1 (fun a' => wpList P l.toArray Q (l.drop n) a' w1) (l.take n) a) : (Code.region id l.toArray true).wp P Q a w := by
  subst hw
  exact wp_region_still_tail n hm hB h

/-- One name for a world that has drawn. -/
theorem drawn_world (w0 : World) : ∃ w1 : World, Hid (w0.drew = w1) ∧ (∀ a, w1.cell? a = w0.cell? a) ∧ (∀ a, w1.frozen? a = w0.frozen? a) ∧ Hid (w1.heap = w0.heap) ∧ Hid (Below w0.heap.size w0 w1) :=
  ⟨_, rfl, fun _ => rfl, fun _ => rfl, rfl, ⟨rfl, rfl, rfl, Nat.le_refl _, fun _ _ => rfl⟩⟩

def rot (x n : Int) : Int := bits .or .u32 (x / 2 ^ n.toNat) (IntKind.u32.wrap (x * 2 ^ (32 - n).toNat))

set_option maxHeartbeats 400000 in
theorem rotr_any (x n : Int) (w : World) (h1 : 1 ≤ n) (h2 : n ≤ 31) :
    Calls Tryd.prog 80 #[.int .u32 x, .int .u64 n] w fun e w' => e = .returned (.int .u32 (rot x n)) ∧ w = w' := by
  go_enter Tryd.func80, Tryd.ntmps80
  go_wp2
  go_ret
  exact ⟨rfl, rfl⟩

set_option maxHeartbeats 400000 in
theorem rrotr_any (x n : Int) (w : World) (h1 : 1 ≤ n) (h2 : n ≤ 31) :
    Calls Tryd.prog 113 #[.int .u32 x, .int .i64 n] w fun e w' => e = .returned (.int .u32 (rot x n)) ∧ w = w' := by
  go_enter Tryd.func113, Tryd.ntmps113
  go_wp2
  go_ret
  exact ⟨rfl, rfl⟩

theorem rotr_q (x n : Int) (w : World) (h1 : 1 ≤ n) (h2 : n ≤ 31) :
    Calls Tryd.prog 80 #[.int .u32 x, .int .u64 n] w fun e w' => e = .returned (.int .u32 (rot x n)) ∧ w' = w :=
  (rotr_any x n w h1 h2).mono fun _ _ ⟨a, b⟩ => ⟨a, b.symm⟩

theorem rrotr_q (x n : Int) (w : World) (h1 : 1 ≤ n) (h2 : n ≤ 31) :
    Calls Tryd.prog 113 #[.int .u32 x, .int .i64 n] w fun e w' => e = .returned (.int .u32 (rot x n)) ∧ w' = w :=
  (rrotr_any x n w h1 h2).mono fun _ _ ⟨a, b⟩ => ⟨a, b.symm⟩

end Go.Proofs.YtkplmaaeggnbgaaDoor
namespace Go.Proofs.YtkplmaaeggnbgaaDoor
open Go.RowKit

/-- The eight words of a digest under way. -/
structure R8 where
  a : Int
  b : Int
  c : Int
  d : Int
  e : Int
  f : Int
  g : Int
  h : Int

def R8.at (s : R8) : Nat → Int
  | 0 => s.a
  | 1 => s.b
  | 2 => s.c
  | 3 => s.d
  | 4 => s.e
  | 5 => s.f
  | 6 => s.g
  | _ => s.h

/-- Eight words at a block's head. -/
def Has8 (w : World) (b : Nat) (s : R8) : Prop := ∀ i, i < 8 → w.cell? ⟨b, i, none⟩ = some (.int .u32 (s.at i))

theorem Has8.later {w w' : World} {b B : Nat} {s : R8} (h : Has8 w b s) (k : Below B w w') (hb : b < B) : Has8 w' b s :=
  fun i hi => (k.cell (p := ⟨b, i, none⟩) hb).trans (h i hi)

def sig1 (e : Int) : Int := bits .xor .u32 (bits .xor .u32 (rot e 6) (rot e 11)) (rot e 25)
def sig0 (a : Int) : Int := bits .xor .u32 (bits .xor .u32 (rot a 2) (rot a 13)) (rot a 22)
def chi (e f g : Int) : Int := bits .xor .u32 (bits .and .u32 e f) (bits .and .u32 (bits .xor .u32 IntKind.u32.max e) g)
def maj (a b c : Int) : Int := bits .xor .u32 (bits .xor .u32 (bits .and .u32 a b) (bits .and .u32 a c)) (bits .and .u32 b c)
def tOne (s : R8) (k x : Int) : Int := (s.h + sig1 s.e + chi s.e s.f s.g + k + x) % 4294967296
def tTwo (s : R8) : Int := (sig0 s.a + maj s.a s.b s.c) % 4294967296
def stepR (s : R8) (k x : Int) : R8 := ⟨(tOne s k x + tTwo s) % 4294967296, s.a, s.b, s.c, (s.d + tOne s k x) % 4294967296, s.e, s.f, s.g⟩

theorem wrap32u (x : Int) : IntKind.u32.wrap x = x % 4294967296 := rfl

set_option maxHeartbeats 1000000 in
set_option maxRecDepth 100000 in
theorem rstep_any (b : Nat) (s : R8) (k x : Int) (c : Nat) (w : World)
    (H : Has8 w b s) :
    Calls Tryd.prog 102 #[.slice (some ⟨b, 0, none⟩) 8 c, .int .u32 k, .int .u32 x] w fun e w' => e = .returned (.slice (some ⟨w.heap.size, 0, none⟩) 8 8) ∧ Has8 w' w.heap.size (stepR s k x) ∧ Below w.heap.size w w' ∧ w.heap.size < w'.heap.size := by
  have ha := H 0 (by decide)
  have hb := H 1 (by decide)
  have hc := H 2 (by decide)
  have hd := H 3 (by decide)
  have he := H 4 (by decide)
  have hf := H 5 (by decide)
  have hg := H 6 (by decide)
  have hh := H 7 (by decide)
  clear H
  simp only [R8.at] at ha hb hc hd he hf hg hh
  go_enter Tryd.func102, Tryd.ntmps102
  go_wp2
  go_quiet ((go_at_call 113; exact Calls.quiet_of_same (rrotr_q _ _ _ (by decide) (by decide))))
  revert nq
  intro n1
  go_wp2
  go_quiet ((go_at_call 113; exact quiet_add_same (rrotr_q _ _ _ (by decide) (by decide))))
  go_wp2
  rw [show (s.h + bits BinOp.xor IntKind.u32 (bits BinOp.xor IntKind.u32 (rot s.e 6) (rot s.e 11)) (rot s.e 25) + bits BinOp.xor IntKind.u32 (bits BinOp.and IntKind.u32 s.e s.f) (bits BinOp.and IntKind.u32 (bits BinOp.xor IntKind.u32 IntKind.u32.max s.e) s.g) + k + x) % 4294967296 = tOne s k x from rfl]
  rw [show (bits BinOp.xor IntKind.u32 (bits BinOp.xor IntKind.u32 (rot s.a 2) (rot s.a 13)) (rot s.a 22) + bits BinOp.xor IntKind.u32 (bits BinOp.xor IntKind.u32 (bits BinOp.and IntKind.u32 s.a s.b) (bits BinOp.and IntKind.u32 s.a s.c)) (bits BinOp.and IntKind.u32 s.b s.c)) % 4294967296 = tTwo s from rfl]
  have q1 := wrap32u (tOne s k x + tTwo s)
  have q2 := wrap32u (s.d + tOne s k x)
  obtain ⟨w1, hw, hcell, -, hheap, hbel⟩ := drawn_world ((w.drewN n1).drewN nq)
  have a1 := (hcell ⟨b, 0, none⟩).trans ha
  have b1 := (hcell ⟨b, 1, none⟩).trans hb
  have c1 := (hcell ⟨b, 2, none⟩).trans hc
  have d1 := (hcell ⟨b, 3, none⟩).trans hd
  have e1 := (hcell ⟨b, 4, none⟩).trans he
  have f1 := (hcell ⟨b, 5, none⟩).trans hf
  have g1 := (hcell ⟨b, 6, none⟩).trans hg
  clear hcell ha hb hc hd he hf hg hh
  refine region_still_tail 26 (by kernel_rfl) (by kernel_rfl) w1 hw.out ?_
  simp only [List.take_succ_cons, List.take_zero, List.drop_succ_cons, List.drop_zero]
  repeat still_step
  refine wpStill_nil ?_
  go_wp2
  clear h
  have hs : w1.heap.size = w.heap.size := by rw [hheap.out]; rfl
  rw [hs]
  go_ret
  refine ⟨rfl, fun i hi => ?_, ?_, ?_⟩
  · rw [← hs]
    rcases (show i = 0 ∨ i = 1 ∨ i = 2 ∨ i = 3 ∨ i = 4 ∨ i = 5 ∨ i = 6 ∨ i = 7 by omega) with rfl | rfl | rfl | rfl | rfl | rfl | rfl | rfl <;> simp [R8.at, stepR]
  · have hb0 : Below w.heap.size w w1 := (below_drewN (below_drewN (Below.refl _ _) n1) nq).trans hbel.out
    exact hb0.alloc (by omega) _
  · simp; omega

end Go.Proofs.YtkplmaaeggnbgaaDoor
namespace Go.Proofs.YtkplmaaeggnbgaaDoor
open Go.RowKit

/-- Bytes as a row's cells. -/
def bv (l : List UInt8) : List Value := l.map fun b => .int .u8 (b.toNat : Int)

theorem bv_append (a b : List UInt8) : bv (a ++ b) = bv a ++ bv b := by simp [bv]

/-- A string of the bytes of an owned row, nil or not. -/
theorem run_convert_owned {P : Program} {w : World} {base : Nat} {src dst e : TypeId} {v : Value} {l : List UInt8} (hs : P.underlying src = some (.slice e)) (he : P.underlying e = some (.int .u8)) (hd : P.underlying dst = some .string)
    (hown : w.ownsRow base e 1 v l.length (bv l)) : (convert src dst v).run P w = .ok (.string ⟨l.toArray⟩) w := by
  rcases hown.2 with ⟨hv, h0⟩ | ⟨g, cap, cur, hv, hbg, hg, hnc, hcm, hcs, htake⟩
  · subst hv
    have hl : l = [] := List.eq_nil_of_length_eq_zero h0
    subst hl
    rw [run_convert_bytes_string w src dst e none 0 0 hs he hd]
    simp [Conv.bytesToString]
    rfl
  · subst hv
    refine run_convert_bytes_back w src dst e ⟨g, 0, none⟩ cap l hs he hd (fun i hi => ?_)
    rw [Addr.add_lit, Nat.zero_add, hown.cellAt i (by omega)]
    simp [bv, List.getElem?_eq_getElem hi]

theorem news_at (W : World) (cs : Array Value) (e : TypeId) : ∀ j u, cs.toList[j]? = some u → (W.alloc (.cells cs e)).cell? ((⟨W.heap.size, 0, none⟩ : Addr).add j) = some u := by
  intro j u h
  rw [Addr.add_lit, Nat.zero_add, World.cell?_alloc_mark]
  simpa using h

theorem bv_one (l : List UInt8) : ∀ u ∈ bv l, u.oneCell' = true := by
  intro u hu
  simp [bv] at hu
  obtain ⟨b, _, rfl⟩ := hu
  rfl

/-- What an append to an owned row keeps of the world below. -/
theorem below_append {B : Nat} {w wr w2 : World} {v : Value} {o : Obj} {e : TypeId} {n : Nat} {xs : List Value} (hb : Below B w wr) (hB : B ≤ wr.heap.size) (hown : wr.ownsRow B e 1 v n xs) (hg : (wr.alloc o).grownBy w2 v.ownBlock) : Below B w w2 :=
  (hb.alloc hB o).grown hg (by simp; omega) (fun k hk => (hown.lt k hk).1)

theorem below_append_drew {B : Nat} {w wr w2 : World} {v : Value} {o : Obj} {e : TypeId} {n : Nat} {xs : List Value} (hb : Below B w wr) (hB : B ≤ wr.heap.size) (hown : wr.ownsRow B e 1 v n xs) (hg : (wr.alloc o).drew.grownBy w2 v.ownBlock) : Below B w w2 :=
  (hb.alloc hB o).drew.grown hg (by simp; omega) (fun k hk => (hown.lt k hk).1)

end Go.Proofs.YtkplmaaeggnbgaaDoor
namespace Go.Proofs.YtkplmaaeggnbgaaDoor
open Go.RowKit
attribute [local go_sem ↓] Go.wp_at_zero Go.wp_at_succ

/-- Words as a row's cells. -/
def wv (l : List Int) : List Value := l.map fun x => .int .u32 x

theorem wv_one (l : List Int) : ∀ u ∈ wv l, u.oneCell' = true := by
  intro u hu
  simp [wv] at hu
  obtain ⟨b, _, rfl⟩ := hu
  rfl

theorem wv_append (a b : List Int) : wv (a ++ b) = wv a ++ wv b := by simp [wv]

def word4 (a b c d : Int) : Int := bits .or .u32 (bits .or .u32 (bits .or .u32 (IntKind.u32.wrap (IntKind.u32.wrap a * 16777216)) (IntKind.u32.wrap (IntKind.u32.wrap b * 65536))) (IntKind.u32.wrap (IntKind.u32.wrap c * 256))) (IntKind.u32.wrap d)

def byteAt (l : List UInt8) (i : Nat) : Int := ((l.getD i 0).toNat : Int)

/-- The i-th word of a block. -/
def wordAt (l : List UInt8) (i : Nat) : Int := word4 (byteAt l (4 * i)) (byteAt l (4 * i + 1)) (byteAt l (4 * i + 2)) (byteAt l (4 * i + 3))

def ssig0 (x : Int) : Int := bits .xor .u32 (bits .xor .u32 (rot x 7) (rot x 18)) (x / 8)
def ssig1 (y : Int) : Int := bits .xor .u32 (bits .xor .u32 (rot y 17) (rot y 19)) (y / 1024)
/-- The word that follows. -/
def wnext (l : List Int) : Int := (l.getD (l.length - 16) 0 + ssig0 (l.getD (l.length - 15) 0) + l.getD (l.length - 7) 0 + ssig1 (l.getD (l.length - 2) 0)) % 4294967296
def wadd (l : List Int) : List Int := l ++ [wnext l]
def ext : Nat → List Int → List Int
  | 0, l => l
  | k + 1, l => wadd (ext k l)
def first16 (l : List UInt8) : List Int := (List.range 16).map (wordAt l)
/-- W0 to W63. -/
def sched (l : List UInt8) : List Int := ext 48 (first16 l)

theorem ext_length (k : Nat) (l : List Int) : (ext k l).length = l.length + k := by
  induction k with
  | zero => rfl
  | succ k ih => simp [ext, wadd, ih]; omega

theorem first16_length (l : List UInt8) : (first16 l).length = 16 := by simp [first16]

theorem range_succ_map (l : List UInt8) (j : Nat) : wv ((List.range (j + 1)).map (wordAt l)) = wv ((List.range j).map (wordAt l)) ++ [.int .u32 (wordAt l j)] := by
  simp [List.range_succ, wv]

theorem wv_get (l : List Int) (i : Nat) (h : i < l.length) : (wv l)[i]? = some (.int .u32 (l.getD i 0)) := by
  simp [wv, List.getD, h]

theorem wv_ext_succ (k : Nat) (l : List Int) : wv (ext (k + 1) l) = wv (ext k l) ++ [.int .u32 (wnext (ext k l))] := by
  simp [ext, wadd, wv]

theorem wsum (a b c d : Int) : IntKind.u32.wrap (IntKind.u32.wrap (IntKind.u32.wrap (a + b) + c) + d) = (a + b + c + d) % 4294967296 := by
  simp only [wrap32u]; omega

/-- A new row of words, L, is handed back. -/
def GivesRow (n : Nat) (L : List Int) (w : World) (e : Ending) (w' : World) : Prop :=
  ∃ gg cap : Nat, e = .returned (.slice (some ⟨gg, 0, none⟩) n cap) ∧ w.heap.size ≤ gg ∧ gg < w'.heap.size ∧ (∀ i, i < n → w'.cell? ⟨gg, i, none⟩ = some (.int .u32 (L.getD i 0))) ∧ Below w.heap.size w w'

theorem Tryd.info5 : (Tryd.prog.info? 5).map (fun i => (i.zero, i.size, i.bytes)) = some (some (.int .u8 0), 1, 1) := by kernel_rfl
theorem Tryd.info23 : (Tryd.prog.info? 23).map (fun i => (i.zero, i.size, i.bytes)) = some (some (.int .u32 0), 1, 4) := by kernel_rfl

def WRel (w : World) (l : List UInt8) (v vi : Value) (wr : World) : Prop := ∃ m gg cap : Nat, 16 ≤ m ∧ m ≤ 64 ∧ vi = .int .i64 m ∧ v = .slice (some ⟨gg, 0, none⟩) m cap ∧ w.heap.size ≤ gg ∧ gg < wr.heap.size ∧
          Hid (wr.ownsRow w.heap.size 23 1 (.slice (some ⟨gg, 0, none⟩) m cap) m (wv (ext (m - 16) (first16 l)))) ∧ Hid (Below w.heap.size w wr)

set_option maxHeartbeats 2000000 in
set_option maxRecDepth 100000 in
theorem rwords_any (g o c : Nat) (l : List UInt8) (w : World) (hg : g < w.heap.size)
    (H : ∀ i, i < 64 → w.cell? ⟨g, o + i, none⟩ = some (.int .u8 (byteAt l i))) :
    Calls Tryd.prog 101 #[.slice (some ⟨g, o, none⟩) 64 c] w (GivesRow 64 (sched l) w) := by
  obtain ⟨i0, hi, hz0, hz1, hz2⟩ := info_parts Tryd.info23
  have HC := Lib.hid H
  clear H
  go_enter Tryd.func101, Tryd.ntmps101
  go_wp2
  go_loopw [3, 4] (fun v vi wr => ∃ j : Nat, j ≤ 16 ∧ vi = .int .i64 j ∧
      Hid (wr.ownsRow w.heap.size 23 1 v j (wv ((List.range j).map (wordAt l)))) ∧ Hid (Below w.heap.size w wr)) (fun _ vi _ => 16 - (intOf vi).toNat)
  case atStart => exact ⟨0, Nat.zero_le _, rfl, Lib.hid (World.ownsRow_nil _ _ _ _), Below.refl _ _⟩
  case round =>
    obtain ⟨j, hj, rfl, hown, hbel⟩ := hrel
    by_cases hlt : j < 16
    · have hb := hbel.out
      have b0 : wr.cell? ⟨g, o + (4 * j), none⟩ = some (.int .u8 (byteAt l (4 * j))) := (hb.cell (p := ⟨g, _, none⟩) hg).trans (HC.out _ (by omega))
      have b1 : wr.cell? ⟨g, o + (4 * j + 1), none⟩ = some (.int .u8 (byteAt l (4 * j + 1))) := (hb.cell (p := ⟨g, _, none⟩) hg).trans (HC.out _ (by omega))
      have b2 : wr.cell? ⟨g, o + (4 * j + 2), none⟩ = some (.int .u8 (byteAt l (4 * j + 2))) := (hb.cell (p := ⟨g, _, none⟩) hg).trans (HC.out _ (by omega))
      have b3 : wr.cell? ⟨g, o + (4 * j + 3), none⟩ = some (.int .u8 (byteAt l (4 * j + 3))) := (hb.cell (p := ⟨g, _, none⟩) hg).trans (HC.out _ (by omega))
      clear hb
      go_wp2
      have q0 : IntKind.i64.wrap (4 * (j : Int)) = 4 * (j : Int) := IntWalk.i64_in _ (by omega)
      have q1 : IntKind.i64.wrap (4 * (j : Int) + 1) = 4 * (j : Int) + 1 := IntWalk.i64_in _ (by omega)
      have q2 : IntKind.i64.wrap (4 * (j : Int) + 2) = 4 * (j : Int) + 2 := IntWalk.i64_in _ (by omega)
      have q3 : IntKind.i64.wrap (4 * (j : Int) + 3) = 4 * (j : Int) + 3 := IntWalk.i64_in _ (by omega)
      have p0 : 0 ≤ 4 * (j : Int) := by omega
      have r0 : 4 * (j : Int) < 64 := by omega
      have p1 : 0 ≤ 4 * (j : Int) + 1 := by omega
      have r1 : 4 * (j : Int) + 1 < 64 := by omega
      have p2 : 0 ≤ 4 * (j : Int) + 2 := by omega
      have r2 : 4 * (j : Int) + 2 < 64 := by omega
      have p3 : 0 ≤ 4 * (j : Int) + 3 := by omega
      have r3 : 4 * (j : Int) + 3 < 64 := by omega
      have s0 : (4 * (j : Int)).toNat = 4 * j := by omega
      have s1 : (4 * (j : Int) + 1).toNat = 4 * j + 1 := by omega
      have s2 : (4 * (j : Int) + 2).toNat = 4 * j + 2 := by omega
      have s3 : (4 * (j : Int) + 3).toNat = 4 * j + 3 := by omega
      have HN := Lib.hid (news_at wr #[.int .u32 (wordAt l j)] 23)
      have hne : u3.ownBlock ≠ some g := fun e => by have := (hown.out.lt g e).1; omega
      have hgr : g < wr.heap.size := by have := hbel.out.size; omega
      have hbs := hbel.out.size
      go_region_held3 (fun w' => w'.cell? ⟨g, o + (4 * j), none⟩ = some (.int .u8 (byteAt l (4 * j))) ∧ w'.cell? ⟨g, o + (4 * j + 1), none⟩ = some (.int .u8 (byteAt l (4 * j + 1))) ∧ w'.cell? ⟨g, o + (4 * j + 2), none⟩ = some (.int .u8 (byteAt l (4 * j + 2))) ∧ w'.cell? ⟨g, o + (4 * j + 3), none⟩ = some (.int .u8 (byteAt l (4 * j + 3))))
        (first | go_keep | (go_split_ands
                            refine ⟨?_, ?_, ?_, ?_⟩ <;> (rw [hgr2.cell_far _ (by simp; omega) (Ne.symm hne)]; assumption)))
        ((refine step_append_lies _ (by rfl) (.tmp 14) (.tmp 48) 155 (by rfl) w.heap.size 23 i0 (.int .u32 0) 1 4 Tryd.underlying155 hi hz0 hz1 hz2 (by rfl) (by decide) u3 j (wv ((List.range j).map (wordAt l))) (by rfl) (by exact hown.out.alloc _) ⟨wr.heap.size, 0, none⟩ 1 1 [.int .u32 (wordAt l j)] (by rfl) (by rfl) (by exact HN.out) (by exact wv_one [wordAt l j]) (by omega) (by unfold maxLen; omega) (by omega) (by simp; omega) (wr.heap.size + 1) (by simp) ?_; intro g1 cap w2 hown2 hgr2 hat2 hlt2))
      have HW := Lib.hid hown2
      have HG := Lib.hid hgr2
      have HE := Lib.hid (range_succ_map l j)
      clear hown2 hgr2 hat2 hlt2 q0 q1 q2 q3 s0 s1 s2 s3 p0 p1 p2 p3 r0 r1 r2 r3 b0 b1 b2 b3
      go_wp2
      go_roundw
      case rel => exact ⟨j + 1, by omega, by go_num, Lib.hid (by rw [HE.out]; exact HW.out), below_append_drew hbel.out hbs hown.out HG.out⟩
      case measure => simp [intOf]; omega
    · obtain rfl : j = 16 := by omega
      obtain ⟨wo, rfl⟩ : ∃ wo : World, wo = wr := ⟨_, rfl⟩
      have hfst : Hid (wo.ownsRow w.heap.size 23 1 u3 16 (wv (first16 l))) := hown
      obtain ⟨gg, cap, rfl, hgg, hgl⟩ := hfst.out.form (by decide)
      clear hown
      go_wp2
      go_loopw [3, 5] (fun v vi wr => WRel w l v vi wr) (fun _ vi _ => 64 - (intOf vi).toNat)
      case atStart => unfold WRel; exact ⟨16, gg, cap, Nat.le_refl _, by omega, rfl, rfl, hgg, hgl, hfst, hbel⟩
      case round =>
        clear hfst hbel hgg hgl
        unfold WRel at hrel
        obtain ⟨m, gg, cap, hm1, hm2, rfl, rfl, hgg, hgl, hown2, hbel⟩ := hrel
        have hlen : (ext (m - 16) (first16 l)).length = m := by rw [ext_length, first16_length]; omega
        by_cases hlt : m < 64
        · skip
          have c15 : wr.cell? ⟨gg, m - 15, none⟩ = some (.int .u32 ((ext (m - 16) (first16 l)).getD (m - 15) 0)) := by
            rw [hown2.out.cellAt (m - 15) (by omega), wv_get _ _ (by omega)]
          have c2 : wr.cell? ⟨gg, m - 2, none⟩ = some (.int .u32 ((ext (m - 16) (first16 l)).getD (m - 2) 0)) := by
            rw [hown2.out.cellAt (m - 2) (by omega), wv_get _ _ (by omega)]
          have c16 : wr.cell? ⟨gg, m - 16, none⟩ = some (.int .u32 ((ext (m - 16) (first16 l)).getD (m - 16) 0)) := by
            rw [hown2.out.cellAt (m - 16) (by omega), wv_get _ _ (by omega)]
          have c7 : wr.cell? ⟨gg, m - 7, none⟩ = some (.int .u32 ((ext (m - 16) (first16 l)).getD (m - 7) 0)) := by
            rw [hown2.out.cellAt (m - 7) (by omega), wv_get _ _ (by omega)]
          obtain ⟨x15, e15⟩ : ∃ x, x = (ext (m - 16) (first16 l)).getD (m - 15) 0 := ⟨_, rfl⟩
          obtain ⟨x2, e2⟩ : ∃ x, x = (ext (m - 16) (first16 l)).getD (m - 2) 0 := ⟨_, rfl⟩
          obtain ⟨x16, e16⟩ : ∃ x, x = (ext (m - 16) (first16 l)).getD (m - 16) 0 := ⟨_, rfl⟩
          obtain ⟨x7, e7⟩ : ∃ x, x = (ext (m - 16) (first16 l)).getD (m - 7) 0 := ⟨_, rfl⟩
          rw [← e15] at c15
          rw [← e2] at c2
          rw [← e16] at c16
          rw [← e7] at c7
          have HE : Hid (wv (ext (m - 16 + 1) (first16 l)) = wv (ext (m - 16) (first16 l)) ++ [.int .u32 (IntKind.u32.wrap (IntKind.u32.wrap (IntKind.u32.wrap (x16 + ssig0 x15) + x7) + ssig1 x2))]) := Lib.hid (by
            rw [wv_ext_succ, wsum, e15, e2, e16, e7]; unfold wnext; rw [hlen])
          clear e15 e2 e16 e7 hlen
          have hbs := hbel.out.size
          have z16 : (16 : Int) ≤ (m : Int) := by omega
          have z7 : (7 : Int) ≤ (m : Int) := by omega
          have z15 : (15 : Int) ≤ (m : Int) := by omega
          have z2 : (2 : Int) ≤ (m : Int) := by omega
          have q15 : IntKind.i64.wrap ((m : Int) - 15) = (m : Int) - 15 := IntWalk.i64_in _ (by omega)
          have q2 : IntKind.i64.wrap ((m : Int) - 2) = (m : Int) - 2 := IntWalk.i64_in _ (by omega)
          have q16 : IntKind.i64.wrap ((m : Int) - 16) = (m : Int) - 16 := IntWalk.i64_in _ (by omega)
          have q7 : IntKind.i64.wrap ((m : Int) - 7) = (m : Int) - 7 := IntWalk.i64_in _ (by omega)
          have p15 : 0 ≤ (m : Int) - 15 := by omega
          have r15 : (m : Int) - 15 < (m : Int) := by omega
          have p2 : 0 ≤ (m : Int) - 2 := by omega
          have r2 : (m : Int) - 2 < (m : Int) := by omega
          have p16 : 0 ≤ (m : Int) - 16 := by omega
          have r16 : (m : Int) - 16 < (m : Int) := by omega
          have p7 : 0 ≤ (m : Int) - 7 := by omega
          have r7 : (m : Int) - 7 < (m : Int) := by omega
          have t15 : ((m : Int) - 15).toNat = m - 15 := by omega
          have t2 : ((m : Int) - 2).toNat = m - 2 := by omega
          have t16 : ((m : Int) - 16).toNat = m - 16 := by omega
          have t7 : ((m : Int) - 7).toNat = m - 7 := by omega
          go_wp2_with (go_at_call 113; refine (rrotr_any _ _ _ (by decide) (by decide)).mono ?_; rintro e w' ⟨rfl, rfl⟩)
          rw [show bits .xor .u32 (bits .xor .u32 (rot x15 7) (rot x15 18)) (x15 / 8) = ssig0 x15 from rfl, show bits .xor .u32 (bits .xor .u32 (rot x2 17) (rot x2 19)) (x2 / 1024) = ssig1 x2 from rfl]
          have HN := Lib.hid (news_at wr #[.int .u32 (IntKind.u32.wrap (IntKind.u32.wrap (IntKind.u32.wrap (x16 + ssig0 x15) + x7) + ssig1 x2))] 23)
          go_region_law ((refine step_append_lies _ (by rfl) (.tmp 80) (.tmp 96) 155 (by rfl) w.heap.size 23 i0 (.int .u32 0) 1 4 Tryd.underlying155 hi hz0 hz1 hz2 (by rfl) (by decide) (.slice (some ⟨gg, 0, none⟩) m cap) m (wv (ext (m - 16) (first16 l))) (by rfl) (by exact hown2.out.alloc _) ⟨wr.heap.size, 0, none⟩ 1 1 [.int .u32 (IntKind.u32.wrap (IntKind.u32.wrap (IntKind.u32.wrap (x16 + ssig0 x15) + x7) + ssig1 x2))] (by rfl) (by rfl) (by exact HN.out) (by exact wv_one [_]) (by omega) (by unfold maxLen; omega) (by omega) (by simp; omega) (wr.heap.size + 1) (by simp) ?_; intro g1 cap1 w2 hown3 hgr2 hat2 hlt2))
          all_goals
            have HW := Lib.hid hown3
            have HG := Lib.hid hgr2
            have hgb : w.heap.size ≤ g1 := by
              rcases hat2 with h | h
              · simp [Value.ownBlock] at h; omega
              · omega
            have hlt3 := hlt2
            clear hown3 hgr2 hat2 hlt2 q15 q2 q16 q7 p15 p2 p16 p7 r15 r2 r16 r7 t15 t2 t16 t7 c15 c2 c16 c7
            go_wp2
            go_roundw
            case rel => unfold WRel; exact ⟨m + 1, g1, cap1, by omega, by omega, by go_num, rfl, hgb, hlt3, Lib.hid (by rw [show m + 1 - 16 = m - 16 + 1 by omega, HE.out]; exact HW.out), below_append_drew hbel.out hbs hown2.out HG.out⟩
            case measure => simp [intOf]; omega
        · obtain rfl : m = 64 := by omega
          have HLEN := Lib.hid hlen
          clear hlen
          go_wp2
          go_ret
          exact ⟨gg, cap, rfl, hgg, hgl, fun i hi => by rw [hown2.out.cellAt i (by omega), wv_get _ _ (by rw [HLEN.out]; exact hi)]; rfl, hbel.out⟩

end Go.Proofs.YtkplmaaeggnbgaaDoor
namespace Go.Proofs.YtkplmaaeggnbgaaDoor
open Go.RowKit

/-- A slice at block g's head holds xs; up to its capacity cells are there, and may be written. -/
structure Grows (w : World) (base g cap : Nat) (xs : List Value) : Prop where
  base : base ≤ g
  lt : g < w.heap.size
  le : xs.length ≤ cap
  max : cap ≤ maxLen
  cells : ∀ j u, xs[j]? = some u → w.cell? ⟨g, j, none⟩ = some u
  room : ∀ j, j < cap → (w.cell? ⟨g, j, none⟩).isSome = true ∧ w.frozen? ⟨g, j, none⟩ = false

theorem Grows.of_block {w w' : World} {base g cap : Nat} {xs : List Value} (h : Grows w base g cap xs) (hb : w'.heap[g]? = w.heap[g]?) (hs : w.heap.size ≤ w'.heap.size) : Grows w' base g cap xs :=
  ⟨h.base, Nat.lt_of_lt_of_le h.lt hs, h.le, h.max, fun j u hu => (World.cell?_of_block (a := ⟨g, j, none⟩) hb).trans (h.cells j u hu),
   fun j hj => by rw [World.cell?_of_block (w := w) (w' := w') (a := ⟨g, j, none⟩) hb, World.frozen?_of_block (w := w) (w' := w') (a := ⟨g, j, none⟩) hb]; exact h.room j hj⟩

theorem Grows.alloc {w : World} {base g cap : Nat} {xs : List Value} (h : Grows w base g cap xs) (o : Obj) : Grows (w.alloc o) base g cap xs :=
  h.of_block (Below.heap_alloc w o g h.lt) (by simp)

theorem Grows.of_owns {w : World} {base n cap g : Nat} {e : TypeId} {xs : List Value} (h : w.ownsRow base e 1 (.slice (some ⟨g, 0, none⟩) n cap) n xs) : Grows w base g cap xs := by
  rcases h.2 with ⟨h', _⟩ | ⟨g', cap', cur, h', hb, hg, hn, hm, hc, ht⟩
  · simp at h'
  · simp only [Value.slice.injEq, Option.some.injEq, Addr.mk.injEq, and_true, true_and] at h'
    obtain ⟨rfl, rfl⟩ := h'
    have hl := h.1
    refine ⟨hb, (Array.getElem?_eq_some_iff.1 hg).1, by omega, hm, fun j u hu => ?_, fun j hj => ?_⟩
    · have hj : j < xs.length := (List.getElem?_eq_some_iff.1 hu).1
      rw [h.cellAt j (by omega)]; exact hu
    · refine ⟨?_, frozen_of_row w g j cur e hg⟩
      rw [cell_of_row w g j cur e (0, 0) hg, Array.getElem?_eq_getElem (by omega)]; rfl

theorem below_setCells {B : Nat} {w w' : World} (_h : Below B w w') (g : Nat) (hg : B ≤ g) : ∀ (vs : List Value) (o : Nat) (w' : World), Below B w w' → Below B w (w'.setCells g o vs)
  | [], _, _, h => h
  | v :: r, o, w', h => by
    rw [World.setCells]
    exact below_setCells h g hg r (o + 1) _ (h.setCell (by simpa using hg) v)

/-- One element more. -/
theorem wpList_append_grow1 {P : Program} (w : World) {ops : Array Oper} {rest : List Oper} {o : Oper} {a : Act} {Q : Exit → Act → World → Prop}
    (hgd : o.guard = none) (s x : Operand) (t : TypeId) (hop : o.op = Op.call { callee := Callee.builtin Builtin.append, args := #[s, x], argTypes := #[t, t] })
    (e : TypeId) (i : TypeInfo) (z : Value) (bytes : Nat) (h1 : P.underlying t = some (.slice e)) (h2 : P.info? e = some i) (h3 : i.zero = some z) (h4 : i.size = 1) (h5 : i.bytes = bytes) (h6 : z.cells.size = 1)
    (base g cap n : Nat) (xs : List Value) (hs : a.eval s = .slice (some ⟨g, 0, none⟩) n cap) (hn : xs.length = n) (hG : Grows w base g cap xs)
    (ad : Addr) (c : Nat) (v : Value) (hx : a.eval x = .slice (some ad) 1 c) (hv : w.cell? ad = some v) (h1c : v.oneCell' = true) (hbase : base ≤ w.heap.size)
    (b1 : n + 1 ≤ maxLen) (b2 : (n + 1) * bytes ≤ 140737488355328)
    (hK : ∀ g' cap' w', Grows w' base g' cap' (xs ++ [v]) → Below base w w' → wpList P ops Q rest (a.put o.dst (.slice (some ⟨g', 0, none⟩) (n + 1) cap')) w') :
    wpList P ops Q (o :: rest) a w := by
  have hnews : ∀ j u, [v][j]? = some u → w.cell? (ad.add j) = some u := fun j u hu => by
    cases j with
    | zero => simp at hu; subst hu; simpa [Addr.add] using hv
    | succ j => simp at hu
  refine wpList_append_arg w hgd s x t hop e i z 1 bytes h1 h2 h3 h4 h5 h6 (by decide) g 0 n cap xs hs (by omega) (fun j u hu => by rw [Nat.zero_add]; exact hG.cells j u hu) ad 1 c [v] hx rfl hnews (by simpa using h1c)
    (fun hr j hj => by simp at hj; subst hj; simpa using hG.room n (by omega)) b1 b2 (fun hr => ?_) (fun hgr v' w' ho hg => ?_)
  · refine hK g cap _ ?_ (below_setCells (Below.refl _ _) g hG.base _ _ _ (Below.refl _ _))
    have hset : w.setCells g (0 + n * 1) [v] = w.setCell ⟨g, n, none⟩ v := by simp [World.setCells]
    rw [hset]
    refine ⟨hG.base, by simpa using hG.lt, by simp; omega, hG.max, fun j u hu => ?_, fun j hj => ?_⟩
    · by_cases hj : j = n
      · subst hj
        rw [List.getElem?_append_right (by omega)] at hu
        simp [hn] at hu
        subst hu
        obtain ⟨y, hy⟩ := Option.isSome_iff_exists.1 (hG.room j (by omega)).1
        exact World.cell?_setCell_same _ _ _ hy
      · have hjl : j < xs.length := by
          have := (List.getElem?_eq_some_iff.1 hu).1
          simp at this; omega
        rw [List.getElem?_append_left hjl] at hu
        rw [World.cell?_setCell_other _ _ _ _ (by intro h; simp at h <;> omega)]
        exact hG.cells j u hu
    · obtain ⟨hh1, hh2⟩ := hG.room j hj
      exact ⟨World.isSome_setCells g [v] n w _ hh1, by simpa using hh2⟩
  · obtain ⟨g', cap', rfl, hb', _⟩ := ho.form (by omega)
    have hG' := Grows.of_owns ho
    exact hK g' cap' w' ⟨by omega, hG'.lt, hG'.le, hG'.max, hG'.cells, hG'.room⟩ ((Below.refl _ _).grown hg hbase (fun k hk => by cases hk))

end Go.Proofs.YtkplmaaeggnbgaaDoor
namespace Go.Proofs.YtkplmaaeggnbgaaDoor
open Go.RowKit

theorem calls_same_of_draws {P : Program} {f : FuncId} {args : Array Value} {w : World} {v : Value} (h : Calls P f args w fun e w' => e = .returned v ∧ ∃ m, w' = w.drewN m) :
    Calls P f args w fun e w' => e = .returned v ∧ Below w.heap.size w w' ∧ w'.heap = w.heap :=
  h.mono fun _ _ ⟨a, m, hm⟩ => ⟨a, by subst hm; exact below_drewN (Below.refl _ _) m, by subst hm; rfl⟩

set_option maxHeartbeats 1000000 in
set_option maxRecDepth 100000 in
theorem decodeWord_any (b o c : Nat) (x0 x1 x2 x3 : Int) (w : World)
    (h0 : w.cell? ⟨b, o, none⟩ = some (.int .u8 x0)) (h1 : w.cell? ⟨b, o + 1, none⟩ = some (.int .u8 x1))
    (h2 : w.cell? ⟨b, o + 2, none⟩ = some (.int .u8 x2)) (h3 : w.cell? ⟨b, o + 3, none⟩ = some (.int .u8 x3)) :
    Calls Tryd.prog 96 #[.slice (some ⟨b, o, none⟩) 4 c] w fun e w' => e = .returned (.int .u32 (word4 x0 x1 x2 x3)) ∧ ∃ m, w' = w.drewN m := by
  go_enter Tryd.func96, Tryd.ntmps96
  go_wp2
  go_quiet (fail)
  go_wp2
  go_ret
  exact ⟨rfl, nq, rfl⟩

end Go.Proofs.YtkplmaaeggnbgaaDoor
namespace Go.Proofs.YtkplmaaeggnbgaaDoor
open Go.RowKit

theorem results_cell_mid {P : Program} {fn : Func} {p : Tmp} {ty : TypeId} (h : fn.results = #[.cell p ty]) (tmps : Array Value) (w : World) (b o : Nat) (cs : List Value) (d : TypeDesc)
    (hp : tmps.getD p undef = .pointer (some ⟨b, o, none⟩)) (hc : w.rangeAt b o cs)
    (hu : P.underlying ty = some d) (hd : d.isRow = true) (hi : (P.info? ty).map (·.size) = some cs.length) :
    (results fn tmps).run P w = .ok (.agg cs.toArray) w := by
  have hp' : tmps[p]?.getD undef = .pointer (some ⟨b, o, none⟩) := by simpa using hp
  simp [results, h, hp', asAddr, run_loadVar_mid w b o ty cs d hc hu hd hi]

theorem run_slice_arr {P : Program} (w : World) (t e : TypeId) (n : Nat) (hu : P.underlying t = some (.array n e)) (hs : (P.info? e).map (·.size) = some 1) (b o l h : Nat) (L H : Int) (hL : L = l) (hH : H = h) (hlh : l < h) (hn : h ≤ n) :
    (Instr.sliceAt t (.pointer (some ⟨b, o, none⟩)) (some (.int .i64 L)) (some (.int .i64 H)) (some (.int .i64 H))).run P w = .ok (.slice (some ⟨b, o + l, none⟩) (h - l) (h - l)) w := by
  subst hL hH
  have hz : (sizeOf e).run P w = .ok 1 w := by
    cases hq : P.info? e with
    | none => simp [hq] at hs
    | some i => simp [hq] at hs; simp [sizeOf, typeInfo, hq, hs]
  have hne : ¬ h = l := by omega
  have e1 : ∀ code w', (Instr.sliceBound (.int .i64 h) n code).run P w' = .ok h w' := fun code w' =>
    (run_sliceBound w' .i64 _ _ code (by omega) (by omega)).trans (by simp)
  have e2 : ∀ code w', (Instr.sliceBound (.int .i64 h) h code).run P w' = .ok h w' := fun code w' =>
    (run_sliceBound w' .i64 _ _ code (by omega) (by omega)).trans (by simp)
  have e3 : ∀ code w', (Instr.sliceBound (.int .i64 l) h code).run P w' = .ok l w' := fun code w' =>
    (run_sliceBound w' .i64 _ _ code (by omega) (by omega)).trans (by simp)
  simp [Instr.sliceAt, Instr.sureAddr, run_underlying hu, Instr.sliceBounds, hz, hne, Addr.add_mid, e1, e2, e3]

theorem sched_eq (l : List UInt8) : ext (64 - 16) (first16 l) = sched l := rfl
attribute [local irreducible] sched

/-- The block, the result and the words under way, in three new blocks. -/
structure Ex (w wr : World) (l : List UInt8) (L : List Int) : Prop where
  blk : wr.rangeAt w.heap.size 0 (bv l)
  res : wr.there (w.heap.size + 1) 0 64
  out : wr.there (w.heap.size + 1 + 1) 0 64
  cells : wr.rangeAt (w.heap.size + 1 + 1) 0 (wv L)
  below : Below w.heap.size w wr

theorem Ex.of_heap {w wr w' : World} {l : List UInt8} {L : List Int} (h : Ex w wr l L) (hb : Below wr.heap.size wr w') (hh : w'.heap = wr.heap) : Ex w w' l L := by
  have hc : ∀ a, w'.cell? a = wr.cell? a := fun a => World.cell?_of_block (by rw [hh])
  have hf : ∀ a, w'.frozen? a = wr.frozen? a := fun a => World.frozen?_of_block (by rw [hh])
  refine ⟨fun j v hv => by rw [hc]; exact h.blk j v hv, fun j hj => by rw [hc, hf]; exact h.res j hj, fun j hj => by rw [hc, hf]; exact h.out j hj, fun j v hv => by rw [hc]; exact h.cells j v hv, ?_⟩
  exact h.below.trans ⟨hb.os, hb.tape, hb.output, hb.size, fun k hk => by rw [hh]⟩

theorem there_setCell {w : World} {b o n : Nat} (h : w.there b o n) (a : Addr) (v : Value) : (w.setCell a v).there b o n := fun j hj => by
  obtain ⟨h1, h2⟩ := h j hj
  refine ⟨?_, by simpa using h2⟩
  obtain ⟨u, hu⟩ := Option.isSome_iff_exists.1 h1
  by_cases e : a = ⟨b, o + j, none⟩
  · subst e; rw [World.cell?_setCell_same _ _ _ hu]; rfl
  · rw [World.cell?_setCell_other _ _ _ _ e, hu]; rfl

theorem Ex.put {w wr : World} {l : List UInt8} {L : List Int} (h : Ex w wr l L) (x : Int) (n : Nat) (hn : L.length = n) (h64 : n < 64) : Ex w (wr.setCell ⟨w.heap.size + 1 + 1, n, none⟩ (.int .u32 x)) l (L ++ [x]) := by
  subst hn
  refine ⟨fun j v hv => ?_, there_setCell h.res _ _, there_setCell h.out _ _, fun j v hv => ?_, h.below.setCell (by simp; omega) _⟩
  · rw [World.cell?_setCell_other _ _ _ _ (by intro e; simp at e)]; exact h.blk j v hv
  · by_cases e : j = L.length
    · subst e
      have : v = .int .u32 x := by simpa [wv] using hv.symm
      subst this
      obtain ⟨y, hy⟩ := Option.isSome_iff_exists.1 (h.out L.length h64).1
      rw [Nat.zero_add] at hy ⊢
      exact World.cell?_setCell_same _ _ _ hy
    · rw [World.cell?_setCell_other _ _ _ _ (by intro e'; simp at e'; first | done | omega)]
      refine h.cells j v ?_
      have hj : j < (wv L).length := by
        have := (List.getElem?_eq_some_iff.1 hv).1
        simp [wv] at this ⊢; omega
      rw [wv_append, List.getElem?_append_left hj] at hv
      exact hv

theorem Ex.word {w wr : World} {l : List UInt8} {L : List Int} (h : Ex w wr l L) (i : Nat) (hi : i < L.length) : wr.cell? ⟨w.heap.size + 1 + 1, i, none⟩ = some (.int .u32 (L.getD i 0)) := by
  have := h.cells i _ (wv_get L i hi)
  simpa using this

theorem Ex.byte {w wr : World} {l : List UInt8} {L : List Int} (h : Ex w wr l L) (i : Nat) (hi : i < l.length) : wr.cell? ⟨w.heap.size, i, none⟩ = some (.int .u8 (byteAt l i)) := by
  have : (bv l)[i]? = some (.int .u8 (byteAt l i)) := by simp [bv, byteAt, List.getD, hi]
  have := h.blk i _ this
  simpa using this

theorem decodeWord_ex (b o c : Nat) (x0 x1 x2 x3 : Int) (w : World)
    (h0 : w.cell? ⟨b, o, none⟩ = some (.int .u8 x0)) (h1 : w.cell? ⟨b, o + 1, none⟩ = some (.int .u8 x1))
    (h2 : w.cell? ⟨b, o + 2, none⟩ = some (.int .u8 x2)) (h3 : w.cell? ⟨b, o + 3, none⟩ = some (.int .u8 x3)) :
    Calls Tryd.prog 96 #[.slice (some ⟨b, o, none⟩) 4 c] w fun e w' => e = .returned (.int .u32 (word4 x0 x1 x2 x3)) ∧ Below w.heap.size w w' ∧ w'.heap = w.heap :=
  calls_same_of_draws (decodeWord_any b o c x0 x1 x2 x3 w h0 h1 h2 h3)

theorem ex_start (w : World) (l : List UInt8) (Z : Array Value) (hZ : Z.size = 64) (t u : TypeId) : Ex w (((w.alloc (.cells (bv l).toArray t)).alloc (.cells Z u)).alloc (.cells Z u)) l [] := by
  have h1 : ∀ (w' : World), ((w'.alloc (.cells Z u)).there w'.heap.size 0 64) := fun w' j hj => by
    rw [Nat.zero_add]
    refine ⟨?_, frozen_of_row _ _ _ Z u (heap_alloc_new w' _)⟩
    rw [cell_of_row _ _ _ Z u (0, 0) (heap_alloc_new w' _), Array.getElem?_eq_getElem (by omega)]; rfl
  refine ⟨?_, ?_, ?_, fun j v hv => by simp [wv] at hv, ?_⟩
  · refine World.rangeAt_alloc (World.rangeAt_alloc (fun j v hv => ?_) _) _
    rw [Nat.zero_add, cell_of_row _ _ _ _ t (0, 0) (heap_alloc_new w _)]
    simpa using hv
  · refine World.there_alloc ?_ _
    have := h1 (w.alloc (.cells (bv l).toArray t))
    simpa using this
  · have := h1 ((w.alloc (.cells (bv l).toArray t)).alloc (.cells Z u))
    simpa using this
  · exact (((Below.refl _ _).alloc (Nat.le_refl _) _).alloc (by simp) _).alloc (by simp; omega) _

theorem size64 : (Tryd.prog.info? 127).map (·.size) = some 64 := by kernel_rfl

set_option maxHeartbeats 1000000 in
set_option maxRecDepth 100000 in
theorem expand_any (l : List UInt8) (hl : l.length = 64) (w : World) :
    Calls Tryd.prog 79 #[.agg (bv l).toArray] w fun e w' => e = .returned (.agg (wv (sched l)).toArray) ∧ Below w.heap.size w w' := by
  go_enter Tryd.func79, Tryd.ntmps79
  go_wp2
  go_loopw [9] (fun vi wr => ∃ j : Nat, j ≤ 16 ∧ vi = .int .i64 j ∧ Hid (Ex w wr l ((List.range j).map (wordAt l)))) (fun vi _ => 16 - (intOf vi).toNat)
  case atStart => exact ⟨0, Nat.zero_le _, rfl, Lib.hid (ex_start w l _ rfl _ _)⟩
  case round =>
    obtain ⟨j, hj, rfl, hE⟩ := hrel
    by_cases hlt : j < 16
    · have b0 : wr.cell? ⟨w.heap.size, 4 * j, none⟩ = some (.int .u8 (byteAt l (4 * j))) := hE.out.byte _ (by omega)
      have b1 : wr.cell? ⟨w.heap.size, 4 * j + 1, none⟩ = some (.int .u8 (byteAt l (4 * j + 1))) := hE.out.byte _ (by omega)
      have b2 : wr.cell? ⟨w.heap.size, 4 * j + 2, none⟩ = some (.int .u8 (byteAt l (4 * j + 2))) := hE.out.byte _ (by omega)
      have b3 : wr.cell? ⟨w.heap.size, 4 * j + 3, none⟩ = some (.int .u8 (byteAt l (4 * j + 3))) := hE.out.byte _ (by omega)
      have hsl : ∀ w', (Instr.sliceAt 25 (.pointer (some ⟨w.heap.size, 0, none⟩)) (some (.int .i64 (4 * (j : Int)))) (some (.int .i64 (4 * (j : Int) + 4))) (some (.int .i64 (4 * (j : Int) + 4)))).run Tryd.prog w' = .ok (.slice (some ⟨w.heap.size, 4 * j, none⟩) 4 4) w' := fun w' => by
        have := run_slice_arr (P := Tryd.prog) w' 25 5 64 (by kernel_rfl) (by kernel_rfl) w.heap.size 0 (4 * j) (4 * j + 4) (4 * (j : Int)) (4 * (j : Int) + 4) (by omega) (by omega) (by omega) (by omega)
        rw [this]; simp
      go_wp2_with fail
      refine (decodeWord_ex _ _ _ _ _ _ _ _ b0 b1 b2 b3).mono ?_
      rintro e w2 ⟨rfl, hb2, hh2⟩
      have hE2 := Lib.hid (hE.out.of_heap hb2 hh2)
      obtain ⟨v0, hv0⟩ := Option.isSome_iff_exists.1 (hE2.out.out j (by omega)).1
      have hf0 := (hE2.out.out j (by omega)).2
      rw [Nat.zero_add] at hv0 hf0
      have r0 : (0 : Int) ≤ (j : Int) := by omega
      have r1 : (j : Int) < 64 := by omega
      clear hb2 hh2 b0 b1 b2 b3 hsl
      have HE := Lib.hid (show (List.range (j + 1)).map (wordAt l) = (List.range j).map (wordAt l) ++ [wordAt l j] by simp [List.range_succ])
      go_wp2
      go_roundw
      case rel => exact ⟨j + 1, by omega, by go_num, Lib.hid (by rw [HE.out]; exact hE2.out.put (wordAt l j) j (by simp) (by omega))⟩
      case measure => simp [intOf]; omega
    · obtain rfl : j = 16 := by omega
      obtain ⟨wo, rfl⟩ : ∃ wo : World, wo = wr := ⟨_, rfl⟩
      have hF : Hid (Ex w wo l (ext 0 (first16 l))) := hE
      clear hE hlt
      go_wp2
      go_loopw [6] (fun vi wr => ∃ m : Nat, 16 ≤ m ∧ m ≤ 64 ∧ vi = .int .i64 m ∧ Hid (Ex w wr l (ext (m - 16) (first16 l)))) (fun vi _ => 64 - (intOf vi).toNat)
      case atStart => exact ⟨16, Nat.le_refl _, by omega, rfl, hF⟩
      case round =>
        clear hF
        obtain ⟨m, hm1, hm2, rfl, hE⟩ := hrel
        have hlen : (ext (m - 16) (first16 l)).length = m := by rw [ext_length, first16_length]; omega
        by_cases hlt : m < 64
        · have c15 := hE.out.word (m - 15) (by omega)
          have c2 := hE.out.word (m - 2) (by omega)
          have c16 := hE.out.word (m - 16) (by omega)
          have c7 := hE.out.word (m - 7) (by omega)
          obtain ⟨x15, e15⟩ : ∃ x, x = (ext (m - 16) (first16 l)).getD (m - 15) 0 := ⟨_, rfl⟩
          obtain ⟨x2, e2⟩ : ∃ x, x = (ext (m - 16) (first16 l)).getD (m - 2) 0 := ⟨_, rfl⟩
          obtain ⟨x16, e16⟩ : ∃ x, x = (ext (m - 16) (first16 l)).getD (m - 16) 0 := ⟨_, rfl⟩
          obtain ⟨x7, e7⟩ : ∃ x, x = (ext (m - 16) (first16 l)).getD (m - 7) 0 := ⟨_, rfl⟩
          rw [← e15] at c15
          rw [← e2] at c2
          rw [← e16] at c16
          rw [← e7] at c7
          have HE : Hid (ext (m - 16 + 1) (first16 l) = ext (m - 16) (first16 l) ++ [(x16 + ssig0 x15 + x7 + ssig1 x2) % 4294967296]) := Lib.hid (by
            rw [e15, e2, e16, e7, ext, wadd]; unfold wnext; rw [hlen])
          have HL := Lib.hid hlen
          clear e15 e2 e16 e7 hlen
          have z16 : (16 : Int) ≤ (m : Int) := by omega
          have z7 : (7 : Int) ≤ (m : Int) := by omega
          have z15 : (15 : Int) ≤ (m : Int) := by omega
          have z2 : (2 : Int) ≤ (m : Int) := by omega
          have q15 : IntKind.i64.wrap ((m : Int) - 15) = (m : Int) - 15 := IntWalk.i64_in _ (by omega)
          have q2 : IntKind.i64.wrap ((m : Int) - 2) = (m : Int) - 2 := IntWalk.i64_in _ (by omega)
          have q16 : IntKind.i64.wrap ((m : Int) - 16) = (m : Int) - 16 := IntWalk.i64_in _ (by omega)
          have q7 : IntKind.i64.wrap ((m : Int) - 7) = (m : Int) - 7 := IntWalk.i64_in _ (by omega)
          have p15 : 0 ≤ (m : Int) - 15 := by omega
          have r15 : (m : Int) - 15 < 64 := by omega
          have p2 : 0 ≤ (m : Int) - 2 := by omega
          have r2 : (m : Int) - 2 < 64 := by omega
          have p16 : 0 ≤ (m : Int) - 16 := by omega
          have r16 : (m : Int) - 16 < 64 := by omega
          have p7 : 0 ≤ (m : Int) - 7 := by omega
          have r7 : (m : Int) - 7 < 64 := by omega
          have t15 : ((m : Int) - 15).toNat = m - 15 := by omega
          have t2 : ((m : Int) - 2).toNat = m - 2 := by omega
          have t16 : ((m : Int) - 16).toNat = m - 16 := by omega
          have t7 : ((m : Int) - 7).toNat = m - 7 := by omega
          go_wp2
          go_quiet ((go_at_call 80; exact Calls.quiet_of_same (rotr_q _ _ _ (by decide) (by decide))))
          revert nq
          intro n1
          go_wp2
          go_quiet ((go_at_call 80; exact quiet_add_same (rotr_q _ _ _ (by decide) (by decide))))
          go_wp2
          rw [show bits .xor .u32 (bits .xor .u32 (rot x15 7) (rot x15 18)) (x15 / 8) = ssig0 x15 from rfl, show bits .xor .u32 (bits .xor .u32 (rot x2 17) (rot x2 19)) (x2 / 1024) = ssig1 x2 from rfl]
          obtain ⟨w1, hw, hcell, hfr, hheap, hbel⟩ := drawn_world ((wr.drewN n1).drewN nq)
          have d16 := (hcell ⟨w.heap.size + 1 + 1, m - 16, none⟩).trans c16
          have d7 := (hcell ⟨w.heap.size + 1 + 1, m - 7, none⟩).trans c7
          have hE2 : Hid (Ex w w1 l (ext (m - 16) (first16 l))) := Lib.hid (hE.out.of_heap ((below_drewN (below_drewN (Below.refl _ _) n1) nq).trans hbel.out) hheap.out)
          obtain ⟨v0, hv0⟩ := Option.isSome_iff_exists.1 (hE2.out.out m hlt).1
          have hf0 := (hE2.out.out m hlt).2
          rw [Nat.zero_add] at hv0 hf0
          have r0 : (m : Int) < 64 := by omega
          clear hcell hfr c16 c7 c15 c2 hE
          refine region_still_tail 15 (by kernel_rfl) (by kernel_rfl) w1 hw.out ?_
          simp only [List.take_succ_cons, List.take_zero, List.drop_succ_cons, List.drop_zero]
          repeat still_step
          refine wpStill_nil ?_
          clear q15 q2 q16 q7 p15 p2 p16 p7 r15 r2 r16 r7 t15 t2 t16 t7
          go_wp2
          go_roundw
          case rel =>
            have HR : Hid (Ex w (w1.setCell ⟨w.heap.size + 1 + 1, m, none⟩ (.int .u32 ((x16 + ssig0 x15 + x7 + ssig1 x2) % 4294967296))) l (ext (m + 1 - 16) (first16 l))) := Lib.hid (by rw [show m + 1 - 16 = m - 16 + 1 by omega, HE.out]; exact hE2.out.put _ m HL.out hlt)
            first
            | exact ⟨m + 1, by omega, by omega, by go_num, HR⟩
            | ((repeat apply Exists.intro); exact ⟨⟨m + 1, by omega, by omega, by go_num, HR⟩, rfl⟩)
          case measure => simp [intOf]; omega
        · obtain rfl : m = 64 := by omega
          have HL := Lib.hid hlen
          clear hlen
          have hE0 := hE.out
          rw [sched_eq] at hE0
          have hl0 := HL.out
          rw [sched_eq] at hl0
          have hwl : (wv (sched l)).length = 64 := by simp [wv, hl0]
          have hcells : wr.rangeAt (w.heap.size + 1 + 1) 0 (wv (sched l)) := hE0.cells
          have HC := Lib.hid hcells
          have HT : Hid (wr.there (w.heap.size + 1) 0 (wv (sched l)).toArray.size) := Lib.hid (by simp only [List.size_toArray]; rw [hwl]; exact hE.out.res)
          have HONE : Hid ((wv (sched l)).toArray.all (·.oneCell') = true) := Lib.hid (all_oneCell_toArray (wv_one _))
          have HI1 : Hid ((Tryd.prog.info? 127).map (·.size) = some (wv (sched l)).length) := Lib.hid (by rw [hwl]; exact size64)
          have HI2 : Hid ((Tryd.prog.info? 127).map (·.size) = some (wv (sched l)).toArray.size) := Lib.hid (by rw [List.size_toArray, hwl]; exact size64)
          have HB : Hid (Below w.heap.size w wr) := Lib.hid hE0.below
          clear hwl hcells hE0 hl0
          go_wp2_with (first
            | (refine wpList_load_mid rfl 127 _ rfl (w.heap.size + 1 + 1) 0 rfl (wv (sched l)) _ HC.out Tryd.underlying127 rfl HI1.out ?_)
            | (refine wpList_store_mid rfl 127 _ _ rfl (w.heap.size + 1) 0 (wv (sched l)).toArray rfl rfl HT.out HI2.out HONE.out ?_))
          have hR : (wr.setCells (w.heap.size + 1) 0 (wv (sched l))).rangeAt (w.heap.size + 1) 0 (wv (sched l)) := World.rangeAt_setCells_same _ _ _ _ (by have h := HT.out; rw [List.size_toArray] at h; exact h)
          refine bodyPost_ret (v := .agg (wv (sched l)).toArray) ?_ rfl ⟨rfl, ?_⟩
          · refine results_cell_mid (ty := 127) (p := 2) (b := w.heap.size + 1) (o := 0) (cs := wv (sched l)) (d := .array 64 23) Tryd.results79 _ _ ?_ hR Tryd.underlying127 rfl HI1.out
            rfl
          exact below_setCells HB.out _ (by omega) _ _ _ HB.out

end Go.Proofs.YtkplmaaeggnbgaaDoor
namespace Go.Proofs.YtkplmaaeggnbgaaDoor
open Go.RowKit

/-- K0 to K63. -/
def consts : List Int := [1116352408, 1899447441, 3049323471, 3921009573, 961987163, 1508970993, 2453635748, 2870763221, 3624381080, 310598401, 607225278, 1426881987, 1925078388, 2162078206, 2614888103, 3248222580, 3835390401, 4022224774, 264347078, 604807628, 770255983, 1249150122, 1555081692, 1996064986, 2554220882, 2821834349, 2952996808, 3210313671, 3336571891, 3584528711, 113926993, 338241895, 666307205, 773529912, 1294757372, 1396182291, 1695183700, 1986661051, 2177026350, 2456956037, 2730485921, 2820302411, 3259730800, 3345764771, 3516065817, 3600352804, 4094571909, 275423344, 430227734, 506948616, 659060556, 883997877, 958139571, 1322822218, 1537002063, 1747873779, 1955562222, 2024104815, 2227730452, 2361852424, 2428436474, 2756734187, 3204031479, 3329325298]

set_option maxHeartbeats 1000000 in
set_option maxRecDepth 100000 in
theorem rconsts_any (w : World) : Calls Tryd.prog 99 #[] w (GivesRow 64 consts w) := by
  go_enter Tryd.func99, Tryd.ntmps99
  go_wp2
  go_ret
  refine ⟨w.heap.size, 64, rfl, Nat.le_refl _, by simp, fun i hi => ?_, (Below.refl _ _).alloc (Nat.le_refl _) _⟩
  rw [World.cell?_alloc_mark]
  have h : ∀ i, i < 64 → (wv consts).toArray[i]? = some (.int .u32 (consts.getD i 0)) := fun i hi => by
    rw [List.getElem?_toArray]; exact wv_get consts i hi
  exact h i hi

/-- Eight bytes of a number, the most significant one first. -/
def be8 (n : Nat) : List UInt8 := [UInt8.ofNat (n / 2 ^ 56), UInt8.ofNat (n / 2 ^ 48), UInt8.ofNat (n / 2 ^ 40), UInt8.ofNat (n / 2 ^ 32), UInt8.ofNat (n / 2 ^ 24), UInt8.ofNat (n / 2 ^ 16), UInt8.ofNat (n / 2 ^ 8), UInt8.ofNat n]

/-- How many bytes 0 there are. -/
def zerosOf (n : Nat) : Nat := (119 - n % 64) % 64

/-- What follows a text of n bytes. -/
def endOf (n : Nat) : List UInt8 := 128 :: List.replicate (zerosOf n) 0 ++ be8 (8 * n)

/-- The message. -/
def pad (l : List UInt8) : List UInt8 := l ++ endOf l.length

theorem zerosOf_stop (n z : Nat) (hz : z ≤ zerosOf n) : ((n + 1 + z) % 64 = 56) ↔ z = zerosOf n := by
  unfold zerosOf at *; omega

theorem bytes_grow {w : World} (s : ByteArray) (cap : Nat) (hc : s.size ≤ cap) (hm : cap ≤ maxLen) (e : TypeId) (n : Nat) (hn : cap ≤ n) : Grows (w.alloc (.cells (bytesRow s cap) e (n, n + 1))) w.heap.size w.heap.size cap (bv s.data.toList) := by
  have hsz : (bytesRow s cap).size = cap := by
    have : s.data.size = s.size := rfl
    simp [bytesRow]; omega
  refine ⟨Nat.le_refl _, by simp, by simp [bv]; exact hc, hm, fun j u hu => ?_, fun j hj => ⟨?_, ?_⟩⟩
  · rw [World.cell?_alloc_mark]
    have hj : j < s.data.size := by have := (List.getElem?_eq_some_iff.1 hu).1; simpa [bv] using this
    unfold bytesRow
    rw [Array.getElem?_append_left (by simpa using hj)]
    simp [bv] at hu
    simpa using hu
  · rw [World.cell?_alloc_mark, Array.getElem?_eq_getElem (by omega)]; rfl
  · have hb : (w.alloc (.cells (bytesRow s cap) e (n, n + 1))).heap[w.heap.size]? = some (.cells (bytesRow s cap) e (n, n + 1)) := heap_alloc_new w _
    simp only [World.frozen?, hb]
    simp; omega

/-- A new row of bytes, L, is handed back. -/
def GivesBytes (L : List UInt8) (w : World) (e : Ending) (w' : World) : Prop :=
  ∃ gg cap : Nat, e = .returned (.slice (some ⟨gg, 0, none⟩) L.length cap) ∧ w.heap.size ≤ gg ∧ gg < w'.heap.size ∧ (∀ i, i < L.length → w'.cell? ⟨gg, i, none⟩ = some (.int .u8 (byteAt L i))) ∧ Below w.heap.size w w' ∧ L.length ≤ cap

def PRel (w : World) (s : ByteArray) (v : Value) (wr : World) : Prop := ∃ z g cap : Nat, z ≤ zerosOf s.size ∧ v = .slice (some ⟨g, 0, none⟩) (s.size + 1 + z) cap ∧
  Hid (Grows wr w.heap.size g cap (bv (s.data.toList ++ 128 :: List.replicate z 0))) ∧ Hid (Below w.heap.size w wr)

theorem zeros_more (l : List UInt8) (z : Nat) : bv (l ++ 128 :: List.replicate (z + 1) 0) = bv (l ++ 128 :: List.replicate z 0) ++ [.int .u8 0] := by
  rw [List.replicate_succ', ← List.cons_append, ← List.append_assoc, bv_append]; rfl

theorem be_step (b : List UInt8) (N j : Nat) (v : Int) (hj : j < 8) (hv : (((be8 N).getD j 0).toNat : Int) = v) : bv (b ++ (be8 N).take (j + 1)) = bv (b ++ (be8 N).take j) ++ [.int .u8 v] := by
  subst hv
  have hl : (be8 N).length = 8 := rfl
  rw [List.take_succ_eq_append_getElem (by omega), ← List.append_assoc, bv_append]
  congr 1
  simp [bv, List.getD, hl, hj]

def ERel (w : World) (s : ByteArray) (n : Nat) (v vi : Value) (wr : World) : Prop := ∃ j g cap : Nat, j ≤ 8 ∧ vi = .int .i64 (7 - j) ∧ v = .slice (some ⟨g, 0, none⟩) (n + j) cap ∧
  Hid (Grows wr w.heap.size g cap (bv ((s.data.toList ++ 128 :: List.replicate (zerosOf s.size) 0) ++ (be8 (8 * s.size)).take j))) ∧ Hid (Below w.heap.size w wr)

def lenOf (v : Value) : Nat := match v with | .slice _ n _ => n | _ => 0

set_option maxHeartbeats 2000000 in
set_option maxRecDepth 100000 in
theorem rpadded_any (s : ByteArray) (w : World) (hs : s.size ≤ 3000) :
    Calls Tryd.prog 100 #[.string s] w (GivesBytes (pad s.data.toList) w) := by
  obtain ⟨i0, hi, hz0, hz1, hz2⟩ := info_parts Tryd.info5
  have hcv := run_bytes_of_string (P := Tryd.prog) w 9 85 5 s Tryd.underlying9 Tryd.underlying85 Tryd.underlying5
  have hC1 := grownCap_ge w s.size 0 5
  have hC2 := grownCap_le_maxLen w s.size 0 5 (by unfold maxLen; omega)
  generalize grownCap w s.size 0 5 = C at hcv hC1 hC2
  have hsz : (bytesRow s C).size = C := by
    have : s.data.size = s.size := rfl
    simp [bytesRow]; omega
  rw [hsz] at hcv
  have hG0 : Grows (w.drew.alloc (.cells (bytesRow s C) 5 (C, C + 1))) w.heap.size w.heap.size C (bv s.data.toList) := bytes_grow (w := w.drew) s C hC1 hC2 _ C (Nat.le_refl _)
  have HG0 := Lib.hid hG0
  have HB0 : Hid (Below w.heap.size w (w.drew.alloc (.cells (bytesRow s C) 5 (C, C + 1)))) := Lib.hid ((Below.refl _ _).drew.alloc (Nat.le_refl _) _)
  generalize w.drew.alloc (.cells (bytesRow s C) 5 (C, C + 1)) = W1 at hcv HG0 HB0
  clear hG0 hsz
  have hlen : Hid ((bv s.data.toList).length = s.size) := Lib.hid (by simp [bv])
  go_enter Tryd.func100, Tryd.ntmps100
  have hW1 := HB0.out.size
  go_wp2_with (at_builtin; refine wpList_append_grow1 _ rfl _ _ 85 rfl 5 i0 (.int .u8 0) 1 Tryd.underlying85 hi hz0 hz1 hz2 rfl w.heap.size w.heap.size C s.size (bv s.data.toList) rfl hlen.out (HG0.out.alloc _) ⟨W1.heap.size, 0, none⟩ 1 (.int .u8 128) rfl (by simp) rfl (by simp; omega) (by unfold maxLen; omega) (by omega) ?_; intro g1 cap1 w2 hg2 hb2)
  have HG2 : Hid (Grows w2 w.heap.size g1 cap1 (bv (s.data.toList ++ 128 :: List.replicate 0 0))) := Lib.hid (by rw [bv_append]; exact hg2)
  have HB2 : Hid (Below w.heap.size w w2) := Lib.hid ((HB0.out.alloc hW1 _).trans hb2)
  clear hg2 hb2 HG0 HB0 hcv hlen
  go_loopw [3] (fun v wr => PRel w s v wr) (fun v _ => 4000 - lenOf v)
  case atStart => unfold PRel; exact ⟨0, g1, cap1, Nat.zero_le _, rfl, HG2, HB2⟩
  case round =>
    clear HG2 HB2 hW1 hC1 hC2
    unfold PRel at hrel
    obtain ⟨z, g, cap, hz, rfl, hG, hB⟩ := hrel
    have hst := zerosOf_stop s.size z hz
    have hzl : zerosOf s.size < 64 := by unfold zerosOf; omega
    have hlen : (bv (s.data.toList ++ 128 :: List.replicate z 0)).length = s.size + 1 + z := by simp [bv]; omega
    obtain ⟨n, hn⟩ : ∃ n, n = s.size + 1 + z := ⟨_, rfl⟩
    rw [← hn] at hlen hst
    have hnb : n ≤ 3100 := by omega
    have HL := Lib.hid hlen
    have HN := Lib.hid hn
    rw [← hn]
    have hbs := hB.out.size
    by_cases hlt : z = zerosOf s.size
    · have t1 : (((n : Nat) : Int) % 64 != 56) = false := by
        have := hst.2 hlt
        simp; omega
      clear hst hlen hn
      have HZ := Lib.hid hlt
      clear hlt
      go_wp2
      obtain ⟨wo, rfl⟩ : ∃ wo : World, wo = wr := ⟨_, rfl⟩
      go_loopw [3, 5] (fun v vi wr => ERel w s n v vi wr) (fun _ vi _ => (1 + intOf vi).toNat)
      case atStart => unfold ERel; exact ⟨0, g, cap, Nat.zero_le _, rfl, rfl, Lib.hid (by rw [List.take_zero, List.append_nil, ← HZ.out]; exact hG.out), hB⟩
      case round =>
        clear t1 HL hG hB
        unfold ERel at hrel
        obtain ⟨j, g, cap, hj, rfl, rfl, hG, hB⟩ := hrel
        have hbs := hB.out.size
        rcases (show j = 0 ∨ j = 1 ∨ j = 2 ∨ j = 3 ∨ j = 4 ∨ j = 5 ∨ j = 6 ∨ j = 7 ∨ j = 8 by omega) with rfl | rfl | rfl | rfl | rfl | rfl | rfl | rfl | rfl
        · have HE : Hid (bv ((s.data.toList ++ 128 :: List.replicate (zerosOf s.size) 0) ++ (be8 (8 * s.size)).take (0 + 1)) = bv ((s.data.toList ++ 128 :: List.replicate (zerosOf s.size) 0) ++ (be8 (8 * s.size)).take 0) ++ [.int .u8 (8 * (s.size : Int) / 72057594037927936)]) := Lib.hid (be_step _ _ 0 _ (by decide) (by simp [be8] <;> omega))
          have HL : Hid ((bv ((s.data.toList ++ 128 :: List.replicate (zerosOf s.size) 0) ++ (be8 (8 * s.size)).take 0)).length = n) := Lib.hid (by rw [HN.out, HZ.out]; simp [bv, be8]; omega)
          go_wp2_with (at_builtin; refine wpList_append_grow1 _ rfl _ _ 85 rfl 5 i0 (.int .u8 0) 1 Tryd.underlying85 hi hz0 hz1 hz2 rfl w.heap.size g cap n (bv ((s.data.toList ++ 128 :: List.replicate (zerosOf s.size) 0) ++ (be8 (8 * s.size)).take 0)) rfl HL.out (hG.out.alloc _) ⟨wr.heap.size, 0, none⟩ 1 (.int .u8 (8 * (s.size : Int) / 72057594037927936)) rfl (by simp) rfl (by simp; omega) (by unfold maxLen; omega) (by omega) ?_; intro g2 cap2 w3 hg3 hb3)
          have HG3 : Hid (Grows w3 w.heap.size g2 cap2 (bv ((s.data.toList ++ 128 :: List.replicate (zerosOf s.size) 0) ++ (be8 (8 * s.size)).take (0 + 1)))) := Lib.hid (by rw [HE.out]; exact hg3)
          have HB3 : Hid (Below w.heap.size w w3) := Lib.hid ((hB.out.alloc hbs _).trans hb3)
          clear hg3 hb3 hG hB HL
          go_wp2
          go_roundw
          case rel => unfold ERel; exact ⟨1, g2, cap2, by omega, rfl, rfl, HG3, HB3⟩
          case measure => simp [intOf]
        · have HE : Hid (bv ((s.data.toList ++ 128 :: List.replicate (zerosOf s.size) 0) ++ (be8 (8 * s.size)).take (1 + 1)) = bv ((s.data.toList ++ 128 :: List.replicate (zerosOf s.size) 0) ++ (be8 (8 * s.size)).take 1) ++ [.int .u8 (8 * (s.size : Int) / 281474976710656)]) := Lib.hid (be_step _ _ 1 _ (by decide) (by simp [be8] <;> omega))
          have HL : Hid ((bv ((s.data.toList ++ 128 :: List.replicate (zerosOf s.size) 0) ++ (be8 (8 * s.size)).take 1)).length = (n + 1)) := Lib.hid (by rw [HN.out, HZ.out]; simp [bv, be8]; omega)
          go_wp2_with (at_builtin; refine wpList_append_grow1 _ rfl _ _ 85 rfl 5 i0 (.int .u8 0) 1 Tryd.underlying85 hi hz0 hz1 hz2 rfl w.heap.size g cap (n + 1) (bv ((s.data.toList ++ 128 :: List.replicate (zerosOf s.size) 0) ++ (be8 (8 * s.size)).take 1)) rfl HL.out (hG.out.alloc _) ⟨wr.heap.size, 0, none⟩ 1 (.int .u8 (8 * (s.size : Int) / 281474976710656)) rfl (by simp) rfl (by simp; omega) (by unfold maxLen; omega) (by omega) ?_; intro g2 cap2 w3 hg3 hb3)
          have HG3 : Hid (Grows w3 w.heap.size g2 cap2 (bv ((s.data.toList ++ 128 :: List.replicate (zerosOf s.size) 0) ++ (be8 (8 * s.size)).take (1 + 1)))) := Lib.hid (by rw [HE.out]; exact hg3)
          have HB3 : Hid (Below w.heap.size w w3) := Lib.hid ((hB.out.alloc hbs _).trans hb3)
          clear hg3 hb3 hG hB HL
          go_wp2
          go_roundw
          case rel => unfold ERel; exact ⟨2, g2, cap2, by omega, rfl, rfl, HG3, HB3⟩
          case measure => simp [intOf]
        · have HE : Hid (bv ((s.data.toList ++ 128 :: List.replicate (zerosOf s.size) 0) ++ (be8 (8 * s.size)).take (2 + 1)) = bv ((s.data.toList ++ 128 :: List.replicate (zerosOf s.size) 0) ++ (be8 (8 * s.size)).take 2) ++ [.int .u8 (8 * (s.size : Int) / 1099511627776)]) := Lib.hid (be_step _ _ 2 _ (by decide) (by simp [be8] <;> omega))
          have HL : Hid ((bv ((s.data.toList ++ 128 :: List.replicate (zerosOf s.size) 0) ++ (be8 (8 * s.size)).take 2)).length = (n + 2)) := Lib.hid (by rw [HN.out, HZ.out]; simp [bv, be8]; omega)
          go_wp2_with (at_builtin; refine wpList_append_grow1 _ rfl _ _ 85 rfl 5 i0 (.int .u8 0) 1 Tryd.underlying85 hi hz0 hz1 hz2 rfl w.heap.size g cap (n + 2) (bv ((s.data.toList ++ 128 :: List.replicate (zerosOf s.size) 0) ++ (be8 (8 * s.size)).take 2)) rfl HL.out (hG.out.alloc _) ⟨wr.heap.size, 0, none⟩ 1 (.int .u8 (8 * (s.size : Int) / 1099511627776)) rfl (by simp) rfl (by simp; omega) (by unfold maxLen; omega) (by omega) ?_; intro g2 cap2 w3 hg3 hb3)
          have HG3 : Hid (Grows w3 w.heap.size g2 cap2 (bv ((s.data.toList ++ 128 :: List.replicate (zerosOf s.size) 0) ++ (be8 (8 * s.size)).take (2 + 1)))) := Lib.hid (by rw [HE.out]; exact hg3)
          have HB3 : Hid (Below w.heap.size w w3) := Lib.hid ((hB.out.alloc hbs _).trans hb3)
          clear hg3 hb3 hG hB HL
          go_wp2
          go_roundw
          case rel => unfold ERel; exact ⟨3, g2, cap2, by omega, rfl, rfl, HG3, HB3⟩
          case measure => simp [intOf]
        · have HE : Hid (bv ((s.data.toList ++ 128 :: List.replicate (zerosOf s.size) 0) ++ (be8 (8 * s.size)).take (3 + 1)) = bv ((s.data.toList ++ 128 :: List.replicate (zerosOf s.size) 0) ++ (be8 (8 * s.size)).take 3) ++ [.int .u8 (8 * (s.size : Int) / 4294967296)]) := Lib.hid (be_step _ _ 3 _ (by decide) (by simp [be8] <;> omega))
          have HL : Hid ((bv ((s.data.toList ++ 128 :: List.replicate (zerosOf s.size) 0) ++ (be8 (8 * s.size)).take 3)).length = (n + 3)) := Lib.hid (by rw [HN.out, HZ.out]; simp [bv, be8]; omega)
          go_wp2_with (at_builtin; refine wpList_append_grow1 _ rfl _ _ 85 rfl 5 i0 (.int .u8 0) 1 Tryd.underlying85 hi hz0 hz1 hz2 rfl w.heap.size g cap (n + 3) (bv ((s.data.toList ++ 128 :: List.replicate (zerosOf s.size) 0) ++ (be8 (8 * s.size)).take 3)) rfl HL.out (hG.out.alloc _) ⟨wr.heap.size, 0, none⟩ 1 (.int .u8 (8 * (s.size : Int) / 4294967296)) rfl (by simp) rfl (by simp; omega) (by unfold maxLen; omega) (by omega) ?_; intro g2 cap2 w3 hg3 hb3)
          have HG3 : Hid (Grows w3 w.heap.size g2 cap2 (bv ((s.data.toList ++ 128 :: List.replicate (zerosOf s.size) 0) ++ (be8 (8 * s.size)).take (3 + 1)))) := Lib.hid (by rw [HE.out]; exact hg3)
          have HB3 : Hid (Below w.heap.size w w3) := Lib.hid ((hB.out.alloc hbs _).trans hb3)
          clear hg3 hb3 hG hB HL
          go_wp2
          go_roundw
          case rel => unfold ERel; exact ⟨4, g2, cap2, by omega, rfl, rfl, HG3, HB3⟩
          case measure => simp [intOf]
        · have HE : Hid (bv ((s.data.toList ++ 128 :: List.replicate (zerosOf s.size) 0) ++ (be8 (8 * s.size)).take (4 + 1)) = bv ((s.data.toList ++ 128 :: List.replicate (zerosOf s.size) 0) ++ (be8 (8 * s.size)).take 4) ++ [.int .u8 (8 * (s.size : Int) / 16777216)]) := Lib.hid (be_step _ _ 4 _ (by decide) (by simp [be8] <;> omega))
          have HL : Hid ((bv ((s.data.toList ++ 128 :: List.replicate (zerosOf s.size) 0) ++ (be8 (8 * s.size)).take 4)).length = (n + 4)) := Lib.hid (by rw [HN.out, HZ.out]; simp [bv, be8]; omega)
          go_wp2_with (at_builtin; refine wpList_append_grow1 _ rfl _ _ 85 rfl 5 i0 (.int .u8 0) 1 Tryd.underlying85 hi hz0 hz1 hz2 rfl w.heap.size g cap (n + 4) (bv ((s.data.toList ++ 128 :: List.replicate (zerosOf s.size) 0) ++ (be8 (8 * s.size)).take 4)) rfl HL.out (hG.out.alloc _) ⟨wr.heap.size, 0, none⟩ 1 (.int .u8 (8 * (s.size : Int) / 16777216)) rfl (by simp) rfl (by simp; omega) (by unfold maxLen; omega) (by omega) ?_; intro g2 cap2 w3 hg3 hb3)
          have HG3 : Hid (Grows w3 w.heap.size g2 cap2 (bv ((s.data.toList ++ 128 :: List.replicate (zerosOf s.size) 0) ++ (be8 (8 * s.size)).take (4 + 1)))) := Lib.hid (by rw [HE.out]; exact hg3)
          have HB3 : Hid (Below w.heap.size w w3) := Lib.hid ((hB.out.alloc hbs _).trans hb3)
          clear hg3 hb3 hG hB HL
          go_wp2
          go_roundw
          case rel => unfold ERel; exact ⟨5, g2, cap2, by omega, rfl, rfl, HG3, HB3⟩
          case measure => simp [intOf]
        · have HE : Hid (bv ((s.data.toList ++ 128 :: List.replicate (zerosOf s.size) 0) ++ (be8 (8 * s.size)).take (5 + 1)) = bv ((s.data.toList ++ 128 :: List.replicate (zerosOf s.size) 0) ++ (be8 (8 * s.size)).take 5) ++ [.int .u8 (8 * (s.size : Int) / 65536)]) := Lib.hid (be_step _ _ 5 _ (by decide) (by simp [be8] <;> omega))
          have HL : Hid ((bv ((s.data.toList ++ 128 :: List.replicate (zerosOf s.size) 0) ++ (be8 (8 * s.size)).take 5)).length = (n + 5)) := Lib.hid (by rw [HN.out, HZ.out]; simp [bv, be8]; omega)
          go_wp2_with (at_builtin; refine wpList_append_grow1 _ rfl _ _ 85 rfl 5 i0 (.int .u8 0) 1 Tryd.underlying85 hi hz0 hz1 hz2 rfl w.heap.size g cap (n + 5) (bv ((s.data.toList ++ 128 :: List.replicate (zerosOf s.size) 0) ++ (be8 (8 * s.size)).take 5)) rfl HL.out (hG.out.alloc _) ⟨wr.heap.size, 0, none⟩ 1 (.int .u8 (8 * (s.size : Int) / 65536)) rfl (by simp) rfl (by simp; omega) (by unfold maxLen; omega) (by omega) ?_; intro g2 cap2 w3 hg3 hb3)
          have HG3 : Hid (Grows w3 w.heap.size g2 cap2 (bv ((s.data.toList ++ 128 :: List.replicate (zerosOf s.size) 0) ++ (be8 (8 * s.size)).take (5 + 1)))) := Lib.hid (by rw [HE.out]; exact hg3)
          have HB3 : Hid (Below w.heap.size w w3) := Lib.hid ((hB.out.alloc hbs _).trans hb3)
          clear hg3 hb3 hG hB HL
          go_wp2
          go_roundw
          case rel => unfold ERel; exact ⟨6, g2, cap2, by omega, rfl, rfl, HG3, HB3⟩
          case measure => simp [intOf]
        · have HE : Hid (bv ((s.data.toList ++ 128 :: List.replicate (zerosOf s.size) 0) ++ (be8 (8 * s.size)).take (6 + 1)) = bv ((s.data.toList ++ 128 :: List.replicate (zerosOf s.size) 0) ++ (be8 (8 * s.size)).take 6) ++ [.int .u8 (8 * (s.size : Int) / 256)]) := Lib.hid (be_step _ _ 6 _ (by decide) (by simp [be8] <;> omega))
          have HL : Hid ((bv ((s.data.toList ++ 128 :: List.replicate (zerosOf s.size) 0) ++ (be8 (8 * s.size)).take 6)).length = (n + 6)) := Lib.hid (by rw [HN.out, HZ.out]; simp [bv, be8]; omega)
          go_wp2_with (at_builtin; refine wpList_append_grow1 _ rfl _ _ 85 rfl 5 i0 (.int .u8 0) 1 Tryd.underlying85 hi hz0 hz1 hz2 rfl w.heap.size g cap (n + 6) (bv ((s.data.toList ++ 128 :: List.replicate (zerosOf s.size) 0) ++ (be8 (8 * s.size)).take 6)) rfl HL.out (hG.out.alloc _) ⟨wr.heap.size, 0, none⟩ 1 (.int .u8 (8 * (s.size : Int) / 256)) rfl (by simp) rfl (by simp; omega) (by unfold maxLen; omega) (by omega) ?_; intro g2 cap2 w3 hg3 hb3)
          have HG3 : Hid (Grows w3 w.heap.size g2 cap2 (bv ((s.data.toList ++ 128 :: List.replicate (zerosOf s.size) 0) ++ (be8 (8 * s.size)).take (6 + 1)))) := Lib.hid (by rw [HE.out]; exact hg3)
          have HB3 : Hid (Below w.heap.size w w3) := Lib.hid ((hB.out.alloc hbs _).trans hb3)
          clear hg3 hb3 hG hB HL
          go_wp2
          go_roundw
          case rel => unfold ERel; exact ⟨7, g2, cap2, by omega, rfl, rfl, HG3, HB3⟩
          case measure => simp [intOf]
        · have HE : Hid (bv ((s.data.toList ++ 128 :: List.replicate (zerosOf s.size) 0) ++ (be8 (8 * s.size)).take (7 + 1)) = bv ((s.data.toList ++ 128 :: List.replicate (zerosOf s.size) 0) ++ (be8 (8 * s.size)).take 7) ++ [.int .u8 (8 * (s.size : Int) % 256)]) := Lib.hid (be_step _ _ 7 _ (by decide) (by simp [be8] <;> omega))
          have HL : Hid ((bv ((s.data.toList ++ 128 :: List.replicate (zerosOf s.size) 0) ++ (be8 (8 * s.size)).take 7)).length = (n + 7)) := Lib.hid (by rw [HN.out, HZ.out]; simp [bv, be8]; omega)
          go_wp2_with (at_builtin; refine wpList_append_grow1 _ rfl _ _ 85 rfl 5 i0 (.int .u8 0) 1 Tryd.underlying85 hi hz0 hz1 hz2 rfl w.heap.size g cap (n + 7) (bv ((s.data.toList ++ 128 :: List.replicate (zerosOf s.size) 0) ++ (be8 (8 * s.size)).take 7)) rfl HL.out (hG.out.alloc _) ⟨wr.heap.size, 0, none⟩ 1 (.int .u8 (8 * (s.size : Int) % 256)) rfl (by simp) rfl (by simp; omega) (by unfold maxLen; omega) (by omega) ?_; intro g2 cap2 w3 hg3 hb3)
          have HG3 : Hid (Grows w3 w.heap.size g2 cap2 (bv ((s.data.toList ++ 128 :: List.replicate (zerosOf s.size) 0) ++ (be8 (8 * s.size)).take (7 + 1)))) := Lib.hid (by rw [HE.out]; exact hg3)
          have HB3 : Hid (Below w.heap.size w w3) := Lib.hid ((hB.out.alloc hbs _).trans hb3)
          clear hg3 hb3 hG hB HL
          go_wp2
          go_roundw
          case rel => unfold ERel; exact ⟨8, g2, cap2, by omega, rfl, rfl, HG3, HB3⟩
          case measure => simp [intOf]
        · have hlen : (pad s.data.toList).length = n + 8 := by rw [HN.out, HZ.out]; simp [pad, endOf, be8]; omega
          have hpad : pad s.data.toList = (s.data.toList ++ 128 :: List.replicate (zerosOf s.size) 0) ++ (be8 (8 * s.size)).take 8 := by
            have : s.data.toList.length = s.size := by simp
            unfold pad endOf
            rw [this, List.append_assoc]; rfl
          have HL := Lib.hid hlen
          have HP := Lib.hid hpad
          clear hlen hpad
          go_wp2
          go_ret
          refine ⟨g, cap, by rw [HL.out]; rfl, hG.out.base, hG.out.lt, fun i hi => ?_, hB.out, ?_⟩
          · refine hG.out.cells i _ ?_
            rw [← HP.out]
            simp [bv, byteAt, List.getD, hi]
          · have := hG.out.le
            rw [← HP.out] at this
            simpa [bv] using this
    · have t1 : (((n : Nat) : Int) % 64 != 56) = true := by
        have : ¬ n % 64 = 56 := fun h => hlt (hst.1 h)
        simp; omega
      have HZ : z + 1 ≤ zerosOf s.size := by omega
      clear hst hlen hn hlt
      go_wp2_with (at_builtin; refine wpList_append_grow1 _ rfl _ _ 85 rfl 5 i0 (.int .u8 0) 1 Tryd.underlying85 hi hz0 hz1 hz2 rfl w.heap.size g cap n (bv (s.data.toList ++ 128 :: List.replicate z 0)) rfl HL.out (hG.out.alloc _) ⟨wr.heap.size, 0, none⟩ 1 (.int .u8 0) rfl (by simp) rfl (by simp; omega) (by unfold maxLen; omega) (by omega) ?_; intro g2 cap2 w3 hg3 hb3)
      have HG3 : Hid (Grows w3 w.heap.size g2 cap2 (bv (s.data.toList ++ 128 :: List.replicate (z + 1) 0))) := Lib.hid (by rw [zeros_more]; exact hg3)
      have HB3 : Hid (Below w.heap.size w w3) := Lib.hid ((hB.out.alloc hbs _).trans hb3)
      clear hg3 hb3 hG hB
      go_roundw
      case rel => unfold PRel; exact ⟨z + 1, g2, cap2, HZ, by rw [HN.out]; rfl, HG3, HB3⟩
      case measure => simp [lenOf]; omega

end Go.Proofs.YtkplmaaeggnbgaaDoor
namespace Go.Proofs.YtkplmaaeggnbgaaDoor
open Go.RowKit

def rounds (ks ws : List Int) : Nat → R8 → R8
  | 0, s => s
  | k + 1, s => stepR (rounds ks ws k s) (ks.getD k 0) (ws.getD k 0)

def add8 (s v : R8) : R8 := ⟨(s.a + v.a) % 4294967296, (s.b + v.b) % 4294967296, (s.c + v.c) % 4294967296, (s.d + v.d) % 4294967296, (s.e + v.e) % 4294967296, (s.f + v.f) % 4294967296, (s.g + v.g) % 4294967296, (s.h + v.h) % 4294967296⟩

/-- The words behind one more block. -/
def comp (s : R8) (blk : List UInt8) : R8 := add8 s (rounds consts (sched blk) 64 s)

def init8 : R8 := ⟨1779033703, 3144134277, 1013904242, 2773480762, 1359893119, 2600822924, 528734635, 1541459225⟩

/-- Block n of a message. -/
def blockOf (l : List UInt8) (n : Nat) : List UInt8 := (l.drop (64 * n)).take 64

/-- The words behind n blocks. -/
def absorb (l : List UInt8) : Nat → R8
  | 0 => init8
  | n + 1 => comp (absorb l n) (blockOf l n)

def be4 (x : Int) : List UInt8 := [UInt8.ofNat (x.toNat / 2 ^ 24), UInt8.ofNat (x.toNat / 2 ^ 16), UInt8.ofNat (x.toNat / 2 ^ 8), UInt8.ofNat x.toNat]

def out8 (s : R8) : List UInt8 := be4 s.a ++ be4 s.b ++ be4 s.c ++ be4 s.d ++ be4 s.e ++ be4 s.f ++ be4 s.g ++ be4 s.h

/-- A text's digest. -/
def sha (l : List UInt8) : List UInt8 := out8 (absorb (pad l) ((pad l).length / 64))

theorem out8_length (s : R8) : (out8 s).length = 32 := rfl
theorem sha_length (l : List UInt8) : (sha l).length = 32 := rfl

theorem endOf_length (n : Nat) : (endOf n).length = 9 + zerosOf n := by simp [endOf, be8]; omega

theorem pad_length (l : List UInt8) : (pad l).length = l.length + 9 + zerosOf l.length := by simp [pad, endOf_length]; omega

theorem pad_blocks (l : List UInt8) : (pad l).length = 64 * ((pad l).length / 64) := by
  rw [pad_length]; unfold zerosOf; omega

theorem blockOf_length (l : List UInt8) (n : Nat) (h : 64 * n + 64 ≤ l.length) : (blockOf l n).length = 64 := by simp [blockOf]; omega

theorem blockOf_prefix (l r : List UInt8) (n : Nat) (h : 64 * n + 64 ≤ l.length) : blockOf (l ++ r) n = blockOf l n := by
  unfold blockOf
  rw [List.drop_append_of_le_length (by omega), List.take_append_of_le_length (by simp; omega)]

theorem absorb_prefix (l r : List UInt8) : ∀ n, 64 * n ≤ l.length → absorb (l ++ r) n = absorb l n
  | 0, _ => rfl
  | n + 1, h => by
    rw [absorb, absorb, absorb_prefix l r n (by omega), blockOf_prefix l r n (by omega)]

/-! Each word is a number below 2^32. -/
structure R8.Ok (s : R8) : Prop where
  a : 0 ≤ s.a ∧ s.a < 4294967296
  b : 0 ≤ s.b ∧ s.b < 4294967296
  c : 0 ≤ s.c ∧ s.c < 4294967296
  d : 0 ≤ s.d ∧ s.d < 4294967296
  e : 0 ≤ s.e ∧ s.e < 4294967296
  f : 0 ≤ s.f ∧ s.f < 4294967296
  g : 0 ≤ s.g ∧ s.g < 4294967296
  h : 0 ≤ s.h ∧ s.h < 4294967296

theorem add8_ok (s v : R8) : (add8 s v).Ok := by
  constructor <;> simp only [add8] <;> omega

theorem absorb_ok (l : List UInt8) : ∀ n, (absorb l n).Ok
  | 0 => by constructor <;> simp [absorb, init8]
  | n + 1 => add8_ok _ _

end Go.Proofs.YtkplmaaeggnbgaaDoor
