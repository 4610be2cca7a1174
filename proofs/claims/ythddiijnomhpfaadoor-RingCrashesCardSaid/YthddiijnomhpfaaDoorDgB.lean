/- The walk of the document's step: its contract. No condition but those that it states. -/
import Derived.Test.YthddiijnomhpfaaDoorDgA
import Derived.Deep.QuietTactic
import Derived.BigQuiet
import Derived.StillTailTactics
import Derived.BigRegion
import Derived.Outline
namespace Go.Proofs.YthddiijnomhpfaaDoor
open Go.RowKit

/-- The eight words of a digest under way. -/
structure R8 where
  a : Int
  b : Int
  c : Int
  d : Int
  e : Int
  f : Int
  g : Int
  h : Int

def R8.at (s : R8) : Nat → Int
  | 0 => s.a
  | 1 => s.b
  | 2 => s.c
  | 3 => s.d
  | 4 => s.e
  | 5 => s.f
  | 6 => s.g
  | _ => s.h

/-- Eight words at a block's head. -/
def Has8 (w : World) (b : Nat) (s : R8) : Prop := ∀ i, i < 8 → w.cell? ⟨b, i, none⟩ = some (.int .u32 (s.at i))

theorem Has8.later {w w' : World} {b B : Nat} {s : R8} (h : Has8 w b s) (k : Below B w w') (hb : b < B) : Has8 w' b s :=
  fun i hi => (k.cell (p := ⟨b, i, none⟩) hb).trans (h i hi)

def sig1 (e : Int) : Int := bits .xor .u32 (bits .xor .u32 (rot e 6) (rot e 11)) (rot e 25)
def sig0 (a : Int) : Int := bits .xor .u32 (bits .xor .u32 (rot a 2) (rot a 13)) (rot a 22)
def chi (e f g : Int) : Int := bits .xor .u32 (bits .and .u32 e f) (bits .and .u32 (bits .xor .u32 IntKind.u32.max e) g)
def maj (a b c : Int) : Int := bits .xor .u32 (bits .xor .u32 (bits .and .u32 a b) (bits .and .u32 a c)) (bits .and .u32 b c)
def tOne (s : R8) (k x : Int) : Int := (s.h + sig1 s.e + chi s.e s.f s.g + k + x) % 4294967296
def tTwo (s : R8) : Int := (sig0 s.a + maj s.a s.b s.c) % 4294967296
def stepR (s : R8) (k x : Int) : R8 := ⟨(tOne s k x + tTwo s) % 4294967296, s.a, s.b, s.c, (s.d + tOne s k x) % 4294967296, s.e, s.f, s.g⟩

theorem wrap32u (x : Int) : IntKind.u32.wrap x = x % 4294967296 := rfl

set_option maxHeartbeats 1000000 in
set_option maxRecDepth 100000 in
theorem rstep_any (b : Nat) (s : R8) (k x : Int) (c : Nat) (w : World)
    (H : Has8 w b s) :
    Calls Tryd.prog 76 #[.slice (some ⟨b, 0, none⟩) 8 c, .int .u32 k, .int .u32 x] w fun e w' => e = .returned (.slice (some ⟨w.heap.size, 0, none⟩) 8 8) ∧ Has8 w' w.heap.size (stepR s k x) ∧ Below w.heap.size w w' ∧ w.heap.size < w'.heap.size := by
  have ha := H 0 (by decide)
  have hb := H 1 (by decide)
  have hc := H 2 (by decide)
  have hd := H 3 (by decide)
  have he := H 4 (by decide)
  have hf := H 5 (by decide)
  have hg := H 6 (by decide)
  have hh := H 7 (by decide)
  clear H
  simp only [R8.at] at ha hb hc hd he hf hg hh
  go_enter Tryd.func76, Tryd.ntmps76
  go_wp2
  go_quiet ((go_at_call 81; exact Calls.quiet_of_same (rrotr_q _ _ _ (by decide) (by decide))))
  revert nq
  intro n1
  go_wp2
  go_quiet ((go_at_call 81; exact quiet_add_same (rrotr_q _ _ _ (by decide) (by decide))))
  go_wp2
  rw [show (s.h + bits BinOp.xor IntKind.u32 (bits BinOp.xor IntKind.u32 (rot s.e 6) (rot s.e 11)) (rot s.e 25) + bits BinOp.xor IntKind.u32 (bits BinOp.and IntKind.u32 s.e s.f) (bits BinOp.and IntKind.u32 (bits BinOp.xor IntKind.u32 IntKind.u32.max s.e) s.g) + k + x) % 4294967296 = tOne s k x from rfl]
  rw [show (bits BinOp.xor IntKind.u32 (bits BinOp.xor IntKind.u32 (rot s.a 2) (rot s.a 13)) (rot s.a 22) + bits BinOp.xor IntKind.u32 (bits BinOp.xor IntKind.u32 (bits BinOp.and IntKind.u32 s.a s.b) (bits BinOp.and IntKind.u32 s.a s.c)) (bits BinOp.and IntKind.u32 s.b s.c)) % 4294967296 = tTwo s from rfl]
  have q1 := wrap32u (tOne s k x + tTwo s)
  have q2 := wrap32u (s.d + tOne s k x)
  obtain ⟨w1, hw, hcell, -, hheap, hbel⟩ := drawn_world ((w.drewN n1).drewN nq)
  have a1 := (hcell ⟨b, 0, none⟩).trans ha
  have b1 := (hcell ⟨b, 1, none⟩).trans hb
  have c1 := (hcell ⟨b, 2, none⟩).trans hc
  have d1 := (hcell ⟨b, 3, none⟩).trans hd
  have e1 := (hcell ⟨b, 4, none⟩).trans he
  have f1 := (hcell ⟨b, 5, none⟩).trans hf
  have g1 := (hcell ⟨b, 6, none⟩).trans hg
  clear hcell ha hb hc hd he hf hg hh
  refine region_still_tail 26 (by kernel_rfl) (by kernel_rfl) w1 hw.out ?_
  simp only [List.take_succ_cons, List.take_zero, List.drop_succ_cons, List.drop_zero]
  repeat still_step
  refine wpStill_nil ?_
  go_wp2
  clear h
  have hs : w1.heap.size = w.heap.size := by rw [hheap.out]; rfl
  rw [hs]
  go_ret
  refine ⟨rfl, fun i hi => ?_, ?_, ?_⟩
  · rw [← hs]
    rcases (show i = 0 ∨ i = 1 ∨ i = 2 ∨ i = 3 ∨ i = 4 ∨ i = 5 ∨ i = 6 ∨ i = 7 by omega) with rfl | rfl | rfl | rfl | rfl | rfl | rfl | rfl <;> simp [R8.at, stepR]
  · have hb0 : Below w.heap.size w w1 := (below_drewN (below_drewN (Below.refl _ _) n1) nq).trans hbel.out
    exact hb0.alloc (by omega) _
  · simp; omega

end Go.Proofs.YthddiijnomhpfaaDoor
