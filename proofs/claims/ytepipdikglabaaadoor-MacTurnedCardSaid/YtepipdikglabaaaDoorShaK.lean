/- Two digests reckoned out: of no bytes, and of 'abc'. No condition. -/
import Derived.Test.YtepipdikglabaaaDoorDgH
import Derived.Lib.HexFns
namespace Go.Proofs.YtepipdikglabaaaDoor
open Go.RowKit

def forceI {α : Type} (x : Int) (k : Int → α) : α := match x with
  | .ofNat 0 => k 0
  | .ofNat (m + 1) => k (.ofNat (m + 1))
  | .negSucc m => k (.negSucc m)

theorem forceI_eq {α : Type} (x : Int) (k : Int → α) : forceI x k = k x := by
  cases x with
  | ofNat n => cases n <;> rfl
  | negSucc n => rfl

/-- One round, its numbers reckoned at once. -/
def stepF {α : Type} (s : R8) (k x : Int) (go : R8 → α) : α := forceI (tOne s k x) fun t => forceI ((t + tTwo s) % 4294967296) fun a => forceI ((s.d + t) % 4294967296) fun e => go ⟨a, s.a, s.b, s.c, e, s.e, s.f, s.g⟩

theorem stepF_eq {α : Type} (s : R8) (k x : Int) (go : R8 → α) : stepF s k x go = go (stepR s k x) := by
  simp only [stepF, forceI_eq]; rfl

def roundsF {α : Type} : List (Int × Int) → R8 → (R8 → α) → α
  | [], s, go => go s
  | (k, x) :: r, s, go => stepF s k x fun s' => roundsF r s' go

theorem rounds_succ_front (ks ws : List Int) : ∀ (n : Nat) (k x : Int) (s : R8), rounds (k :: ks) (x :: ws) (n + 1) s = rounds ks ws n (stepR s k x)
  | 0, _, _, _ => rfl
  | n + 1, k, x, s => by
    rw [rounds, rounds_succ_front ks ws n k x s, rounds]
    rfl

theorem roundsF_eq {α : Type} (go : R8 → α) : ∀ (ks ws : List Int) (s : R8), ks.length = ws.length → roundsF (ks.zip ws) s go = go (rounds ks ws ks.length s)
  | [], [], _, _ => rfl
  | k :: ks, x :: ws, s, h => by
    simp only [List.zip_cons_cons, roundsF, stepF_eq, List.length_cons]
    rw [roundsF_eq go ks ws (stepR s k x) (by simpa using h), rounds_succ_front]

/-- The words, the newest one first, each reckoned at once. -/
def extF {α : Type} : Nat → List Int → (List Int → α) → α
  | 0, r, go => go r
  | k + 1, r, go => forceI ((r.getD 15 0 + ssig0 (r.getD 14 0) + r.getD 6 0 + ssig1 (r.getD 1 0)) % 4294967296) fun x => extF k (x :: r) go

theorem wadd_reverse (r : List Int) (h : 16 ≤ r.length) : wadd r.reverse = ((r.getD 15 0 + ssig0 (r.getD 14 0) + r.getD 6 0 + ssig1 (r.getD 1 0)) % 4294967296 :: r).reverse := by
  have g : ∀ i, i < r.length → r.reverse.getD (r.length - 1 - i) 0 = r.getD i 0 := fun i hi => by
    rw [List.getD_eq_getElem?_getD, List.getD_eq_getElem?_getD, List.getElem?_reverse (by omega)]
    congr 2; omega
  unfold wadd wnext
  rw [List.length_reverse, List.reverse_cons, ← g 15 (by omega), ← g 14 (by omega), ← g 6 (by omega), ← g 1 (by omega)]
  rfl

theorem ext_add (l : List Int) : ∀ k, ext (k + 1) l = ext k (wadd l)
  | 0 => rfl
  | k + 1 => by rw [ext, ext_add l k]; rfl

theorem extF_eq {α : Type} (go : List Int → α) : ∀ (k : Nat) (r : List Int), 16 ≤ r.length → extF k r go = go (ext k r.reverse).reverse
  | 0, r, _ => by simp [extF, ext]
  | k + 1, r, h => by
    rw [extF, forceI_eq, extF_eq go k _ (by simp; omega), ext_add, wadd_reverse r h]

/-- The words behind one more block, reckoned at once. -/
def compF {α : Type} (s : R8) (blk : List UInt8) (go : R8 → α) : α := extF 48 (first16 blk).reverse fun r => roundsF (consts.zip r.reverse) s fun v => go (add8 s v)

theorem compF_eq {α : Type} (s : R8) (blk : List UInt8) (go : R8 → α) : compF s blk go = go (comp s blk) := by
  have h16 := first16_length blk
  unfold compF
  rw [extF_eq _ _ _ (by simp [h16]), List.reverse_reverse, List.reverse_reverse, roundsF_eq _ _ _ _ (by rw [ext_length, h16]; rfl)]
  rfl

attribute [local irreducible] compF comp

theorem absorb_zero (l : List UInt8) : absorb l 0 = init8 := by rw [absorb]
theorem absorb_succ (l : List UInt8) (n : Nat) : absorb l (n + 1) = comp (absorb l n) (blockOf l n) := by rw [absorb]

theorem sha_one (l : List UInt8) (h : (pad l).length / 64 = 0 + 1) : sha l = compF init8 (blockOf (pad l) 0) out8 := by
  rw [compF_eq]; unfold sha; rw [h, absorb_succ, absorb_zero]

theorem sha_two (l : List UInt8) (h : (pad l).length / 64 = 0 + 1 + 1) : sha l = compF init8 (blockOf (pad l) 0) (fun s => compF s (blockOf (pad l) (0 + 1)) out8) := by
  rw [compF_eq, compF_eq]; unfold sha; rw [h, absorb_succ, absorb_succ, absorb_zero]

end Go.Proofs.YtepipdikglabaaaDoor
