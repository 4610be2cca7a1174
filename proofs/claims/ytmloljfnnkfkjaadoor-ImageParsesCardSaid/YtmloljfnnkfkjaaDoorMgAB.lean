/- Units by definition: which are right; their bytes; how bytes are read. No condition but those that each states. -/
import Derived.Test.YtmloljfnnkfkjaaDoorMgAA
namespace Go.Proofs.YtmloljfnnkfkjaaDoor.Im
open In

structure Us where
  md : List UInt8
  nm : List UInt8
  ps : Int
deriving DecidableEq
structure Cp where
  up : Bool
  ix : Int
deriving DecidableEq
structure Vl where
  kind : Int
  n : Int
  s : List UInt8
deriving DecidableEq
structure Pr where
  nm : List UInt8
  ps : Int
  rg : Int
  code : List Ix
  ks : List Vl
  caps : List Cp
deriving DecidableEq
structure Un where
  nm : List UInt8
  ver : Int
  uses : List Us
  funs : Int
  prs : List Pr
deriving DecidableEq
def Un.zero : Un := ⟨[], 0, [], 0, []⟩

/-! which are right -/
def inB (n lo hi : Int) : Bool := decide (lo ≤ n) && decide (n ≤ hi)
def useB (u : Us) : Bool := Lx.isName u.md && Lx.isName u.nm && inB u.ps 0 8
def capB (c : Cp) : Bool := inB c.ix 0 255
def valB (v : Vl) : Bool := if v.kind = 0 then decide (v.n = 0) && decide (v.s = []) else if v.kind = 1 then decide (v.s = []) else if v.kind = 2 then decide (v.n = 0) && decide (v.s.length ≤ 1024) else false
/-- A list with at most so many elements, each of them right. -/
def allB {α : Type} (f : α → Bool) (m : Nat) (l : List α) : Bool := decide (l.length ≤ m) && l.all f
def prB (p : Pr) : Bool := inB p.ps 0 8 && inB p.rg (max 1 p.ps) 100 && allB valB 200 p.ks && allB rightB 8000 p.code
def funB (p : Pr) : Bool := Lx.isName p.nm && decide (p.caps.length = 0)
def innerB (p : Pr) : Bool := decide (p.nm = []) && allB capB 255 p.caps
def unB (u : Un) : Bool :=
  Lx.isName u.nm && inB u.ver 1 2147483647 && allB useB 16 u.uses && allB prB 64 u.prs && inB u.funs 0 (min 32 (u.prs.length : Int)) &&
    allB funB 32 (u.prs.take u.funs.toNat) && allB innerB 64 (u.prs.drop u.funs.toNat)

/-! their bytes -/
def le (k : Nat) (n : Int) : List UInt8 := Lib.leBytes k (u64 n)
def txt (s : List UInt8) : List UInt8 := Lib.leBytes 4 s.length ++ s
def encUse (u : Us) : List UInt8 := txt u.md ++ txt u.nm ++ le 1 u.ps
def encCap (c : Cp) : List UInt8 := le 1 (if c.up then 1 else 0) ++ le 1 c.ix
def encVal (v : Vl) : List UInt8 := if v.kind = 1 then le 1 v.kind ++ le 8 v.n else if v.kind = 2 then le 1 v.kind ++ txt v.s else le 1 v.kind
def encL {α : Type} (f : α → List UInt8) (l : List α) : List UInt8 := le 2 (l.length : Int) ++ l.flatMap f
def encPr (p : Pr) : List UInt8 := txt p.nm ++ le 1 p.ps ++ le 1 p.rg ++ encL encCap p.caps ++ encL encVal p.ks ++ encL buildL p.code
def magic : List UInt8 := [67, 72, 82, 89]
def encUn (u : Un) : List UInt8 := magic ++ txt u.nm ++ le 4 u.ver ++ encL encUse u.uses ++ le 1 u.funs ++ encL encPr u.prs
/-- What Build answers. -/
def buildU (u : Un) : List UInt8 × Int := if unB u then (encUn u, 0) else ([], 4)

/-! how they are read: none where the bytes end too early -/
abbrev Rd (α : Type) := List UInt8 → Option (α × List UInt8)
def Rd.bind {α β : Type} (r : Rd α) (f : α → Rd β) : Rd β := fun l => match r l with
  | none => none
  | some (x, t) => f x t
def Rd.ret {α : Type} (x : α) : Rd α := fun l => some (x, l)
def rdN (k : Nat) : Rd Int := fun l => if l.length < k then none else some (getI (l.take k), l.drop k)
def rdT : Rd (List UInt8) := fun l => if l.length < 4 then none else
  if l.length < 4 + Lib.leNat (l.take 4) then none else some ((l.drop 4).take (Lib.leNat (l.take 4)), l.drop (4 + Lib.leNat (l.take 4)))
/-- So many, one behind the other. -/
def rdM {α : Type} (r : Rd α) : Nat → Rd (List α)
  | 0 => Rd.ret []
  | n + 1 => r.bind fun x => (rdM r n).bind fun xs => Rd.ret (x :: xs)
def rdL {α : Type} (r : Rd α) : Rd (List α) := (rdN 2).bind fun n => rdM r n.toNat
def rdI (g : Ix → Ix) : Rd Ix := fun l => if l.length < 4 then none else some (g (readL l), l.drop 4)
def rdUse : Rd Us := rdT.bind fun a => rdT.bind fun b => (rdN 1).bind fun c => Rd.ret ⟨a, b, c⟩
def rdCap : Rd Cp := (rdN 1).bind fun a => (rdN 1).bind fun b => Rd.ret ⟨decide (a = 1), b⟩
def rdVal : Rd Vl := (rdN 1).bind fun k => if k = 1 then (rdN 8).bind fun n => Rd.ret ⟨k, n, []⟩ else if k = 2 then rdT.bind fun s => Rd.ret ⟨k, 0, s⟩ else Rd.ret ⟨k, 0, []⟩
def rdPr (g : Ix → Ix) : Rd Pr := rdT.bind fun a => (rdN 1).bind fun b => (rdN 1).bind fun c => (rdL rdCap).bind fun d => (rdL rdVal).bind fun e => (rdL (rdI g)).bind fun f => Rd.ret ⟨a, b, c, f, e, d⟩
def rdUn (g : Ix → Ix) : Rd Un := (rdN 4).bind fun _ => rdT.bind fun a => (rdN 4).bind fun b => (rdL rdUse).bind fun c => (rdN 1).bind fun d => (rdL (rdPr g)).bind fun e => Rd.ret ⟨a, b, c, d, e⟩
/-- What Parse answers. -/
def parseU (g : Ix → Ix) (s : List UInt8) : Un × Int := match rdUn g s with
  | none => (Un.zero, 2)
  | some (u, _) => if unB u = true ∧ encUn u = s then (u, 0) else (Un.zero, 4)
/-- What the program reads of an instruction: none that isn't right. -/
def fixI (x : Ix) : Ix := if rightB x then x else ⟨0, 0, 0, 0⟩

/-! what was read stays so, whatever stands behind -/
def Ext {α : Type} (r : Rd α) : Prop := ∀ l x t, r l = some (x, t) → ∀ z, r (l ++ z) = some (x, t ++ z)
theorem bind_some {α β : Type} {r : Rd α} {f : α → Rd β} {l : List UInt8} {y : β} {t : List UInt8} (h : Rd.bind r f l = some (y, t)) : ∃ x t1, r l = some (x, t1) ∧ f x t1 = some (y, t) := by
  unfold Rd.bind at h
  cases hr : r l with
  | none => rw [hr] at h; cases h
  | some p => rw [hr] at h; exact ⟨p.1, p.2, rfl, h⟩
theorem bind_of {α β : Type} {r : Rd α} {f : α → Rd β} {l : List UInt8} {x : α} {t1 : List UInt8} (h : r l = some (x, t1)) : Rd.bind r f l = f x t1 := by
  unfold Rd.bind; rw [h]
theorem bind_none {α β : Type} {r : Rd α} {f : α → Rd β} {l : List UInt8} (h : r l = none) : Rd.bind r f l = none := by
  unfold Rd.bind; rw [h]
theorem Ext.bind {α β : Type} {r : Rd α} {f : α → Rd β} (hr : Ext r) (hf : ∀ x, Ext (f x)) : Ext (Rd.bind r f) := by
  intro l y t h z
  obtain ⟨x, t1, h1, h2⟩ := bind_some h
  rw [bind_of (hr l x t1 h1 z)]
  exact hf x t1 y t h2 z
theorem Ext.ret {α : Type} (x : α) : Ext (Rd.ret x) := by
  intro l y t h z
  simp only [Rd.ret, Option.some.injEq, Prod.mk.injEq] at h ⊢
  exact ⟨h.1, by rw [h.2]⟩
theorem ext_rdN (k : Nat) : Ext (rdN k) := by
  intro l x t h z
  unfold rdN at h ⊢
  split at h
  · cases h
  · rename_i hl
    simp only [Option.some.injEq, Prod.mk.injEq] at h
    rw [if_neg (by rw [List.length_append]; omega), List.take_append_of_le_length (by omega), List.drop_append_of_le_length (by omega), h.1, h.2]
theorem ext_rdT : Ext rdT := by
  intro l x t h z
  unfold rdT at h ⊢
  split at h
  · cases h
  · rename_i hl
    split at h
    · cases h
    · rename_i hl2
      simp only [Option.some.injEq, Prod.mk.injEq] at h
      rw [if_neg (by rw [List.length_append]; omega), List.take_append_of_le_length (show 4 ≤ l.length by omega), if_neg (by rw [List.length_append]; omega), List.drop_append_of_le_length (show 4 ≤ l.length by omega), List.drop_append_of_le_length (show 4 + Lib.leNat (l.take 4) ≤ l.length by omega),
        List.take_append_of_le_length (by rw [List.length_drop]; omega), h.1, h.2]
theorem ext_rdI (g : Ix → Ix) : Ext (rdI g) := by
  intro l x t h z
  unfold rdI at h ⊢
  split at h
  · cases h
  · rename_i hl
    simp only [Option.some.injEq, Prod.mk.injEq] at h
    rw [if_neg (by rw [List.length_append]; omega), List.drop_append_of_le_length (by omega), h.2, ← h.1]
    match l, hl with
    | a :: b :: c :: d :: r, _ => rfl
    | [], hl => simp at hl
    | [_], hl => simp at hl
    | [_, _], hl => simp at hl
    | [_, _, _], hl => simp at hl
theorem ext_rdM {α : Type} {r : Rd α} (h : Ext r) : ∀ n, Ext (rdM r n)
  | 0 => Ext.ret _
  | n + 1 => h.bind fun _ => (ext_rdM h n).bind fun _ => Ext.ret _
theorem ext_rdL {α : Type} {r : Rd α} (h : Ext r) : Ext (rdL r) := (ext_rdN 2).bind fun _ => ext_rdM h _
theorem ext_rdUse : Ext rdUse := ext_rdT.bind fun _ => ext_rdT.bind fun _ => (ext_rdN 1).bind fun _ => Ext.ret _
theorem ext_rdCap : Ext rdCap := (ext_rdN 1).bind fun _ => (ext_rdN 1).bind fun _ => Ext.ret _
theorem ext_rdVal : Ext rdVal := (ext_rdN 1).bind fun k => by
  by_cases h1 : k = 1
  · rw [if_pos h1]; exact (ext_rdN 8).bind fun _ => Ext.ret _
  · rw [if_neg h1]
    by_cases h2 : k = 2
    · rw [if_pos h2]; exact ext_rdT.bind fun _ => Ext.ret _
    · rw [if_neg h2]; exact Ext.ret _
theorem ext_rdPr (g : Ix → Ix) : Ext (rdPr g) :=
  ext_rdT.bind fun _ => (ext_rdN 1).bind fun _ => (ext_rdN 1).bind fun _ => (ext_rdL ext_rdCap).bind fun _ => (ext_rdL ext_rdVal).bind fun _ => (ext_rdL (ext_rdI g)).bind fun _ => Ext.ret _
theorem ext_rdUn (g : Ix → Ix) : Ext (rdUn g) :=
  (ext_rdN 4).bind fun _ => ext_rdT.bind fun _ => (ext_rdN 4).bind fun _ => (ext_rdL ext_rdUse).bind fun _ => (ext_rdN 1).bind fun _ => (ext_rdL (ext_rdPr g)).bind fun _ => Ext.ret _

/-! there and back -/
/-- A reader reads what was laid down of x. -/
def Back {α : Type} (r : Rd α) (f : α → List UInt8) (x : α) : Prop := ∀ z, r (f x ++ z) = some (x, z)
theorem le_length (k : Nat) (n : Int) : (le k n).length = k := Lib.leBytes_length k _
theorem back_N {k : Nat} {n : Int} (h : getI (le k n) = n) (z : List UInt8) : rdN k (le k n ++ z) = some (n, z) := by
  unfold rdN
  have hl := le_length k n
  rw [if_neg (by rw [List.length_append]; omega), List.take_append_of_le_length (by omega), List.drop_append_of_le_length (by omega), List.take_of_length_le (by omega), List.drop_of_length_le (by omega), h]
  rfl
theorem leNat_leBytes : ∀ (k u : Nat), Lib.leNat (Lib.leBytes k u) = u % 256 ^ k
  | 0, u => by simp [Lib.leBytes, Lib.leNat, Nat.mod_one]
  | k + 1, u => by
    rw [Lib.leBytes, Lib.leNat, leNat_leBytes k (u / 256), Nat.pow_succ, Nat.mul_comm (256 ^ k) 256, Nat.mod_mul]
    have : (u % 256).toUInt8.toNat = u % 256 := by
      rw [Nat.toUInt8_eq, UInt8.toNat_ofNat']
      omega
    omega
theorem getI_small {k : Nat} {n : Int} (hk : k ≤ 7) (h0 : 0 ≤ n) (h1 : n < 256 ^ k) : getI (le k n) = n := by
  unfold le getI
  have hu : (u64 n : Int) = n := by
    rw [u64_cast]
    have h7 : ((256 ^ k : Nat) : Int) ≤ ((256 ^ 7 : Nat) : Int) := Int.ofNat_le.2 (Nat.pow_le_pow_right (n := 256) (by decide) hk)
    rw [Int.natCast_pow] at h7
    have h8 : ((256 ^ 7 : Nat) : Int) = 72057594037927936 := by decide
    have h9 : ((256 : Nat) : Int) = 256 := rfl
    rw [h8, h9] at h7
    exact wraps_u64 n h0 (by omega)
  have hu2 : u64 n < 256 ^ k := by
    have : ((u64 n : Nat) : Int) < ((256 ^ k : Nat) : Int) := by rw [hu, Int.natCast_pow]; exact h1
    exact Int.ofNat_lt.1 this
  rw [leNat_leBytes, Nat.mod_eq_of_lt hu2]
  have h7 : (256 : Nat) ^ k ≤ 256 ^ 7 := Nat.pow_le_pow_right (by decide) hk
  unfold RowKit.wrap64
  omega
theorem getI_eight {n : Int} (h0 : -9223372036854775808 ≤ n) (h1 : n ≤ 9223372036854775807) : getI (le 8 n) = n := by
  unfold le getI
  rw [leNat_leBytes, Nat.mod_eq_of_lt (by have := u64_lt n; omega)]
  have hu := u64_cast n
  rw [IntKind.wrap_u64] at hu
  unfold RowKit.wrap64
  omega
theorem back_T {s : List UInt8} (h : s.length < 4294967296) (z : List UInt8) : rdT (txt s ++ z) = some (s, z) := by
  unfold rdT txt
  have hl : (Lib.leBytes 4 s.length).length = 4 := Lib.leBytes_length 4 _
  have hn : Lib.leNat ((Lib.leBytes 4 s.length ++ s ++ z).take 4) = s.length := by
    rw [List.append_assoc, List.take_append_of_le_length (by omega), List.take_of_length_le (by omega), leNat_leBytes, Nat.mod_eq_of_lt (by omega)]
  have hd : (Lib.leBytes 4 s.length ++ s ++ z).drop 4 = s ++ z := by
    rw [List.append_assoc, List.drop_append_of_le_length (by omega), List.drop_of_length_le (by omega)]; rfl
  rw [if_neg (by simp only [List.length_append]; omega), hn, if_neg (by simp only [List.length_append]; omega), ← List.drop_drop, hd, List.take_append_of_le_length (by omega), List.take_of_length_le (by omega), List.drop_append_of_le_length (by omega), List.drop_of_length_le (by omega)]
  rfl
theorem back_I {g : Ix → Ix} {x : Ix} (hg : g x = x) (h : rightB x = true) : Back (rdI g) buildL x := by
  intro z
  unfold rdI
  have hl : (buildL x).length = 4 := rfl
  have hr : readL (buildL x ++ z) = readL (buildL x) := rfl
  rw [if_neg (by rw [List.length_append]; omega), hr, read_build h, hg]
  rfl
theorem back_M {α : Type} {r : Rd α} {f : α → List UInt8} : ∀ (l : List α), (∀ x ∈ l, Back r f x) → ∀ z, rdM r l.length (l.flatMap f ++ z) = some (l, z)
  | [], _, z => rfl
  | x :: l, h, z => by
    rw [List.flatMap_cons, List.append_assoc, List.length_cons]
    show Rd.bind r _ _ = _
    rw [bind_of (h x (List.mem_cons_self ..) _), bind_of (back_M l (fun y hy => h y (List.mem_cons_of_mem _ hy)) z)]
    rfl
theorem back_L {α : Type} {r : Rd α} {f : α → List UInt8} {l : List α} (hl : l.length < 65536) (h : ∀ x ∈ l, Back r f x) : Back (rdL r) (encL f) l := by
  intro z
  unfold rdL encL
  rw [List.append_assoc, bind_of (back_N (getI_small (by decide) (by omega) (by omega)) _), Int.toNat_natCast]
  exact back_M l h z
theorem inB_iff {n lo hi : Int} : inB n lo hi = true ↔ lo ≤ n ∧ n ≤ hi := by unfold inB; simp
theorem allB_iff {α : Type} {f : α → Bool} {m : Nat} {l : List α} : allB f m l = true ↔ l.length ≤ m ∧ ∀ x ∈ l, f x = true := by unfold allB; simp
theorem name_len {s : List UInt8} (h : Lx.isName s = true) : s.length ≤ 16 := by
  unfold Lx.isName at h
  simp only [Bool.and_eq_true, decide_eq_true_eq] at h
  exact h.1.1.1.2
theorem back_use {x : Us} (h : useB x = true) : Back rdUse encUse x := by
  intro z
  unfold useB at h
  simp only [Bool.and_eq_true, inB_iff] at h
  obtain ⟨⟨h1, h2⟩, h3⟩ := h
  have l1 := name_len h1
  have l2 := name_len h2
  unfold rdUse encUse
  rw [List.append_assoc, List.append_assoc, bind_of (back_T (by omega) _), bind_of (back_T (by omega) _), bind_of (back_N (getI_small (by decide) h3.1 (by omega)) _)]
  rfl
theorem back_cap {x : Cp} (h : capB x = true) : Back rdCap encCap x := by
  intro z
  unfold capB at h
  rw [inB_iff] at h
  unfold rdCap encCap
  rw [List.append_assoc, bind_of (back_N (getI_small (by decide) (by split <;> omega) (by split <;> omega)) _), bind_of (back_N (getI_small (by decide) h.1 (by omega)) _)]
  obtain ⟨up, ix⟩ := x
  cases up <;> rfl
/-- A number that an int can be. -/
def Fits (v : Vl) : Prop := -9223372036854775808 ≤ v.n ∧ v.n ≤ 9223372036854775807
theorem back_val {x : Vl} (h : valB x = true) (hf : Fits x) : Back rdVal encVal x := by
  intro z
  obtain ⟨k, n, s⟩ := x
  unfold valB at h
  unfold rdVal encVal
  simp only at h ⊢
  by_cases h0 : k = 0
  · subst h0
    simp only [if_true, Bool.and_eq_true, decide_eq_true_eq] at h
    obtain ⟨rfl, rfl⟩ := h
    rw [if_neg (by decide), if_neg (by decide), bind_of (back_N (getI_small (by decide) (by decide) (by decide)) _)]
    rfl
  · rw [if_neg h0] at h
    by_cases h1 : k = 1
    · subst h1
      simp only [if_true, decide_eq_true_eq] at h
      subst h
      rw [if_pos rfl, List.append_assoc, bind_of (back_N (getI_small (by decide) (by decide) (by decide)) _), if_pos rfl, bind_of (back_N (getI_eight hf.1 hf.2) _)]
      rfl
    · rw [if_neg h1] at h ⊢
      by_cases h2 : k = 2
      · subst h2
        simp only [if_true, Bool.and_eq_true, decide_eq_true_eq] at h
        obtain ⟨rfl, hs⟩ := h
        rw [if_pos rfl, List.append_assoc, bind_of (back_N (getI_small (by decide) (by decide) (by decide)) _), if_neg (by decide), if_pos rfl, bind_of (back_T (by omega) _)]
        rfl
      · rw [if_neg h2] at h; cases h
def FitsP (p : Pr) : Prop := ∀ v ∈ p.ks, Fits v
def FitsU (u : Un) : Prop := ∀ p ∈ u.prs, FitsP p
theorem back_pr {g : Ix → Ix} (hg : ∀ x, rightB x = true → g x = x) {x : Pr} (h : prB x = true) (hn : x.nm.length ≤ 16) (hc : x.caps.length ≤ 255 ∧ ∀ c ∈ x.caps, capB c = true) (hf : FitsP x) : Back (rdPr g) encPr x := by
  intro z
  unfold prB at h
  simp only [Bool.and_eq_true, inB_iff, allB_iff] at h
  obtain ⟨⟨⟨h1, h2⟩, h3⟩, h4⟩ := h
  have hm : 0 ≤ x.rg := by have := Int.le_max_left 1 x.ps; omega
  unfold rdPr encPr
  simp only [List.append_assoc]
  rw [bind_of (back_T (by omega) _), bind_of (back_N (getI_small (by decide) h1.1 (by omega)) _), bind_of (back_N (getI_small (by decide) hm (by omega)) _),
    bind_of (back_L (by omega) (fun c hx => back_cap (hc.2 c hx)) _), bind_of (back_L (by omega) (fun v hv => back_val (h3.2 v hv) (hf v hv)) _), bind_of (back_L (by omega) (fun i hi => back_I (hg i (h4.2 i hi)) (h4.2 i hi)) _)]
  rfl
theorem un_parts {u : Un} (h : unB u = true) : Lx.isName u.nm = true ∧ (1 ≤ u.ver ∧ u.ver ≤ 2147483647) ∧ (u.uses.length ≤ 16 ∧ ∀ x ∈ u.uses, useB x = true) ∧ (u.prs.length ≤ 64 ∧ ∀ p ∈ u.prs, prB p = true ∧ p.nm.length ≤ 16 ∧ p.caps.length ≤ 255 ∧ ∀ c ∈ p.caps, capB c = true) ∧ (0 ≤ u.funs ∧ u.funs ≤ 32 ∧ u.funs ≤ (u.prs.length : Int)) := by
  unfold unB at h
  simp only [Bool.and_eq_true, inB_iff, allB_iff] at h
  obtain ⟨⟨⟨⟨⟨⟨h1, h2⟩, h3⟩, h4⟩, h5⟩, h6⟩, h7⟩ := h
  refine ⟨h1, h2, h3, ⟨h4.1, fun p hp => ⟨h4.2 p hp, ?_⟩⟩, h5.1, by have := Int.min_le_left 32 (u.prs.length : Int); omega, by have := Int.min_le_right 32 (u.prs.length : Int); omega⟩
  rw [← List.take_append_drop u.funs.toNat u.prs] at hp
  rcases List.mem_append.1 hp with hp | hp
  · have := h6.2 p hp
    unfold funB at this
    simp only [Bool.and_eq_true, decide_eq_true_eq] at this
    have he := List.eq_nil_of_length_eq_zero this.2
    refine ⟨name_len this.1, by omega, ?_⟩
    rw [he]; intro c hc; cases hc
  · have := h7.2 p hp
    unfold innerB at this
    simp only [Bool.and_eq_true, decide_eq_true_eq, allB_iff] at this
    refine ⟨by rw [this.1]; decide, this.2.1, this.2.2⟩
theorem back_un {g : Ix → Ix} (hg : ∀ x, rightB x = true → g x = x) {u : Un} (h : unB u = true) (hf : FitsU u) : Back (rdUn g) encUn u := by
  intro z
  obtain ⟨h1, h2, h3, h4, h5⟩ := un_parts h
  have l1 := name_len h1
  have hm : ∀ z, rdN 4 (magic ++ z) = some (getI magic, z) := fun z => by
    unfold rdN
    rw [if_neg (by rw [List.length_append]; show ¬ 4 + _ < 4; omega)]
    rfl
  unfold rdUn encUn
  simp only [List.append_assoc]
  rw [bind_of (hm _), bind_of (back_T (by omega) _), bind_of (back_N (getI_small (by decide) (by omega) (by omega)) _), bind_of (back_L (by omega) (fun x hx => back_use (h3.2 x hx)) _),
    bind_of (back_N (getI_small (by decide) h5.1 (by omega)) _), bind_of (back_L (by omega) (fun p hp => back_pr hg (h4.2 p hp).1 (h4.2 p hp).2.1 (h4.2 p hp).2.2 (hf p hp)) _)]
  rfl

/-! what the laws ask -/
theorem parse_back {g : Ix → Ix} (hg : ∀ x, rightB x = true → g x = x) {u : Un} (h : unB u = true) (hf : FitsU u) : parseU g (encUn u) = (u, 0) := by
  unfold parseU
  have := back_un hg h hf []
  rw [List.append_nil] at this
  rw [this]
  exact if_pos ⟨h, rfl⟩
theorem parse_more {g : Ix → Ix} (hg : ∀ x, rightB x = true → g x = x) {u : Un} (h : unB u = true) (hf : FitsU u) {z : List UInt8} (hz : z ≠ []) : parseU g (encUn u ++ z) = (Un.zero, 4) := by
  unfold parseU
  rw [back_un hg h hf z]
  refine if_neg fun k => hz ?_
  have := congrArg List.length k.2
  rw [List.length_append] at this
  exact List.eq_nil_of_length_eq_zero (by omega)
theorem parse_cut {g : Ix → Ix} (hg : ∀ x, rightB x = true → g x = x) {u : Un} (h : unB u = true) (hf : FitsU u) {k : Nat} (hk : k < (encUn u).length) : parseU g ((encUn u).take k) = (Un.zero, 2) := by
  unfold parseU
  cases hr : rdUn g ((encUn u).take k) with
  | none => rfl
  | some p =>
    exfalso
    have h1 := ext_rdUn g _ p.1 p.2 hr ((encUn u).drop k)
    rw [List.take_append_drop] at h1
    have h2 := back_un hg h hf []
    rw [List.append_nil, h1] at h2
    simp only [Option.some.injEq, Prod.mk.injEq] at h2
    have := congrArg List.length h2.2
    rw [List.length_append, List.length_drop, List.length_nil] at this
    omega
theorem fix_right {x : Ix} (h : rightB x = true) : fixI x = x := if_pos h

/-! the two readers of instructions end alike -/
def fixP (g : Ix → Ix) (p : Pr) : Pr := { p with code := p.code.map g }
def fixU (g : Ix → Ix) (u : Un) : Un := { u with prs := u.prs.map (fixP g) }
theorem map_M {α β : Type} {r : Rd α} {q : Rd β} {f : α → β} (h : ∀ l, q l = (r l).map fun p => (f p.1, p.2)) : ∀ n l, rdM q n l = (rdM r n l).map fun p => (p.1.map f, p.2)
  | 0, l => rfl
  | n + 1, l => by
    show Rd.bind q _ l = (Rd.bind r _ l).map _
    unfold Rd.bind
    rw [h l]
    cases r l with
    | none => rfl
    | some p =>
      simp only [Option.map_some]
      rw [map_M h n p.2]
      cases rdM r n p.2 <;> rfl
theorem map_L {α β : Type} {r : Rd α} {q : Rd β} {f : α → β} (h : ∀ l, q l = (r l).map fun p => (f p.1, p.2)) (l : List UInt8) : rdL q l = (rdL r l).map fun p => (p.1.map f, p.2) := by
  unfold rdL Rd.bind
  cases rdN 2 l with
  | none => rfl
  | some p => exact map_M h _ _
theorem map_I (g : Ix → Ix) (l : List UInt8) : rdI g l = (rdI id l).map fun p => (g p.1, p.2) := by
  unfold rdI
  by_cases h : l.length < 4
  · rw [if_pos h, if_pos h]; rfl
  · rw [if_neg h, if_neg h]; rfl
theorem map_P (g : Ix → Ix) (l : List UInt8) : rdPr g l = (rdPr id l).map fun p => (fixP g p.1, p.2) := by
  unfold rdPr Rd.bind
  cases rdT l with
  | none => rfl
  | some a =>
    simp only
    cases rdN 1 a.2 with
    | none => rfl
    | some b =>
      simp only
      cases rdN 1 b.2 with
      | none => rfl
      | some c =>
        simp only
        cases rdL rdCap c.2 with
        | none => rfl
        | some d =>
          simp only
          cases rdL rdVal d.2 with
          | none => rfl
          | some e =>
            simp only
            rw [map_L (map_I g)]
            cases rdL (rdI id) e.2 <;> rfl
theorem map_U (g : Ix → Ix) (l : List UInt8) : rdUn g l = (rdUn id l).map fun p => (fixU g p.1, p.2) := by
  unfold rdUn Rd.bind
  cases rdN 4 l with
  | none => rfl
  | some z =>
    simp only
    cases rdT z.2 with
    | none => rfl
    | some a =>
      simp only
      cases rdN 4 a.2 with
      | none => rfl
      | some b =>
        simp only
        cases rdL rdUse b.2 with
        | none => rfl
        | some c =>
          simp only
          cases rdN 1 c.2 with
          | none => rfl
          | some d =>
            simp only
            rw [map_L (map_P g)]
            cases rdL (rdPr id) d.2 <;> rfl
theorem fix_un {u : Un} (h : unB u = true) : fixU fixI u = u := by
  obtain ⟨-, -, -, h4, -⟩ := un_parts h
  obtain ⟨nm, ver, uses, funs, prs⟩ := u
  unfold fixU
  simp only [Un.mk.injEq, true_and]
  refine (List.map_congr_left fun p hp => ?_).trans (List.map_id _)
  show fixP fixI p = p
  obtain ⟨h5, -⟩ := h4.2 p hp
  unfold prB at h5
  simp only [Bool.and_eq_true, allB_iff] at h5
  obtain ⟨nm, ps, rg, code, ks, caps⟩ := p
  unfold fixP
  simp only [Pr.mk.injEq, true_and, and_true]
  exact (List.map_congr_left fun x hx => fix_right (h5.2.2 x hx)).trans (List.map_id _)

/-! what is read can be an int -/
def All {α : Type} (r : Rd α) (P : α → Prop) : Prop := ∀ l x t, r l = some (x, t) → P x
theorem all_bind {α β : Type} {r : Rd α} {f : α → Rd β} {P : β → Prop} (Q : α → Prop) (hr : All r Q) (hf : ∀ x, Q x → All (f x) P) : All (Rd.bind r f) P := by
  intro l y t h
  obtain ⟨x, t1, h1, h2⟩ := bind_some h
  exact hf x (hr l x t1 h1) t1 y t h2
theorem all_true {α : Type} (r : Rd α) : All r (fun _ => True) := fun _ _ _ _ => trivial
theorem all_ret {α : Type} {x : α} {P : α → Prop} (h : P x) : All (Rd.ret x) P := by
  intro l y t e
  simp only [Rd.ret, Option.some.injEq, Prod.mk.injEq] at e
  rw [← e.1]; exact h
theorem all_M {α : Type} {r : Rd α} {P : α → Prop} (h : All r P) : ∀ n, All (rdM r n) (fun l => ∀ x ∈ l, P x)
  | 0 => all_ret (fun _ h => by cases h)
  | n + 1 => all_bind P h fun x hx => all_bind _ (all_M h n) fun xs hxs => all_ret (fun y hy => by
      rcases List.mem_cons.1 hy with rfl | hy
      · exact hx
      · exact hxs y hy)
theorem all_L {α : Type} {r : Rd α} {P : α → Prop} (h : All r P) : All (rdL r) (fun l => ∀ x ∈ l, P x) := all_bind _ (all_true _) fun _ _ => all_M h _
theorem getI_fits (l : List UInt8) : -9223372036854775808 ≤ getI l ∧ getI l ≤ 9223372036854775807 := by unfold getI RowKit.wrap64; omega
theorem all_N (k : Nat) : All (rdN k) (fun n => -9223372036854775808 ≤ n ∧ n ≤ 9223372036854775807) := by
  intro l x t h
  unfold rdN at h
  split at h
  · cases h
  · simp only [Option.some.injEq, Prod.mk.injEq] at h
    rw [← h.1]; exact getI_fits _
theorem all_val : All rdVal Fits := all_bind _ (all_true _) fun k _ => by
  by_cases h1 : k = 1
  · rw [if_pos h1]; exact all_bind _ (all_N 8) fun n hn => all_ret hn
  · rw [if_neg h1]
    by_cases h2 : k = 2
    · rw [if_pos h2]; exact all_bind _ (all_true _) fun s _ => all_ret (by unfold Fits; simp)
    · rw [if_neg h2]; exact all_ret (by unfold Fits; simp)
theorem all_pr (g : Ix → Ix) : All (rdPr g) FitsP :=
  all_bind _ (all_true _) fun _ _ => all_bind _ (all_true _) fun _ _ => all_bind _ (all_true _) fun _ _ => all_bind _ (all_true _) fun _ _ => all_bind _ (all_L all_val) fun _ks hk => all_bind _ (all_true _) fun _ _ => all_ret hk
theorem all_un (g : Ix → Ix) : All (rdUn g) FitsU :=
  all_bind _ (all_true _) fun _ _ => all_bind _ (all_true _) fun _ _ => all_bind _ (all_true _) fun _ _ => all_bind _ (all_true _) fun _ _ => all_bind _ (all_true _) fun _ _ => all_bind _ (all_L (all_pr g)) fun _ h => all_ret h

theorem parse_same (s : List UInt8) : parseU fixI s = parseU id s := by
  unfold parseU
  rw [map_U fixI s]
  cases hr : rdUn id s with
  | none => rfl
  | some p =>
    obtain ⟨u, t⟩ := p
    simp only [Option.map_some]
    by_cases h : unB u = true ∧ encUn u = s
    · rw [fix_un h.1]
    · rw [if_neg h, if_neg]
      rintro ⟨h1, h2⟩
      have hf : FitsU (fixU fixI u) := all_un fixI s (fixU fixI u) t (by rw [map_U fixI s, hr]; rfl)
      have hb := back_un (g := id) (fun _ _ => rfl) h1 hf []
      rw [List.append_nil, h2, hr] at hb
      simp only [Option.some.injEq, Prod.mk.injEq] at hb
      rw [← hb.1] at h1 h2
      exact h ⟨h1, h2⟩

/-! reading on, over places: how a call of a reader leaves things -/
/-- From place k of s, short (b) or not, a reading of r that answered x came to k', short (b'). -/
structure Out {α : Type} (r : Rd α) (s : List UInt8) (k : Nat) (b : Bool) (x : α) (k' : Nat) (b' : Bool) : Prop where
  le : k' ≤ s.length
  go : b = false → (r (s.drop k) = some (x, s.drop k') ∧ b' = false) ∨ (r (s.drop k) = none ∧ b' = true)
  stay : b = true → b' = true
theorem Out.bind {α β : Type} {r : Rd α} {f : α → Rd β} {s : List UInt8} {k k1 k2 : Nat} {b b1 b2 : Bool} {x : α} {y : β} (h1 : Out r s k b x k1 b1) (h2 : Out (f x) s k1 b1 y k2 b2) : Out (Rd.bind r f) s k b y k2 b2 := by
  refine ⟨h2.le, fun hb => ?_, fun hb => h2.stay (h1.stay hb)⟩
  rcases h1.go hb with ⟨e1, hb1⟩ | ⟨e1, hb1⟩
  · rw [bind_of e1]; exact h2.go hb1
  · exact .inr ⟨bind_none e1, h2.stay hb1⟩
theorem Out.ret {α : Type} {s : List UInt8} {k : Nat} {b : Bool} (x : α) (hk : k ≤ s.length) : Out (Rd.ret x) s k b x k b :=
  ⟨hk, fun hb => .inl ⟨rfl, hb⟩, fun hb => hb⟩
theorem Out.bindRet {α β : Type} {r : Rd α} {f : α → β} {s : List UInt8} {k k1 : Nat} {b b1 : Bool} {x : α} (h1 : Out r s k b x k1 b1) : Out (Rd.bind r fun x => Rd.ret (f x)) s k b (f x) k1 b1 := h1.bind (Out.ret _ h1.le)

end Go.Proofs.YtmloljfnnkfkjaaDoor.Im

