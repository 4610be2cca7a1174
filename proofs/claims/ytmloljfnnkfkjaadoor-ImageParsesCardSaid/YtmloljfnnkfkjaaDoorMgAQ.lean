/- The program's reader: the walks of its closures: their contracts. The document's reader: the walks of its num and text: their contracts. No condition but those that each states. -/
import Derived.Test.YtmloljfnnkfkjaaDoorMgAP
namespace Go.Proofs.YtmloljfnnkfkjaaDoor.Im
open Go.RowKit Dk In

/-- The blocks of the program's reader: the text, the place, whether it was too short, the function that moves on. -/
structure Rq where
  bs : Nat
  ba : Nat
  bh : Nat
  bv : Nat
abbrev ptr (b : Nat) : Value := .pointer (some ⟨b, 0, none⟩)
structure RD (s : List UInt8) (q : Rq) (N : Nat) (W : World) (k : Nat) (b : Bool) : Prop where
  cs : W.cell? ⟨q.bs, 0, none⟩ = some (.string (strOf s))
  ca : W.cell? ⟨q.ba, 0, none⟩ = some (.int .i64 (k : Int))
  ch : W.cell? ⟨q.bh, 0, none⟩ = some (.bool b)
  cv : W.cell? ⟨q.bv, 0, none⟩ = some (.func (.func 69) #[] #[ptr q.bh, ptr q.ba])
  fa : W.frozen? ⟨q.ba, 0, none⟩ = false
  fh : W.frozen? ⟨q.bh, 0, none⟩ = false
  apart : q.bs ≠ q.ba ∧ q.bs ≠ q.bh ∧ q.bv ≠ q.ba ∧ q.bv ≠ q.bh ∧ q.ba ≠ q.bh
  low : q.bs < N ∧ q.ba < N ∧ q.bh < N ∧ q.bv < N
  size : N ≤ W.heap.size
  len : s.length ≤ 1099511627776
def pRdr (s : List UInt8) (q : Rq) (N : Nat) (h : q.ba < N ∧ q.bh < N) : Rdr where
  St := RD s q N
  F := fun i => i = q.ba ∨ i = q.bh
  N := N
  keep := fun W W' k b hr hs hb => by
    obtain ⟨l1, l2, l3, l4⟩ := hr.low
    have e : ∀ i, i < N → W'.cell? ⟨i, 0, none⟩ = W.cell? ⟨i, 0, none⟩ := fun i hi => World.cell?_of_block (a := ⟨i, 0, none⟩) (hb i hi)
    have f : ∀ i, i < N → W'.frozen? ⟨i, 0, none⟩ = W.frozen? ⟨i, 0, none⟩ := fun i hi => World.frozen?_of_block (a := ⟨i, 0, none⟩) (hb i hi)
    exact ⟨(e _ l1).trans hr.cs, (e _ l2).trans hr.ca, (e _ l3).trans hr.ch, (e _ l4).trans hr.cv, (f _ l2).trans hr.fa, (f _ l3).trans hr.fh, hr.apart, hr.low, Nat.le_trans hr.size hs, hr.len⟩
  lt := fun i hi => by rcases hi with rfl | rfl; exact h.1; exact h.2
  size := fun W k b hr => hr.size

section
variable {s : List UInt8} {q : Rq} {N : Nat} {W : World} {k : Nat} {b : Bool}
theorem RD.setA (h : RD s q N W k b) (k' : Nat) : RD s q N (W.setCell ⟨q.ba, 0, none⟩ (.int .i64 (k' : Int))) k' b := by
  obtain ⟨a1, a2, a3, a4, a5⟩ := h.apart
  have o : ∀ i, i ≠ q.ba → (W.setCell ⟨q.ba, 0, none⟩ (.int .i64 (k' : Int))).cell? ⟨i, 0, none⟩ = W.cell? ⟨i, 0, none⟩ := fun i hi => World.cell?_setCell_other _ _ _ _ (by intro e; simp at e; first | done | exact hi e | exact hi e.symm)
  exact ⟨(o _ a1).trans h.cs, World.cell?_setCell_same _ _ _ h.ca, (o _ (Ne.symm a5)).trans h.ch, (o _ a3).trans h.cv, by simpa using h.fa, by simpa using h.fh, h.apart, h.low, by simpa using h.size, h.len⟩
theorem RD.setH (h : RD s q N W k b) : RD s q N (W.setCell ⟨q.bh, 0, none⟩ (.bool true)) k true := by
  obtain ⟨a1, a2, a3, a4, a5⟩ := h.apart
  have o : ∀ i, i ≠ q.bh → (W.setCell ⟨q.bh, 0, none⟩ (.bool true)).cell? ⟨i, 0, none⟩ = W.cell? ⟨i, 0, none⟩ := fun i hi => World.cell?_setCell_other _ _ _ _ (by intro e; simp at e; first | done | exact hi e | exact hi e.symm)
  exact ⟨(o _ a2).trans h.cs, (o _ a5).trans h.ca, World.cell?_setCell_same _ _ _ h.ch, (o _ a4).trans h.cv, by simpa using h.fa, by simpa using h.fh, h.apart, h.low, by simpa using h.size, h.len⟩
end

def rF (q : Rq) : Nat → Prop := fun i => i = q.ba ∨ i = q.bh
set_option maxHeartbeats 1000000 in
set_option maxRecDepth 100000 in
theorem adv_ok {s : List UInt8} {q : Rq} {N : Nat} {W : World} {k : Nat} {b : Bool} (h : RD s q N W k b) (k' : Nat) (er : Int) (he : er ≠ 2) :
    Calls Tryd.prog 69 #[.int .i64 (k' : Int), .int .i64 er, ptr q.bh, ptr q.ba] W fun e W' => e = .returned (.tuple #[]) ∧ RD s q N W' k' b ∧ Only (rF q) W W' := by
  have z0 : (er == 2) = false := by simp [he]
  have ca := h.ca
  have fa := h.fa
  have HF : Hid (RD s q N (W.setCell ⟨q.ba, 0, none⟩ (.int .i64 (k' : Int))) k' b) := Lib.hid (h.setA k')
  have HO : Hid (Only (rF q) W (W.setCell ⟨q.ba, 0, none⟩ (.int .i64 (k' : Int)))) := Lib.hid ((Only.refl _ _).setCell _ (.inl rfl) _)
  clear h he
  go_enter Tryd.func69, Tryd.ntmps69
  go_wp2
  go_end0
  exact ⟨rfl, HF.out, HO.out⟩
set_option maxHeartbeats 1000000 in
set_option maxRecDepth 100000 in
theorem adv_no {s : List UInt8} {q : Rq} {N : Nat} {W : World} {k : Nat} {b : Bool} (h : RD s q N W k b) (x : Int) :
    Calls Tryd.prog 69 #[.int .i64 x, .int .i64 2, ptr q.bh, ptr q.ba] W fun e W' => e = .returned (.tuple #[]) ∧ RD s q N W' k true ∧ Only (rF q) W W' := by
  have ch := h.ch
  have fh := h.fh
  have HF : Hid (RD s q N (W.setCell ⟨q.bh, 0, none⟩ (.bool true)) k true) := Lib.hid h.setH
  have HO : Hid (Only (rF q) W (W.setCell ⟨q.bh, 0, none⟩ (.bool true))) := Lib.hid ((Only.refl _ _).setCell _ (.inr rfl) _)
  clear h
  go_enter Tryd.func69, Tryd.ntmps69
  go_wp2
  (try simp only [Exit.inBlock, Exit.then])
  refine bodyPost_ret (results_none rfl _ _ _) rfl ?_
  exact ⟨rfl, HF.out, HO.out⟩
theorem enters_adv : Enters 69 := fun a W => by kernel_rfl
theorem str_list (s : List UInt8) : (strOf s).data.toList = s := rfl

set_option maxHeartbeats 2000000 in
set_option maxRecDepth 100000 in
/-- A number, as the reader reads it. -/
theorem numR_any {s : List UInt8} {q : Rq} {N : Nat} (hN : q.ba < N ∧ q.bh < N) (K : Nat) (hK : wideB (K : Int) = true) (W : World) (k : Nat) (b : Bool) (hk : k ≤ s.length) (h : RD s q N W k b) :
    Calls Tryd.prog 70 #[.int .i64 (K : Int), ptr q.bs, ptr q.ba, ptr q.bv] W (RdAny (pRdr s q N hN) s (rdN K) intR W k b) := by
  have hcall := enters_adv
  unfold Enters at hcall
  have hlen := h.len
  have hsz := strOf_size s
  have cs := h.cs
  have ca := h.ca
  have cv := h.cv
  have hK8 : K ≤ 8 := by rcases wide_cases hK with e | e | e | e <;> omega
  by_cases hf : k + K ≤ s.length
  · have GE0 := get_ok (strOf s) (k : Int) (K : Int) W hK (by omega) (by omega) (by omega)
    rw [Int.toNat_natCast, Int.toNat_natCast, str_list] at GE0
    have GE := Lib.hid GE0
    have AD := Lib.hid (adv_ok h (k + K) 0 (by decide))
    have y0 : IntKind.i64.wrap ((k : Int) + (K : Int)) = ((k + K : Nat) : Int) := by rw [IntWalk.i64_in _ (by omega)]; omega
    have HO : Hid (∀ b', (b = true → b' = true) → (b = false → b' = false) → Out (rdN K) s k b (getI ((s.drop k).take K)) (k + K) b') := Lib.hid (fun b' h1 h2 => ⟨hf, fun hb => .inl ⟨by
      unfold rdN
      rw [if_neg (by rw [List.length_drop]; omega), List.drop_drop], h2 hb⟩, h1⟩)
    generalize getI ((s.drop k).take K) = n at *
    generalize strOf s = ss at *
    clear GE0 h hK8 hf hK
    go_enter Tryd.func70, Tryd.ntmps70
    go_wp2_with fail
    refine GE.out.mono ?_
    rintro e W2 ⟨rfl, rfl⟩
    clear GE
    go_wp2_with fail
    refine AD.out.mono ?_
    rintro e W3 ⟨rfl, hr, ho⟩
    have HR := Lib.hid hr
    have HON := Lib.hid ho
    clear hr ho AD
    go_wp2
    go_ret
    exact ⟨_, n, k + K, b, rfl, rfl, HO.out b id id, HR.out, HON.out⟩
  · have GE0 := get_short (strOf s) (k : Int) (K : Int) W hK (by omega) (by omega) (by omega) (by omega)
    have GE := Lib.hid GE0
    have AD := Lib.hid (adv_no h (IntKind.i64.wrap ((k : Int) + (K : Int))))
    have HO : Hid (Out (rdN K) s k b 0 k true) := Lib.hid ⟨hk, fun hb => .inr ⟨by
      unfold rdN
      rw [if_pos (by rw [List.length_drop]; omega)], rfl⟩, fun _ => rfl⟩
    have y0 : IntKind.i64.wrap ((k : Int) + (K : Int)) = (k : Int) + (K : Int) := IntWalk.i64_in _ (by omega)
    rw [y0] at AD
    generalize strOf s = ss at *
    clear GE0 h hK8 hf hK
    go_enter Tryd.func70, Tryd.ntmps70
    go_wp2_with fail
    refine GE.out.mono ?_
    rintro e W2 ⟨rfl, rfl⟩
    clear GE
    go_wp2_with fail
    refine AD.out.mono ?_
    rintro e W3 ⟨rfl, hr, ho⟩
    have HR := Lib.hid hr
    have HON := Lib.hid ho
    clear hr ho AD
    go_wp2
    go_ret
    exact ⟨_, 0, k, true, rfl, rfl, HO.out, HR.out, HON.out⟩

set_option maxHeartbeats 2000000 in
set_option maxRecDepth 100000 in
/-- A text, as the reader reads it. -/
theorem textR_any {s : List UInt8} {q : Rq} {N : Nat} (hN : q.ba < N ∧ q.bh < N) (W : World) (k : Nat) (b : Bool) (hk : k ≤ s.length) (h : RD s q N W k b) :
    Calls Tryd.prog 72 #[ptr q.bs, ptr q.ba, ptr q.bv] W (RdAny (pRdr s q N hN) s rdT strR W k b) := by
  have hcall := enters_adv
  unfold Enters at hcall
  have hlen := h.len
  have hsz := strOf_size s
  have cs := h.cs
  have ca := h.ca
  have cv := h.cv
  have hla : lenAt (strOf s) k = Lib.leNat ((s.drop k).take 4) := rfl
  have NX0 := next_all (strOf s) (k : Int) W (by omega) (by omega)
  by_cases hf : k + 4 + Lib.leNat ((s.drop k).take 4) ≤ s.length
  · have hb1 : nextB (strOf s) (k : Int) = true := nextB_yes (by rw [Int.toNat_natCast, hla, hsz]; omega)
    have e1 : nextS (strOf s) (k : Int) = strOf (((s.drop k).drop 4).take (Lib.leNat ((s.drop k).take 4))) := by
      unfold nextS
      rw [if_pos hb1, Int.toNat_natCast, hla]
      apply ByteArray.ext
      apply Array.ext'
      rw [Lib.extract_data, str_list, List.drop_drop, Nat.add_sub_cancel_left]
      rfl
    have e2 : nextI (strOf s) (k : Int) = ((k + 4 + Lib.leNat ((s.drop k).take 4) : Nat) : Int) := by unfold nextI; rw [if_pos hb1, Int.toNat_natCast, hla]; omega
    have e3 : nextE (strOf s) (k : Int) = 0 := by unfold nextE; rw [if_pos hb1]
    rw [e1, e2, e3] at NX0
    have GE := Lib.hid NX0
    have AD := Lib.hid (adv_ok h (k + 4 + Lib.leNat ((s.drop k).take 4)) 0 (by decide))
    have HO : Hid (Out rdT s k b (((s.drop k).drop 4).take (Lib.leNat ((s.drop k).take 4))) (k + 4 + Lib.leNat ((s.drop k).take 4)) b) := Lib.hid ⟨hf, fun hb => .inl ⟨by
      unfold rdT
      rw [if_neg (by rw [List.length_drop]; omega), if_neg (by rw [List.length_drop]; omega), show (s.drop k).drop (4 + Lib.leNat ((s.drop k).take 4)) = s.drop (k + 4 + Lib.leNat ((s.drop k).take 4)) by rw [List.drop_drop, Nat.add_assoc]], hb⟩, fun hb => hb⟩
    generalize ((s.drop k).drop 4).take (Lib.leNat ((s.drop k).take 4)) = t at *
    generalize Lib.leNat ((s.drop k).take 4) = n at *
    have HT : Hid (strR (fun g => W.heap.size ≤ g) W (.string (strOf t)) t) := Lib.hid rfl
    obtain ⟨st, hst⟩ : ∃ st, st = strOf t := ⟨_, rfl⟩
    rw [← hst] at GE HT
    generalize strOf s = ss at *
    have HST := Lib.hid hst
    clear NX0 h hf e1 e2 e3 hla hb1 hst
    go_enter Tryd.func72, Tryd.ntmps72
    go_wp2_with fail
    refine GE.out.mono ?_
    rintro e W2 ⟨rfl, rfl⟩
    clear GE
    go_wp2_with fail
    refine AD.out.mono ?_
    rintro e W3 ⟨rfl, hr, ho⟩
    have HR := Lib.hid hr
    have HON := Lib.hid ho
    clear hr ho AD
    go_wp2
    go_ret
    exact ⟨_, t, k + 4 + n, b, rfl, by rw [HST.out]; rfl, HO.out, HR.out, HON.out⟩
  · have hb1 : ¬nextB (strOf s) (k : Int) = true := nextB_no (by rw [Int.toNat_natCast, hla, hsz]; omega)
    have e1 : nextS (strOf s) (k : Int) = ⟨#[]⟩ := by unfold nextS; rw [if_neg hb1]
    have e2 : nextI (strOf s) (k : Int) = 0 := by unfold nextI; rw [if_neg hb1]
    have e3 : nextE (strOf s) (k : Int) = 2 := by unfold nextE; rw [if_neg hb1, if_pos (by omega)]
    rw [e1, e2, e3] at NX0
    have GE := Lib.hid NX0
    have AD := Lib.hid (adv_no h 0)
    have HO : Hid (Out rdT s k b [] k true) := Lib.hid ⟨hk, fun hb => .inr ⟨by
      unfold rdT
      by_cases h4 : (s.drop k).length < 4
      · rw [if_pos h4]
      · rw [if_neg h4, if_pos (by rw [List.length_drop] at h4 ⊢; omega)], rfl⟩, fun _ => rfl⟩
    generalize strOf s = ss at *
    clear NX0 h hf e1 e2 e3 hla hb1
    go_enter Tryd.func72, Tryd.ntmps72
    go_wp2_with fail
    refine GE.out.mono ?_
    rintro e W2 ⟨rfl, rfl⟩
    clear GE
    go_wp2_with fail
    refine AD.out.mono ?_
    rintro e W3 ⟨rfl, hr, ho⟩
    have HR := Lib.hid hr
    have HON := Lib.hid ho
    clear hr ho AD
    go_wp2
    go_ret
    exact ⟨_, [], k, true, rfl, rfl, HO.out, HR.out, HON.out⟩

set_option maxHeartbeats 1000000 in
set_option maxRecDepth 100000 in
theorem shortR_any {s : List UInt8} {q : Rq} {N : Nat} (W : World) (k : Nat) (b : Bool) (h : RD s q N W k b) :
    Calls Tryd.prog 76 #[ptr q.bh] W fun e W' => e = .returned (.bool b) ∧ W = W' := by
  have ch := h.ch
  clear h
  go_enter Tryd.func76, Tryd.ntmps76
  go_wp2
  go_ret
  exact ⟨rfl, rfl⟩

/-- What the program reads of an instruction. -/
theorem parse_fix {l : List UInt8} {k : Nat} (h : k + 4 ≤ l.length) : ∃ er : Int, er ≠ 2 ∧ parseL l (k : Int) = (fixI (readL (l.drop k)), er) := by
  unfold parseL fixI
  rw [if_neg (by omega), if_neg (by omega), Int.toNat_natCast]
  by_cases hr : rightB (readL (l.drop k)) = true
  · rw [if_pos hr, if_pos hr]; exact ⟨0, by decide, rfl⟩
  · rw [if_neg hr, if_neg hr]; exact ⟨4, by decide, rfl⟩

end Go.Proofs.YtmloljfnnkfkjaaDoor.Im

namespace Go.Proofs.YtmloljfnnkfkjaaDoor.Im
open Go.RowKit Dk In

/-- The document's reader in memory: one block of three cells. -/
structure DR (s : List UInt8) (r N : Nat) (W : World) (k : Nat) (b : Bool) : Prop where
  eb : EB W r [.string (strOf s), .int .i64 (k : Int), .bool b]
  low : r < N
  size : N ≤ W.heap.size
  len : s.length ≤ 1099511627776
def dRdr (s : List UInt8) (r N : Nat) (h : r < N) : Rdr where
  St := DR s r N
  F := fun i => i = r
  N := N
  keep := fun W W' k b hr hs hb => ⟨hr.eb.of_block (hb _ hr.low) hs, hr.low, Nat.le_trans hr.size hs, hr.len⟩
  lt := fun i hi => by subst hi; exact h
  size := fun W k b hr => hr.size
section
variable {s : List UInt8} {r N : Nat} {W : World} {k : Nat} {b : Bool}
theorem DR.setA (h : DR s r N W k b) (k' : Nat) : DR s r N (W.setCell ⟨r, 1, none⟩ (.int .i64 (k' : Int))) k' b :=
  ⟨h.eb.setOne 1 (.int .i64 (k' : Int)) (by simp), h.low, by simpa using h.size, h.len⟩
theorem DR.setH (h : DR s r N W k b) : DR s r N (W.setCell ⟨r, 2, none⟩ (.bool true)) k true :=
  ⟨h.eb.setOne 2 (.bool true) (by simp), h.low, by simpa using h.size, h.len⟩
end

theorem rget_okD (s : List UInt8) (k K : Nat) (hK : wideB (K : Int) = true) (hs : s.length ≤ 9223372036854775807) (h : k + K ≤ s.length) (W : World) :
    Calls Tryd.prog 81 #[.string (strOf s), .int .i64 (k : Int), .int .i64 (K : Int)] W fun e w' => e = .returned (.tuple #[.int .i64 (getI ((s.drop k).take K)), .int .i64 0]) ∧ W = w' :=
  rget_nat (strOf s) k K W hK (by rw [strOf_size]; exact hs) (by rw [strOf_size]; exact h)
theorem rget_noD (s : List UInt8) (k K : Nat) (hK : wideB (K : Int) = true) (hs : s.length ≤ 1099511627776) (hk : k ≤ s.length) (h : ¬k + K ≤ s.length) (W : World) :
    Calls Tryd.prog 81 #[.string (strOf s), .int .i64 (k : Int), .int .i64 (K : Int)] W fun e w' => e = .returned (.tuple #[.int .i64 0, .int .i64 2]) ∧ W = w' :=
  rget_short (strOf s) k K W hK (by omega) (by omega) (by rw [strOf_size]; omega) (by rw [strOf_size]; omega)
theorem only_drew {F : Nat → Prop} {w W : World} (h : Only F w W) : Only F w W.drew := h.trans (Only.of_below ((Below.refl _ _).drew)) (fun _ _ h => h)
theorem DR.drew {s : List UInt8} {r N k : Nat} {b : Bool} {W : World} (h : DR s r N W k b) : DR s r N W.drew k b :=
  ⟨h.eb.of_block rfl (Nat.le_refl _), h.low, h.size, h.len⟩

set_option maxHeartbeats 2000000 in
set_option maxRecDepth 100000 in
theorem dnum_ok {s : List UInt8} {r N : Nat} (hN : r < N) (K : Nat) (hK : wideB (K : Int) = true) (W : World) (k : Nat) (h : DR s r N W k false) (hf : k + K ≤ s.length) :
    Calls Tryd.prog 40 #[ptr r, .int .i64 (K : Int)] W (RdAny (dRdr s r N hN) s (rdN K) intR W k false) := by
  have hlen := h.len
  have hsz := strOf_size s
  have hK8 : K ≤ 8 := by rcases wide_cases hK with e | e | e | e <;> omega
  have c0 : W.cell? ⟨r, 0, none⟩ = some (.string (strOf s)) := h.eb.at 0 _ rfl
  have c1 : W.cell? ⟨r, 1, none⟩ = some (.int .i64 (k : Int)) := h.eb.at 1 _ rfl
  have c2 : W.cell? ⟨r, 2, none⟩ = some (.bool false) := h.eb.at 2 _ rfl
  have f1 : W.frozen? ⟨r, 1, none⟩ = false := h.eb.free 1 (by simp)
  have d0 : W.drew.cell? ⟨r, 0, none⟩ = some (.string (strOf s)) := c0
  have d1 : W.drew.cell? ⟨r, 1, none⟩ = some (.int .i64 (k : Int)) := c1
  have d2 : W.drew.cell? ⟨r, 2, none⟩ = some (.bool false) := c2
  have g1 : W.drew.frozen? ⟨r, 1, none⟩ = false := f1
  have GE0 := rget_okD s k K hK (by omega) hf
  have GE := Lib.hid GE0
  have y0 : IntKind.i64.wrap ((k : Int) + (K : Int)) = ((k + K : Nat) : Int) := by rw [IntWalk.i64_in _ (by omega)]; omega
  have HO : Hid (Out (rdN K) s k false (getI ((s.drop k).take K)) (k + K) false) := Lib.hid ⟨hf, fun hb => .inl ⟨by
      unfold rdN
      rw [if_neg (by rw [List.length_drop]; omega), List.drop_drop], rfl⟩, fun h => h⟩
  have HS : Hid (DR s r N (W.drew.setCell ⟨r, 1, none⟩ (.int .i64 ((k + K : Nat) : Int))) (k + K) false) := Lib.hid (h.drew.setA (k + K))
  have HON : Hid (Only (fun i => i = r) W (W.drew.setCell ⟨r, 1, none⟩ (.int .i64 ((k + K : Nat) : Int)))) := Lib.hid ((only_drew (Only.refl (fun i => i = r) W)).setCell ⟨r, 1, none⟩ rfl _)
  generalize getI ((s.drop k).take K) = n at *
  generalize strOf s = ss at *
  clear GE0 h hK8 hf hK
  go_enter Tryd.func40, Tryd.ntmps40
  go_wp2_with fail
  go_region_held3 (fun X => X.cell? ⟨r, 0, none⟩ = some (.string ss) ∧ X.cell? ⟨r, 1, none⟩ = some (.int .i64 (k : Int))) (first | exact ⟨by assumption, by assumption⟩ | go_keep) (first | (go_at_call 81; (with_reducible refine (GE.out _).mono ?_); rintro e W2 ⟨rfl, rfl⟩))
  clear GE
  go_wp2
  go_ret
  exact ⟨_, n, k + K, false, rfl, rfl, HO.out, HS.out, HON.out⟩

set_option maxHeartbeats 2000000 in
set_option maxRecDepth 100000 in
theorem dnum_no {s : List UInt8} {r N : Nat} (hN : r < N) (K : Nat) (hK : wideB (K : Int) = true) (W : World) (k : Nat) (b : Bool) (hk : k ≤ s.length) (h : DR s r N W k b) (hf : b = true ∨ ¬k + K ≤ s.length) :
    Calls Tryd.prog 40 #[ptr r, .int .i64 (K : Int)] W (RdAny (dRdr s r N hN) s (rdN K) intR W k b) := by
  have hlen := h.len
  have hsz := strOf_size s
  have hK8 : K ≤ 8 := by rcases wide_cases hK with e | e | e | e <;> omega
  have c0 : W.cell? ⟨r, 0, none⟩ = some (.string (strOf s)) := h.eb.at 0 _ rfl
  have c1 : W.cell? ⟨r, 1, none⟩ = some (.int .i64 (k : Int)) := h.eb.at 1 _ rfl
  have c2 : W.cell? ⟨r, 2, none⟩ = some (.bool b) := h.eb.at 2 _ rfl
  have f2 : W.frozen? ⟨r, 2, none⟩ = false := h.eb.free 2 (by simp)
  have d0 : W.drew.cell? ⟨r, 0, none⟩ = some (.string (strOf s)) := c0
  have d1 : W.drew.cell? ⟨r, 1, none⟩ = some (.int .i64 (k : Int)) := c1
  have d2 : W.drew.cell? ⟨r, 2, none⟩ = some (.bool b) := c2
  have g2 : W.drew.frozen? ⟨r, 2, none⟩ = false := f2
  have HS : Hid (DR s r N (W.drew.setCell ⟨r, 2, none⟩ (.bool true)) k true) := Lib.hid h.drew.setH
  have HON : Hid (Only (fun i => i = r) W (W.drew.setCell ⟨r, 2, none⟩ (.bool true))) := Lib.hid ((only_drew (Only.refl (fun i => i = r) W)).setCell ⟨r, 2, none⟩ rfl _)
  have HO : Hid (Out (rdN K) s k b 0 k true) := Lib.hid ⟨hk, fun hb => .inr ⟨by
      have hf : ¬k + K ≤ s.length := by rcases hf with e | e; · rw [hb] at e; cases e
                                        · exact e
      unfold rdN
      rw [if_pos (by rw [List.length_drop]; omega)], rfl⟩, fun _ => rfl⟩
  by_cases hq : k + K ≤ s.length
  · have hb : b = true := by rcases hf with e | e; · exact e
                             · exact absurd hq e
    subst hb
    have GE0 := rget_okD s k K hK (by omega) hq
    have GE := Lib.hid GE0
    generalize getI ((s.drop k).take K) = n at *
    generalize strOf s = ss at *
    clear GE0 h hK8 hf hK
    go_enter Tryd.func40, Tryd.ntmps40
    go_wp2_with fail
    go_region_held3 (fun X => X.cell? ⟨r, 0, none⟩ = some (.string ss) ∧ X.cell? ⟨r, 1, none⟩ = some (.int .i64 (k : Int))) (first | exact ⟨by assumption, by assumption⟩ | go_keep) (first | (go_at_call 81; (with_reducible refine (GE.out _).mono ?_); rintro e W2 ⟨rfl, rfl⟩))
    clear GE
    go_wp2
    go_ret
    exact ⟨_, 0, k, true, rfl, rfl, HO.out, HS.out, HON.out⟩
  · have GE0 := rget_noD s k K hK hlen hk hq
    have GE := Lib.hid GE0
    generalize strOf s = ss at *
    clear GE0 h hK8 hf hK
    go_enter Tryd.func40, Tryd.ntmps40
    go_wp2_with fail
    go_region_held3 (fun X => X.cell? ⟨r, 0, none⟩ = some (.string ss) ∧ X.cell? ⟨r, 1, none⟩ = some (.int .i64 (k : Int))) (first | exact ⟨by assumption, by assumption⟩ | go_keep) (first | (go_at_call 81; (with_reducible refine (GE.out _).mono ?_); rintro e W2 ⟨rfl, rfl⟩))
    clear GE
    cases b
    · go_wp2
      go_ret
      exact ⟨_, 0, k, true, rfl, rfl, HO.out, HS.out, HON.out⟩
    · go_wp2
      go_ret
      exact ⟨_, 0, k, true, rfl, rfl, HO.out, HS.out, HON.out⟩

theorem dnum_any {s : List UInt8} {r N : Nat} (hN : r < N) (K : Nat) (hK : wideB (K : Int) = true) (W : World) (k : Nat) (b : Bool) (hk : k ≤ s.length) (h : DR s r N W k b) :
    Calls Tryd.prog 40 #[ptr r, .int .i64 (K : Int)] W (RdAny (dRdr s r N hN) s (rdN K) intR W k b) := by
  by_cases hf : b = true ∨ ¬k + K ≤ s.length
  · exact dnum_no hN K hK W k b hk h hf
  · have hb : b = false := by cases b; · rfl
                              · exact absurd (.inl rfl) hf
    subst hb
    exact dnum_ok hN K hK W k h (Decidable.byContradiction fun e => hf (.inr e))

set_option maxHeartbeats 2000000 in
set_option maxRecDepth 100000 in
theorem dtext_any {s : List UInt8} {r N : Nat} (hN : r < N) (W : World) (k : Nat) (b : Bool) (hk : k ≤ s.length) (h : DR s r N W k b) :
    Calls Tryd.prog 41 #[ptr r] W (RdAny (dRdr s r N hN) s rdT strR W k b) := by
  have hlen := h.len
  have hsz := strOf_size s
  have c0 : W.cell? ⟨r, 0, none⟩ = some (.string (strOf s)) := h.eb.at 0 _ rfl
  have c1 : W.cell? ⟨r, 1, none⟩ = some (.int .i64 (k : Int)) := h.eb.at 1 _ rfl
  have c2 : W.cell? ⟨r, 2, none⟩ = some (.bool b) := h.eb.at 2 _ rfl
  have f1 : W.frozen? ⟨r, 1, none⟩ = false := h.eb.free 1 (by simp)
  have g1 : W.drew.frozen? ⟨r, 1, none⟩ = false := f1
  have f2 : W.frozen? ⟨r, 2, none⟩ = false := h.eb.free 2 (by simp)
  have d0 : W.drew.cell? ⟨r, 0, none⟩ = some (.string (strOf s)) := c0
  have d1 : W.drew.cell? ⟨r, 1, none⟩ = some (.int .i64 (k : Int)) := c1
  have d2 : W.drew.cell? ⟨r, 2, none⟩ = some (.bool b) := c2
  have g2 : W.drew.frozen? ⟨r, 2, none⟩ = false := f2
  have HS2 : Hid (DR s r N (W.drew.setCell ⟨r, 2, none⟩ (.bool true)) k true) := Lib.hid h.drew.setH
  have HON2 : Hid (Only (fun i => i = r) W (W.drew.setCell ⟨r, 2, none⟩ (.bool true))) := Lib.hid ((only_drew (Only.refl (fun i => i = r) W)).setCell ⟨r, 2, none⟩ rfl _)
  have hla : lenAt (strOf s) k = Lib.leNat ((s.drop k).take 4) := rfl
  have NX0 := fun W : World => rnext_all (strOf s) (k : Int) W (by omega) (by omega)
  by_cases hf : k + 4 + Lib.leNat ((s.drop k).take 4) ≤ s.length
  · have hb1 : nextB (strOf s) (k : Int) = true := nextB_yes (by rw [Int.toNat_natCast, hla, hsz]; omega)
    have e1 : nextS (strOf s) (k : Int) = strOf (((s.drop k).drop 4).take (Lib.leNat ((s.drop k).take 4))) := by
      unfold nextS
      rw [if_pos hb1, Int.toNat_natCast, hla]
      apply ByteArray.ext
      apply Array.ext'
      rw [Lib.extract_data, str_list, List.drop_drop, Nat.add_sub_cancel_left]
      rfl
    have e2 : nextI (strOf s) (k : Int) = ((k + 4 + Lib.leNat ((s.drop k).take 4) : Nat) : Int) := by unfold nextI; rw [if_pos hb1, Int.toNat_natCast, hla]; omega
    have e3 : nextE (strOf s) (k : Int) = 0 := by unfold nextE; rw [if_pos hb1]
    simp only [e1, e2, e3] at NX0
    have GE := Lib.hid NX0
    have HS : Hid (DR s r N (W.drew.setCell ⟨r, 1, none⟩ (.int .i64 ((k + 4 + Lib.leNat ((s.drop k).take 4) : Nat) : Int))) (k + 4 + Lib.leNat ((s.drop k).take 4)) b) := Lib.hid (h.drew.setA _)
    have HON : Hid (Only (fun i => i = r) W (W.drew.setCell ⟨r, 1, none⟩ (.int .i64 ((k + 4 + Lib.leNat ((s.drop k).take 4) : Nat) : Int)))) := Lib.hid ((only_drew (Only.refl (fun i => i = r) W)).setCell ⟨r, 1, none⟩ rfl _)
    have HO : Hid (Out rdT s k b (((s.drop k).drop 4).take (Lib.leNat ((s.drop k).take 4))) (k + 4 + Lib.leNat ((s.drop k).take 4)) b) := Lib.hid ⟨hf, fun hb => .inl ⟨by
      unfold rdT
      rw [if_neg (by rw [List.length_drop]; omega), if_neg (by rw [List.length_drop]; omega), show (s.drop k).drop (4 + Lib.leNat ((s.drop k).take 4)) = s.drop (k + 4 + Lib.leNat ((s.drop k).take 4)) by rw [List.drop_drop, Nat.add_assoc]], hb⟩, fun hb => hb⟩
    have HO2 : Hid (b = true → Out rdT s k b [] k true) := Lib.hid fun hb => ⟨hk, fun h => (by rw [hb] at h; cases h), fun _ => rfl⟩
    generalize ((s.drop k).drop 4).take (Lib.leNat ((s.drop k).take 4)) = t at *
    generalize Lib.leNat ((s.drop k).take 4) = n at *
    obtain ⟨st, hst⟩ : ∃ st, st = strOf t := ⟨_, rfl⟩
    rw [← hst] at GE
    generalize strOf s = ss at *
    have HST := Lib.hid hst
    clear NX0 h hf e1 e2 e3 hla hb1 hst
    go_enter Tryd.func41, Tryd.ntmps41
    go_wp2_with fail
    go_region_held3 (fun X => X.cell? ⟨r, 0, none⟩ = some (.string ss) ∧ X.cell? ⟨r, 1, none⟩ = some (.int .i64 (k : Int))) (first | exact ⟨by assumption, by assumption⟩ | go_keep) (first | (go_at_call 82; (with_reducible refine (GE.out _).mono ?_); rintro e W2 ⟨rfl, rfl⟩))
    clear GE
    cases b
    · go_wp2
      go_ret
      exact ⟨_, t, k + 4 + n, false, rfl, by rw [HST.out]; rfl, HO.out, HS.out, HON.out⟩
    · go_wp2
      go_ret
      exact ⟨_, [], k, true, rfl, rfl, HO2.out (by first | rfl | trivial), HS2.out, HON2.out⟩
  · have hb1 : ¬nextB (strOf s) (k : Int) = true := nextB_no (by rw [Int.toNat_natCast, hla, hsz]; omega)
    have e1 : nextS (strOf s) (k : Int) = ⟨#[]⟩ := by unfold nextS; rw [if_neg hb1]
    have e2 : nextI (strOf s) (k : Int) = 0 := by unfold nextI; rw [if_neg hb1]
    have e3 : nextE (strOf s) (k : Int) = 2 := by unfold nextE; rw [if_neg hb1, if_pos (by omega)]
    simp only [e1, e2, e3] at NX0
    have GE := Lib.hid NX0
    have HO : Hid (Out rdT s k b [] k true) := Lib.hid ⟨hk, fun hb => .inr ⟨by
      unfold rdT
      by_cases h4 : (s.drop k).length < 4
      · rw [if_pos h4]
      · rw [if_neg h4, if_pos (by rw [List.length_drop] at h4 ⊢; omega)], rfl⟩, fun _ => rfl⟩
    generalize strOf s = ss at *
    clear NX0 h hf e1 e2 e3 hla hb1
    go_enter Tryd.func41, Tryd.ntmps41
    go_wp2_with fail
    go_region_held3 (fun X => X.cell? ⟨r, 0, none⟩ = some (.string ss) ∧ X.cell? ⟨r, 1, none⟩ = some (.int .i64 (k : Int))) (first | exact ⟨by assumption, by assumption⟩ | go_keep) (first | (go_at_call 82; (with_reducible refine (GE.out _).mono ?_); rintro e W2 ⟨rfl, rfl⟩))
    clear GE
    cases b
    · go_wp2
      go_ret
      exact ⟨_, [], k, true, rfl, rfl, HO.out, HS2.out, HON2.out⟩
    · go_wp2
      go_ret
      exact ⟨_, [], k, true, rfl, rfl, HO.out, HS2.out, HON2.out⟩

end Go.Proofs.YtmloljfnnkfkjaaDoor.Im

