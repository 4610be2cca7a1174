/- The walk of readerOf: its contract. The walk of image.Parse: its contract. No condition but those that each states. -/
import Derived.Test.YtmloljfnnkfkjaaDoorMgBF
import Derived.Laws.EntriesVeiled
import Derived.Test.YtmloljfnnkfkjaaDoorMgAT
namespace Go.Proofs.YtmloljfnnkfkjaaDoor.Im
open Go.RowKit Dk In

/-- No reader: only the call's own blocks are followed. -/
def noRdr : Rdr := ⟨fun _ _ _ => True, fun _ => False, 0, fun _ _ _ _ _ _ _ => trivial, fun _ h => h.elim, fun _ _ _ _ => Nat.zero_le _⟩
section
variable {Q : Rdr} {s : List UInt8} {w W : World} {L : List (Nat × List Value)} {k : Nat} {b : Bool}
/-- The first two blocks are handed on, the third one comes ahead. -/
theorem RW.third {x y z : Nat × List Value} (h : RW Q s w W (x :: y :: z :: L) k b) : RW Q s w W (z :: x :: y :: L) k b := by
  refine ⟨h.st, h.le, h.only, h.low, fun a ha => h.own a ?_, ?_⟩
  · simp only [List.mem_cons] at ha ⊢; rcases ha with h | h | h | h <;> simp [h]
  · have := h.nd
    simp only [List.map_cons, List.nodup_cons, List.mem_cons] at this ⊢
    obtain ⟨h1, h2, h3, h4⟩ := this
    refine ⟨?_, ?_, ?_, h4⟩
    · rintro (e | e | e)
      · exact h1 (.inr (.inl e.symm))
      · exact h2 (.inl e.symm)
      · exact h3 e
    · rintro (e | e)
      · exact h1 (.inl e)
      · exact h1 (.inr (.inr e))
    · exact fun e => h2 (.inr e)
end

set_option maxHeartbeats 4000000 in
set_option maxRecDepth 100000 in
theorem readerOf_any (s : List UInt8) (w : World) (hs : s.length ≤ 1099511627776) : Calls Tryd.prog 38 #[.string (strOf s)] w fun e W' => ∃ q : Rq, e = .returned (.agg (rdC q).toArray) ∧ RD s q W'.heap.size W' 0 false ∧ (w.heap.size ≤ q.ba ∧ w.heap.size ≤ q.bh) ∧ Below w.heap.size w W' := by
  obtain ⟨W0, hW0⟩ : ∃ W0, W0 = w.alloc (.cells #[.string (strOf s)] 9) := ⟨_, rfl⟩
  obtain ⟨W1, hW1⟩ : ∃ W1, W1 = W0.alloc (.cells #[.nilFunc, .nilFunc, .nilFunc, .nilFunc] 62) := ⟨_, rfl⟩
  obtain ⟨W2, hW2⟩ : ∃ W2, W2 = W1.alloc (.cells #[.int .i64 0] 3) := ⟨_, rfl⟩
  obtain ⟨W3, hW3⟩ : ∃ W3, W3 = W2.alloc (.cells #[.bool false] 4) := ⟨_, rfl⟩
  have R0 : RW noRdr s w w [] 0 false := RW.new (Q := noRdr) trivial (Nat.zero_le _)
  have R1 : RW noRdr s w W0 [(w.heap.size, [.string (strOf s)])] 0 false := by rw [hW0]; exact R0.alloc [.string (strOf s)] _
  have R2 : RW noRdr s w W1 [(W0.heap.size, [.nilFunc, .nilFunc, .nilFunc, .nilFunc]), (w.heap.size, [.string (strOf s)])] 0 false := by rw [hW1]; exact R1.alloc [.nilFunc, .nilFunc, .nilFunc, .nilFunc] _
  have R3 : RW noRdr s w W2 [(W1.heap.size, [.int .i64 0]), (W0.heap.size, [.nilFunc, .nilFunc, .nilFunc, .nilFunc]), (w.heap.size, [.string (strOf s)])] 0 false := by rw [hW2]; exact R2.alloc [.int .i64 0] _
  have R4 : RW noRdr s w W3 [(W2.heap.size, [.bool false]), (W1.heap.size, [.int .i64 0]), (W0.heap.size, [.nilFunc, .nilFunc, .nilFunc, .nilFunc]), (w.heap.size, [.string (strOf s)])] 0 false := by rw [hW3]; exact R3.alloc [.bool false] _
  have a1 : W3.cell? ⟨W1.heap.size, 0, none⟩ = some (.int .i64 0) := R4.at (x := (W1.heap.size, [.int .i64 0])) (by simp) 0 _ rfl
  have a2 : W3.frozen? ⟨W1.heap.size, 0, none⟩ = false := (R4.own (W1.heap.size, [.int .i64 0]) (by simp)).1.free 0 (by simp)
  obtain ⟨W4, hW4⟩ : ∃ W4, W4 = W3.setCell ⟨W1.heap.size, 0, none⟩ (.int .i64 0) := ⟨_, rfl⟩
  have R5 : RW noRdr s w W4 [(W2.heap.size, [.bool false]), (W1.heap.size, [.int .i64 0]), (W0.heap.size, [.nilFunc, .nilFunc, .nilFunc, .nilFunc]), (w.heap.size, [.string (strOf s)])] 0 false := by
    rw [hW4]; exact (R4.swap.setOne 0 (.int .i64 0) (by simp)).swap
  have a3 : W4.cell? ⟨W2.heap.size, 0, none⟩ = some (.bool false) := R5.at (x := (W2.heap.size, [.bool false])) (by simp) 0 _ rfl
  have a4 : W4.frozen? ⟨W2.heap.size, 0, none⟩ = false := (R5.own (W2.heap.size, [.bool false]) (by simp)).1.free 0 (by simp)
  obtain ⟨W5, hW5⟩ : ∃ W5, W5 = W4.setCell ⟨W2.heap.size, 0, none⟩ (.bool false) := ⟨_, rfl⟩
  have R6 : RW noRdr s w W5 [(W2.heap.size, [.bool false]), (W1.heap.size, [.int .i64 0]), (W0.heap.size, [.nilFunc, .nilFunc, .nilFunc, .nilFunc]), (w.heap.size, [.string (strOf s)])] 0 false := by
    rw [hW5]; exact R5.setOne 0 (.bool false) (by simp)
  obtain ⟨W6, hW6⟩ : ∃ W6, W6 = W5.alloc (.cells #[.nilFunc] 100) := ⟨_, rfl⟩
  have R7 : RW noRdr s w W6 [(W5.heap.size, [.nilFunc]), (W2.heap.size, [.bool false]), (W1.heap.size, [.int .i64 0]), (W0.heap.size, [.nilFunc, .nilFunc, .nilFunc, .nilFunc]), (w.heap.size, [.string (strOf s)])] 0 false := by rw [hW6]; exact R6.alloc [.nilFunc] _
  have a5 : W6.cell? ⟨W5.heap.size, 0, none⟩ = some .nilFunc := R7.at (x := (W5.heap.size, [.nilFunc])) (by simp) 0 _ rfl
  have a6 : W6.frozen? ⟨W5.heap.size, 0, none⟩ = false := (R7.own (W5.heap.size, [.nilFunc]) (by simp)).1.free 0 (by simp)
  obtain ⟨q, hq⟩ : ∃ q : Rq, q = ⟨w.heap.size, W1.heap.size, W2.heap.size, W5.heap.size⟩ := ⟨_, rfl⟩
  obtain ⟨W7, hW7⟩ : ∃ W7, W7 = W6.setCell ⟨W5.heap.size, 0, none⟩ (.func (.func 69) #[] #[ptr W2.heap.size, ptr W1.heap.size]) := ⟨_, rfl⟩
  have R8 : RW noRdr s w W7 [(W5.heap.size, [.func (.func 69) #[] #[ptr W2.heap.size, ptr W1.heap.size]]), (W2.heap.size, [.bool false]), (W1.heap.size, [.int .i64 0]), (W0.heap.size, [.nilFunc, .nilFunc, .nilFunc, .nilFunc]), (w.heap.size, [.string (strOf s)])] 0 false := by
    rw [hW7]; exact R7.setOne 0 _ (by simp)
  have R9 := R8.third.swap.tail
  have R10 : RW noRdr s w W7 [(W0.heap.size, [.nilFunc, .nilFunc, .nilFunc, .nilFunc]), (W5.heap.size, [.func (.func 69) #[] #[ptr W2.heap.size, ptr W1.heap.size]]), (W2.heap.size, [.bool false]), (W1.heap.size, [.int .i64 0]), (w.heap.size, [.string (strOf s)])] 0 false := by
    refine ⟨R8.st, R8.le, R8.only, R8.low, fun x hx => R8.own x ?_, ?_⟩
    · simp only [List.mem_cons] at hx ⊢; rcases hx with h | h | h | h | h <;> simp_all
    · have := R8.nd
      simp only [List.map_cons, List.map_nil, List.nodup_cons, List.mem_cons, List.not_mem_nil, or_false, not_or, List.nodup_nil, and_true, not_false_iff] at this ⊢
      omega
  have HPP := R10.stored (rdC q) rfl
  have HT := Lib.hid HPP.1
  have HP := Lib.hid HPP.2
  have HQ := Lib.hid hq
  have HND := Lib.hid R10.nd
  have HI : Hid ((Tryd.prog.info? 62).map (·.size) = some (rdC q).length) := Lib.hid (r_info.trans (congrArg some (show 4 = (rdC q).length from rfl)))
  have hC : (#[.func (.func 70) #[] #[ptr w.heap.size, ptr W1.heap.size, ptr W5.heap.size], .func (.func 72) #[] #[ptr w.heap.size, ptr W1.heap.size, ptr W5.heap.size], .func (.func 74) #[] #[ptr w.heap.size, ptr W1.heap.size, ptr W5.heap.size], .func (.func 76) #[] #[ptr W2.heap.size]] : Array Value) = (rdC q).toArray := by rw [hq]; rfl
  have HC0 := Lib.hid hC
  have h0 := hW0.symm
  have h1 := hW1.symm
  have h2 := hW2.symm
  have h3 := hW3.symm
  have h4 := hW4.symm
  have h5 := hW5.symm
  have h6 := hW6.symm
  have h7 := hW7.symm
  clear hW0 hW1 hW2 hW3 hW4 hW5 hW6 hW7 R0 R1 R2 R3 R4 R5 R6 R7 R8 R9 R10 HPP hq hC
  go_enter Tryd.func38, Tryd.ntmps38
  go_wp2_with (refine wpList_store_mid rfl 62 (.tmp 2) (.tmp 11) rfl W0.heap.size 0 (rdC q).toArray rfl (by first | exact congrArg Value.agg HC0.out | rfl) HT.out (HI.out) (by simp [rdC, Value.oneCell']) ?_; generalize World.setCells _ _ _ _ = W8 at HP ⊢)
  have HB := Lib.hid (HP.out.own _ (List.mem_cons_self ..)).1
  refine bodyPost_ret (results_cell1 rfl _ _ rfl HB.out.cells Tryd.underlying62 rfl HI.out) rfl ?_
  have o1 := (HP.out.own (W5.heap.size, [.func (.func 69) #[] #[ptr W2.heap.size, ptr W1.heap.size]]) (by simp))
  have o2 := (HP.out.own (W2.heap.size, [.bool false]) (by simp))
  have o3 := (HP.out.own (W1.heap.size, [.int .i64 0]) (by simp))
  have o4 := (HP.out.own (w.heap.size, [.string (strOf s)]) (by simp))
  have nd := HND.out
  simp only [List.map_cons, List.map_nil, List.nodup_cons, List.mem_cons, List.not_mem_nil, or_false, not_or] at nd
  refine ⟨q, rfl, ?_, ?_, ?_⟩
  · rw [HQ.out]
    exact ⟨o4.1.at 0 _ rfl, o3.1.at 0 _ rfl, o2.1.at 0 _ rfl, o1.1.at 0 _ rfl, o3.1.free 0 (by simp), o2.1.free 0 (by simp), by simp only; omega, ⟨o4.1.lt, o3.1.lt, o2.1.lt, o1.1.lt⟩, Nat.le_refl _, hs⟩
  · rw [HQ.out]
    exact ⟨o3.2, o2.2⟩
  · have := HP.out.only
    exact ⟨this.os, this.tape, this.output, this.size, fun i hi => this.block i hi (fun h => h.elim)⟩

end Go.Proofs.YtmloljfnnkfkjaaDoor.Im

namespace Go.Proofs.YtmloljfnnkfkjaaDoor.Im
open Go.RowKit Dk In

/-! what is read is no longer than a call can take -/
theorem all_T : All rdT (fun l => l.length ≤ 1099511627776) := by
  intro l x t h
  unfold rdT at h
  split at h
  · cases h
  · split at h
    · cases h
    · simp only [Option.some.injEq, Prod.mk.injEq] at h
      have h1 := leNat_lt (l.take 4)
      have h2 : (l.take 4).length = 4 := by rw [List.length_take]; omega
      rw [h2] at h1
      rw [← h.1, List.length_take]
      omega
theorem all_two : All (rdN 2) (fun n => 0 ≤ n ∧ n ≤ 65535) := by
  intro l x t h
  have := two_small (s := l) (k := 0) (k' := l.length - t.length) (b := false) (n := x) ⟨by omega, fun _ => .inl ⟨by
    rw [List.drop_zero, h]
    unfold rdN at h
    split at h
    · cases h
    · simp only [Option.some.injEq, Prod.mk.injEq] at h
      rw [← h.2, List.length_drop, Nat.sub_sub_self (by omega)], rfl⟩, fun e => by cases e⟩
  exact this
theorem all_len {α : Type} {r : Rd α} {P : α → Prop} (h : All r P) : ∀ n, All (rdM r n) (fun l => l.length = n ∧ ∀ x ∈ l, P x)
  | 0 => all_ret ⟨rfl, fun _ h => by cases h⟩
  | n + 1 => all_bind P h fun x hx => all_bind _ (all_len h n) fun xs hxs => all_ret ⟨by rw [List.length_cons, hxs.1], fun y hy => by
      rcases List.mem_cons.1 hy with rfl | hy
      · exact hx
      · exact hxs.2 y hy⟩
theorem all_list {α : Type} {r : Rd α} {P : α → Prop} (h : All r P) : All (rdL r) (fun l => l.length ≤ 1099511627776 ∧ ∀ x ∈ l, P x) := all_bind _ all_two fun n hn => fun l x t e => by
  have := all_len h n.toNat l x t e
  exact ⟨by omega, this.2⟩
theorem all_smP (g : Ix → Ix) : All (rdPr g) SmP :=
  all_bind _ all_T fun _a ha => all_bind _ (all_true _) fun _ _ => all_bind _ (all_true _) fun _ _ => all_bind _ (all_list (all_true rdCap)) fun _d hd => all_bind _ (all_list (all_true rdVal)) fun _e he => all_bind _ (all_list (all_true (rdI g))) fun _f hf => all_ret ⟨ha, hf.1, he.1, hd.1⟩
theorem all_smUs : All rdUse (fun x => x.md.length ≤ 1099511627776 ∧ x.nm.length ≤ 1099511627776) := all_bind _ all_T fun _a ha => all_bind _ all_T fun _b hb => all_bind _ (all_true _) fun _c _ => all_ret ⟨ha, hb⟩
theorem all_smU (g : Ix → Ix) : All (rdUn g) SmU :=
  all_bind _ (all_true _) fun _ _ => all_bind _ all_T fun _a ha => all_bind _ (all_true _) fun _ _ => all_bind _ (all_list all_smUs) fun _c hc => all_bind _ (all_true _) fun _ _ => all_bind _ (all_list (all_smP g)) fun _e he => all_ret ⟨ha, hc.1, hc.2, he.1, he.2⟩
theorem uc_ones {X : Nat → Prop} {W : World} {cs : List Value} {u : Un} (h : UC X W cs u) : cs.length = 5 ∧ ∀ v ∈ cs, v.oneCell' = true := by
  obtain ⟨vu, vp, rfl, h1, css, h2, h3⟩ := h
  obtain ⟨p1, c1, rfl⟩ := Row.form h1
  obtain ⟨p2, c2, rfl⟩ := Row.form h2
  refine ⟨rfl, fun v hv => ?_⟩
  simp at hv
  rcases hv with rfl | rfl | rfl | rfl | rfl <;> rfl
/-- .. whose protos may be written. -/
def ParseAnyT (p : Un × Int) (w : World) (e : Ending) (W' : World) : Prop := ∃ cs, e = .returned (.tuple #[.agg cs.toArray, .int .i64 p.2]) ∧ UCT (fun g => w.heap.size ≤ g) W' cs p.1 ∧ Below w.heap.size w W'
/-- What Parse answers, as a value: a unit in blocks made since w. -/
def ParseAny (p : Un × Int) (w : World) (e : Ending) (W' : World) : Prop := ∃ cs, e = .returned (.tuple #[.agg cs.toArray, .int .i64 p.2]) ∧ UC (fun g => w.heap.size ≤ g) W' cs p.1 ∧ Below w.heap.size w W'

set_option maxHeartbeats 4000000 in
set_option maxRecDepth 100000 in
theorem uparse_anyT (s : List UInt8) (w : World) (hs : s.length ≤ 1099511627776) (HF : HasF w) : Calls Tryd.prog 14 #[.string (strOf s)] w (ParseAnyT (parseU fixI s) w) := by
  obtain ⟨W1, hW1⟩ : ∃ W1, W1 = w.alloc (.cells #[.string ⟨#[]⟩, .int .i64 0, .slice none 0 0, .int .i64 0, .slice none 0 0] 25) := ⟨_, rfl⟩
  have HE1 : Hid (EB W1 w.heap.size [.string ⟨#[]⟩, .int .i64 0, .slice none 0 0, .int .i64 0, .slice none 0 0]) := Lib.hid (by rw [hW1]; exact eb_new w [.string ⟨#[]⟩, .int .i64 0, .slice none 0 0, .int .i64 0, .slice none 0 0] _)
  have HB1 : Hid (Below w.heap.size w W1) := Lib.hid (by rw [hW1]; exact (Below.refl _ _).alloc (Nat.le_refl _) _)
  have hS1 : W1.heap.size = w.heap.size + 1 := by rw [hW1]; simp
  have HS1 := Lib.hid hS1
  have hW2 := hW1.symm
  have RO := Lib.hid (readerOf_any s W1 hs)
  have HFW := Lib.hid HF
  have e5 := enters_r5
  unfold Enters at e5
  have HIR := Lib.hid (r_info.trans (congrArg some (show 4 = (rdC (⟨0, 0, 0, 0⟩ : Rq)).length from rfl)))
  have HSS := Lib.hid hs
  obtain ⟨ss, hss⟩ : ∃ ss, ss = strOf s := ⟨_, rfl⟩
  rw [← hss] at RO ⊢
  have HSTR := Lib.hid hss
  clear hW1 hS1 HF hs hss
  go_enter Tryd.func14, Tryd.ntmps14
  go_wp2_with fail
  refine RO.out.mono ?_
  rintro e W2 ⟨q, rfl, hrd, ⟨hba, hbh⟩, hb⟩
  have HE2 := Lib.hid (HE1.out.of_block (hb.block _ HE1.out.lt) hb.size)
  have HB2 := Lib.hid (chain2 HB1.out hb)
  have hN : q.ba < W2.heap.size ∧ q.bh < W2.heap.size := ⟨hrd.low.2.1, hrd.low.2.2.1⟩
  have HLF : Hid (∀ i, rF q i → w.heap.size + 1 ≤ i) := Lib.hid (fun i hi => by
    have := HS1.out
    rcases hi with rfl | rfl
    · omega
    · omega)
  have hnf : ¬rF q 0 := fun h => by have := HLF.out _ h; have := HFW.out.lt; omega
  have HR2 : Hid (RW (pRdr s q W2.heap.size hN) s W2 W2 [] 0 false) := Lib.hid (RW.new (Q := pRdr s q W2.heap.size hN) hrd (Nat.zero_le _))
  have HP := Lib.hid (HR2.out.put #[.nilFunc, .nilFunc, .nilFunc, .nilFunc] 62 (rdC q) rfl)
  have HT := Lib.hid HP.out.1
  have HR3 := Lib.hid HP.out.2
  have HI2 : Hid ((Tryd.prog.info? 62).map (·.size) = some (rdC q).length) := Lib.hid HIR.out
  have HRU := Lib.hid (readUnit_any (s := s) (q := q) (N := W2.heap.size) hN hnf)
  clear hrd hba hbh hb RO HE1 HB1 HR2 HP
  go_wp2_with (first
    | (refine wpList_store_mid rfl 62 (.tmp 4) (.tmp 9) rfl W2.heap.size 0 (rdC q).toArray rfl rfl HT.out HI2.out (by simp [rdC, Value.oneCell']) ?_; generalize World.setCells _ _ _ _ = W3 at HR3 ⊢; have HC3 := Lib.hid (HR3.out.own _ (List.mem_cons_self ..)).1)
    | (refine wpList_load_mid rfl 62 (.tmp 4) rfl W2.heap.size 0 rfl (rdC q) _ HC3.out.cells Tryd.underlying62 rfl HI2.out ?_))
  have HE3 : Hid (EB W3 w.heap.size [.string ⟨#[]⟩, .int .i64 0, .slice none 0 0, .int .i64 0, .slice none 0 0]) := Lib.hid (HE2.out.of_block (HR3.out.only.block _ HE2.out.lt (fun h => by have := HLF.out _ h; omega)) HR3.out.only.size)
  have HB3 : Hid (Below w.heap.size w W3) := Lib.hid (HR3.out.only.below HB2.out (fun i hi => Nat.le_of_succ_le (HLF.out i hi)) (Nat.le_refl _))
  refine (HRU.out W3 0 false (Nat.zero_le _) HR3.out.st (HFW.out.later HB3.out)).mono ?_
  rintro e W4 ⟨v, u, k1, b1, ho⟩
  obtain rfl := ho.ret
  obtain ⟨cs, rfl, huc⟩ := ho.rep
  have HO := Lib.hid ho.out
  have HR4 := Lib.hid (HR3.out.ok ho)
  obtain ⟨hl5, hones⟩ := uc_ones huc.uc
  have HONE := Lib.hid (all_oneCell_toArray hones)
  have HL5 := Lib.hid hl5
  have HUI := Lib.hid (u_info cs hl5)
  have HUIA : Hid ((Tryd.prog.info? 25).map (·.size) = some cs.toArray.size) := Lib.hid HUI.out
  have HPU := Lib.hid (put_new W4 #[.string ⟨#[]⟩, .int .i64 0, .slice none 0 0, .int .i64 0, .slice none 0 0] 25 cs hl5.symm)
  have HP := Lib.hid (HR4.out.put #[.string ⟨#[]⟩, .int .i64 0, .slice none 0 0, .int .i64 0, .slice none 0 0] 25 cs hl5.symm)
  have HT4 := Lib.hid HP.out.1
  have HR5 := Lib.hid HP.out.2
  have HP5 := Lib.hid HPU.out.2
  have HUC4 := Lib.hid huc
  have HW3 : Hid (w.heap.size + 1 ≤ W3.heap.size) := Lib.hid (by have := HE3.out.lt; omega)
  have HB4 : Hid (Below w.heap.size w W4) := Lib.hid (ho.only.below HB3.out (fun i hi => Nat.le_of_succ_le (HLF.out i hi)) (Nat.le_refl _))
  have HE4 : Hid (EB W4 w.heap.size [.string ⟨#[]⟩, .int .i64 0, .slice none 0 0, .int .i64 0, .slice none 0 0]) := Lib.hid (HE3.out.of_block (ho.only.block _ HE3.out.lt (fun h => by have := HLF.out _ h; omega)) ho.only.size)
  clear ho huc hl5 hones HP HPU HRU HR3 HC3 HT HE2 HB2
  go_wp2_with (refine wpList_store_mid rfl 25 (.tmp 5) (.tmp 11) rfl W4.heap.size 0 cs.toArray rfl rfl HT4.out HUIA.out HONE.out ?_; generalize World.setCells _ _ _ _ = W5 at HR5 HP5 ⊢; have c5 := (HR5.out.fns (q := q) (rb := W2.heap.size) (by simp)).2.2.2)
  have HUC5 := Lib.hid (HUC4.out.later HP5.out.below)
  have HB5 : Hid (Below w.heap.size w W5) := Lib.hid (chain2 HB4.out HP5.out.below)
  have HE5 : Hid (EB W5 w.heap.size [.string ⟨#[]⟩, .int .i64 0, .slice none 0 0, .int .i64 0, .slice none 0 0]) := Lib.hid (HE4.out.of_block (HP5.out.below.block _ HE4.out.lt) HP5.out.below.size)
  have HX5 := Lib.hid (HR5.out.own _ (List.mem_cons_self ..)).1
  refine (shortR_any (s := s) (q := q) (N := W2.heap.size) W5 k1 b1 HR5.out.st).mono ?_
  rintro e W6 ⟨rfl, rfl⟩
  clear HR4 HR5 HP5 HT4 HUC4 HE3 HB3 c5
  have HZ := Lib.hid (HE5.out.set [.string ⟨#[]⟩, .int .i64 0, .slice none 0 0, .int .i64 0, .slice none 0 0] rfl)
  have HBZ : Hid (Below w.heap.size w (W5.setCells w.heap.size 0 ([.string ⟨#[]⟩, .int .i64 0, .slice none 0 0, .int .i64 0, .slice none 0 0] : List Value))) := Lib.hid (below_setCells HB5.out _ (Nat.le_refl _) _ _ _ HB5.out)
  have HZI : Hid ((Tryd.prog.info? 25).map (·.size) = some ([.string ⟨#[]⟩, .int .i64 0, .slice none 0 0, .int .i64 0, .slice none 0 0] : List Value).length) := Lib.hid (by kernel_rfl)
  have HRM : Hid (W5.there w.heap.size 0 ([.string ⟨#[]⟩, .int .i64 0, .slice none 0 0, .int .i64 0, .slice none 0 0] : List Value).toArray.size) := Lib.hid HE5.out.room
  cases b1 with
  | true =>
    have hnone : rdUn fixI s = none := by
      rcases HO.out.go rfl with ⟨-, e⟩ | ⟨e, -⟩
      · cases e
      · rwa [List.drop_zero] at e
    have hp : parseU fixI s = (Un.zero, 2) := by unfold parseU; rw [hnone]
    have HPP := Lib.hid hp
    clear HO hnone hp HUC5 HX5
    go_wp2_with (refine wpList_store_mid rfl 25 (.tmp 2) (.tmp 15) rfl w.heap.size 0 ([.string ⟨#[]⟩, .int .i64 0, .slice none 0 0, .int .i64 0, .slice none 0 0] : List Value).toArray rfl rfl HRM.out (by kernel_rfl) (by simp [Value.oneCell']) ?_; generalize World.setCells _ _ _ _ = W9 at HZ HBZ ⊢)
    refine bodyPost_ret (results_cell2 rfl _ _ rfl HZ.out.cells Tryd.underlying25 rfl HZI.out) rfl ?_
    rw [HPP.out]
    exact ⟨_, rfl, uct_zero _ _, HBZ.out⟩
  | false =>
    obtain ⟨t, hsome⟩ : ∃ t, rdUn fixI s = some (u, t) := by
      rcases HO.out.go rfl with ⟨e, -⟩ | ⟨-, e⟩
      · rw [List.drop_zero] at e; exact ⟨_, e⟩
      · cases e
    have hp : parseU fixI s = if unB u = true ∧ encUn u = s then (u, 0) else (Un.zero, 4) := by unfold parseU; rw [hsome]
    have UB0 := ubuild_any W5 HUC5.out.uc (all_smU fixI s u t hsome) (HFW.out.later HB5.out)
    have HBU : Hid (buildU u = if unB u then (encUn u, 0) else ([], 4)) := Lib.hid rfl
    cases hr : unB u with
    | false =>
      have hb4 : buildU u = ([], 4) := by rw [HBU.out, hr]; rfl
      rw [hb4] at UB0
      have UB : Hid (Calls Tryd.prog 10 #[.agg cs.toArray] W5 fun e w' => e = .returned (.tuple #[.string ⟨#[]⟩, .int .i64 4]) ∧ Below W5.heap.size W5 w') := Lib.hid UB0
      rw [hr, if_neg (by simp)] at hp
      have HPP := Lib.hid hp
      clear UB0 hp hr hb4 hsome HBU
      clear HZ HBZ HRM
      go_wp2_with (refine wpList_load_mid rfl 25 (.tmp 5) rfl W4.heap.size 0 rfl cs _ HX5.out.cells Tryd.underlying25 rfl HUI.out ?_)
      refine UB.out.mono ?_
      rintro e W6 ⟨rfl, hb⟩
      have HE6 := Lib.hid (HE5.out.of_block (hb.block _ HE5.out.lt) hb.size)
      have HB6 := Lib.hid (chain2 HB5.out hb)
      have HZ := Lib.hid (HE6.out.set [.string ⟨#[]⟩, .int .i64 0, .slice none 0 0, .int .i64 0, .slice none 0 0] rfl)
      have HBZ : Hid (Below w.heap.size w (W6.setCells w.heap.size 0 ([.string ⟨#[]⟩, .int .i64 0, .slice none 0 0, .int .i64 0, .slice none 0 0] : List Value))) := Lib.hid (below_setCells HB6.out _ (Nat.le_refl _) _ _ _ HB6.out)
      have HRM : Hid (W6.there w.heap.size 0 ([.string ⟨#[]⟩, .int .i64 0, .slice none 0 0, .int .i64 0, .slice none 0 0] : List Value).toArray.size) := Lib.hid HE6.out.room
      clear hb UB
      go_wp2_with (refine wpList_store_mid rfl 25 (.tmp 2) (.tmp 28) rfl w.heap.size 0 ([.string ⟨#[]⟩, .int .i64 0, .slice none 0 0, .int .i64 0, .slice none 0 0] : List Value).toArray rfl rfl HRM.out (by kernel_rfl) (by simp [Value.oneCell']) ?_; generalize World.setCells _ _ _ _ = W9 at HZ HBZ ⊢)
      refine bodyPost_ret (results_cell2 rfl _ _ rfl HZ.out.cells Tryd.underlying25 rfl HZI.out) rfl ?_
      rw [HPP.out]
      exact ⟨_, rfl, uct_zero _ _, HBZ.out⟩
    | true =>
      have hb4 : buildU u = (encUn u, 0) := by rw [HBU.out, hr]; rfl
      rw [hb4] at UB0
      have UB : Hid (Calls Tryd.prog 10 #[.agg cs.toArray] W5 fun e w' => e = .returned (.tuple #[.string (strOf (encUn u)), .int .i64 0]) ∧ Below W5.heap.size W5 w') := Lib.hid UB0
      have hcmp : ((strOf (encUn u)).toList == ss.toList) = decide (encUn u = s) := by rw [HSTR.out]; exact Lx.str_beq _ _
      by_cases he : encUn u = s
      · rw [hr, if_pos ⟨rfl, he⟩] at hp
        have HPP := Lib.hid hp
        rw [decide_eq_true he] at hcmp
        generalize strOf (encUn u) = es at *
        clear UB0 hp hr hb4 hsome HBU he HZ HBZ
        go_wp2_with (refine wpList_load_mid rfl 25 (.tmp 5) rfl W4.heap.size 0 rfl cs _ HX5.out.cells Tryd.underlying25 rfl HUI.out ?_)
        refine UB.out.mono ?_
        rintro e W6 ⟨rfl, hb⟩
        have HX6 := Lib.hid (HX5.out.of_block (hb.block _ HX5.out.lt) hb.size)
        have HE6 := Lib.hid (HE5.out.of_block (hb.block _ HE5.out.lt) hb.size)
        have HB6 := Lib.hid (chain2 HB5.out hb)
        have HUC6 := Lib.hid (HUC5.out.later hb)
        have HZ := Lib.hid (HE6.out.set cs (by rw [HL5.out]; rfl))
        have HRM6 : Hid (W6.there w.heap.size 0 cs.toArray.size) := Lib.hid (by have := HE6.out.room; rwa [show ([.string ⟨#[]⟩, .int .i64 0, .slice none 0 0, .int .i64 0, .slice none 0 0] : List Value).length = cs.toArray.size by simp [HL5.out]] at this)
        have HBZ : Hid (Below w.heap.size w (W6.setCells w.heap.size 0 cs)) := Lib.hid (below_setCells HB6.out _ (Nat.le_refl _) _ _ _ HB6.out)
        have HUC7 : Hid (UCT (fun g => w.heap.size ≤ g) (W6.setCells w.heap.size 0 cs) cs u) := Lib.hid ((HUC6.out.keep (keeps_all (g := w.heap.size) (vs := cs) (fun hx => by have h9 := HW3.out; have hx' : W3.heap.size ≤ w.heap.size := hx; omega))).weaken (fun g hg _ => by have h9 := HW3.out; have hg' : W3.heap.size ≤ g := hg; show w.heap.size ≤ g; omega))
        clear hb UB HX5 HE5 HB5 HUC5 HRM
        go_wp2_with (first
          | (refine wpList_load_mid rfl 25 (.tmp 5) rfl W4.heap.size 0 rfl cs _ HX6.out.cells Tryd.underlying25 rfl HUI.out ?_)
          | (refine wpList_store_mid rfl 25 (.tmp 2) (.tmp 29) rfl w.heap.size 0 cs.toArray rfl rfl HRM6.out HUIA.out HONE.out ?_; generalize World.setCells _ _ _ _ = W9 at HZ HBZ HUC7 ⊢))
        refine bodyPost_ret (results_cell2 rfl _ _ rfl HZ.out.cells Tryd.underlying25 rfl HUI.out) rfl ?_
        rw [HPP.out]
        exact ⟨cs, rfl, HUC7.out, HBZ.out⟩
      · rw [hr, if_neg (fun h => he h.2)] at hp
        have HPP := Lib.hid hp
        rw [decide_eq_false he] at hcmp
        generalize strOf (encUn u) = es at *
        clear UB0 hp hr hb4 hsome HBU he
        clear HZ HBZ HRM
        go_wp2_with (refine wpList_load_mid rfl 25 (.tmp 5) rfl W4.heap.size 0 rfl cs _ HX5.out.cells Tryd.underlying25 rfl HUI.out ?_)
        refine UB.out.mono ?_
        rintro e W6 ⟨rfl, hb⟩
        have HE6 := Lib.hid (HE5.out.of_block (hb.block _ HE5.out.lt) hb.size)
        have HB6 := Lib.hid (chain2 HB5.out hb)
        have HZ := Lib.hid (HE6.out.set [.string ⟨#[]⟩, .int .i64 0, .slice none 0 0, .int .i64 0, .slice none 0 0] rfl)
        have HBZ : Hid (Below w.heap.size w (W6.setCells w.heap.size 0 ([.string ⟨#[]⟩, .int .i64 0, .slice none 0 0, .int .i64 0, .slice none 0 0] : List Value))) := Lib.hid (below_setCells HB6.out _ (Nat.le_refl _) _ _ _ HB6.out)
        have HRM : Hid (W6.there w.heap.size 0 ([.string ⟨#[]⟩, .int .i64 0, .slice none 0 0, .int .i64 0, .slice none 0 0] : List Value).toArray.size) := Lib.hid HE6.out.room
        clear hb UB
        go_wp2_with (refine wpList_store_mid rfl 25 (.tmp 2) (.tmp 28) rfl w.heap.size 0 ([.string ⟨#[]⟩, .int .i64 0, .slice none 0 0, .int .i64 0, .slice none 0 0] : List Value).toArray rfl rfl HRM.out (by kernel_rfl) (by simp [Value.oneCell']) ?_; generalize World.setCells _ _ _ _ = W9 at HZ HBZ ⊢)
        refine bodyPost_ret (results_cell2 rfl _ _ rfl HZ.out.cells Tryd.underlying25 rfl HZI.out) rfl ?_
        rw [HPP.out]
        exact ⟨_, rfl, uct_zero _ _, HBZ.out⟩
theorem uparse_any (s : List UInt8) (w : World) (hs : s.length ≤ 1099511627776) (HF : HasF w) : Calls Tryd.prog 14 #[.string (strOf s)] w (ParseAny (parseU fixI s) w) :=
  (uparse_anyT s w hs HF).mono fun _e _W' ⟨cs, h1, h2, h3⟩ => ⟨cs, h1, h2.uc, h3⟩

end Go.Proofs.YtmloljfnnkfkjaaDoor.Im

