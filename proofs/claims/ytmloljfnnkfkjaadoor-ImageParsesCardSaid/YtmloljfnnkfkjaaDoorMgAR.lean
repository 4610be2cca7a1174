/- Readers, more: parts read one behind the other; the walk of the closure that reads an instruction, and of readInst, readCap, readUse. No condition but those that each states. -/
import Derived.Test.YtmloljfnnkfkjaaDoorMgAQ
namespace Go.Proofs.YtmloljfnnkfkjaaDoor.Im
open Go.RowKit Dk In

/-- What was read, the newest first. -/
inductive It where
  | n (K : Nat) (v : Int)
  | t (l : List UInt8)
inductive Seqs (s : List UInt8) (k0 : Nat) (b0 : Bool) : List It → Nat → Bool → Prop
  | nil : k0 ≤ s.length → Seqs s k0 b0 [] k0 b0
  | num {l : List It} {k k' K : Nat} {b b' : Bool} {v : Int} : Seqs s k0 b0 l k b → Out (rdN K) s k b v k' b' → Seqs s k0 b0 (.n K v :: l) k' b'
  | txt {l : List It} {k k' : Nat} {b b' : Bool} {v : List UInt8} : Seqs s k0 b0 l k b → Out rdT s k b v k' b' → Seqs s k0 b0 (.t v :: l) k' b'
section
variable {Q : Rdr} {s : List UInt8} {w W W' : World} {L : List (Nat × List Value)} {k k' k0 : Nat} {b b' b0 : Bool} {it : List It}
theorem RW.put (h : RW Q s w W L k b) (zc : Array Value) (t : TypeId) (pc : List Value) (hl : zc.size = pc.length) :
    (W.alloc (.cells zc t)).there W.heap.size 0 pc.toArray.size ∧ RW Q s w ((W.alloc (.cells zc t)).setCells W.heap.size 0 pc.toArray.toList) ((W.heap.size, pc) :: L) k b := by
  have h1 := h.alloc zc.toList t
  have e : zc.toList.toArray = zc := rfl
  rw [e] at h1
  refine ⟨?_, ?_⟩
  · have := (h1.own _ (List.mem_cons_self ..)).1.room
    have e2 : zc.toList.length = pc.toArray.size := by simp [hl]
    rwa [e2] at this
  · exact h1.set pc.toArray.toList (by simp [hl])
theorem RW.stored {g : Nat} {c : List Value} (h : RW Q s w W ((g, c) :: L) k b) (pc : List Value) (hl : pc.length = c.length) :
    W.there g 0 pc.toArray.size ∧ RW Q s w (W.setCells g 0 pc.toArray.toList) ((g, pc) :: L) k b := by
  refine ⟨?_, h.set pc.toArray.toList (by simpa using hl)⟩
  have := (h.own _ (List.mem_cons_self ..)).1.room
  rwa [← hl] at this
/-- .. and what was read since. -/
structure RS (Q : Rdr) (s : List UInt8) (k0 : Nat) (b0 : Bool) (w W : World) (L : List (Nat × List Value)) (it : List It) (k : Nat) (b : Bool) : Prop where
  rw : RW Q s w W L k b
  sq : Seqs s k0 b0 it k b
theorem RS.drew (h : RS Q s k0 b0 w W L it k b) : RS Q s k0 b0 w W.drew L it k b := ⟨h.rw.drew, h.sq⟩
theorem RS.num {K : Nat} {e : Ending} {v : Value} {n : Int} (h : RS Q s k0 b0 w W L it k b) (ho : RdOk Q s (rdN K) intR W k b e W' v n k' b') : RS Q s k0 b0 w W' L (.n K n :: it) k' b' := ⟨h.rw.ok ho, h.sq.num ho.out⟩
theorem RS.txt {e : Ending} {v : Value} {l : List UInt8} (h : RS Q s k0 b0 w W L it k b) (ho : RdOk Q s rdT strR W k b e W' v l k' b') : RS Q s k0 b0 w W' L (.t l :: it) k' b' := ⟨h.rw.ok ho, h.sq.txt ho.out⟩
theorem RS.alloc (h : RS Q s k0 b0 w W L it k b) (cs : List Value) (t : TypeId) : RS Q s k0 b0 w (W.alloc (.cells cs.toArray t)) ((W.heap.size, cs) :: L) it k b := ⟨h.rw.alloc cs t, h.sq⟩
end

/-- A result that lies in a cell of its own. -/
theorem results_cell1 {P : Program} {fn : Func} {t : Tmp} {ty : TypeId} {d : TypeDesc} {cs : List Value} {b : Nat} (h : fn.results = #[.cell t ty]) (tmps : Array Value) (w : World) (ht : tmps.getD t undef = .pointer (some ⟨b, 0, none⟩)) (hc : w.rangeAt b 0 cs)
    (hu : P.underlying ty = some d) (hd : d.isRow = true) (hi : (P.info? ty).map (·.size) = some cs.length) : (results fn tmps).run P w = .ok (.agg cs.toArray) w := by
  have hl := run_loadVar_mid (P := P) w b 0 ty cs d hc hu hd hi
  simp only [Array.getD_eq_getD_getElem?] at ht
  simp [results, h, ht, hl, asAddr]

/-- The program's reader as a value. -/
def rdC (q : Rq) : List Value := [.func (.func 70) #[] #[ptr q.bs, ptr q.ba, ptr q.bv], .func (.func 72) #[] #[ptr q.bs, ptr q.ba, ptr q.bv], .func (.func 74) #[] #[ptr q.bs, ptr q.ba, ptr q.bv], .func (.func 76) #[] #[ptr q.bh]]
theorem enters_r2 : Enters 70 := fun a W => by kernel_rfl
theorem enters_r3 : Enters 72 := fun a W => by kernel_rfl
theorem enters_r4 : Enters 74 := fun a W => by kernel_rfl
theorem enters_r5 : Enters 76 := fun a W => by kernel_rfl

section
variable {s : List UInt8} {q : Rq} {N : Nat} (hN : q.ba < N ∧ q.bh < N)
theorem numR {K : Nat} (hK : wideB (K : Int) = true) (W : World) (k : Nat) (b : Bool) (hk : k ≤ s.length) (h : (pRdr s q N hN).St W k b) :
    Calls Tryd.prog 70 #[.int .i64 (K : Int), ptr q.bs, ptr q.ba, ptr q.bv] W fun e W' => ∃ n k' b', e = .returned (.int .i64 n) ∧ RdOk (pRdr s q N hN) s (rdN K) intR W k b e W' (.int .i64 n) n k' b' :=
  (numR_any hN K hK W k b hk h).mono fun e W' ⟨v, n, k', b', ho⟩ => by
    have e1 : v = .int .i64 n := ho.rep
    subst e1
    exact ⟨n, k', b', ho.ret, ho⟩
theorem textR (W : World) (k : Nat) (b : Bool) (hk : k ≤ s.length) (h : (pRdr s q N hN).St W k b) :
    Calls Tryd.prog 72 #[ptr q.bs, ptr q.ba, ptr q.bv] W fun e W' => ∃ l k' b', e = .returned (.string (strOf l)) ∧ RdOk (pRdr s q N hN) s rdT strR W k b e W' (.string (strOf l)) l k' b' :=
  (textR_any hN W k b hk h).mono fun e W' ⟨v, n, k', b', ho⟩ => by
    have e1 : v = .string (strOf n) := ho.rep
    subst e1
    exact ⟨n, k', b', ho.ret, ho⟩
end
set_option maxHeartbeats 2000000 in
set_option maxRecDepth 100000 in
/-- An instruction, as the reader reads it. -/
theorem instR {s : List UInt8} {q : Rq} {N : Nat} (hN : q.ba < N ∧ q.bh < N) (W : World) (k : Nat) (b : Bool) (hk : k ≤ s.length) (h : RD s q N W k b) (HF : HasF W) :
    Calls Tryd.prog 74 #[ptr q.bs, ptr q.ba, ptr q.bv] W fun e W' => ∃ (x : Ix) (k' : Nat) (b' : Bool), e = .returned (.agg x.cells.toArray) ∧ RdOk (pRdr s q N hN) s (rdI fixI) (elR Ix.cells) W k b e W' (.agg x.cells.toArray) x k' b' := by
  have hcall := enters_adv
  unfold Enters at hcall
  have hlen := h.len
  obtain ⟨W1, hW1⟩ : ∃ W1, W1 = W.alloc (.cells #[.int .i64 0, .int .i64 0, .int .i64 0, .int .i64 0] 89) := ⟨_, rfl⟩
  have HR0 : RW (pRdr s q N hN) s W W [] k b := RW.new (Q := pRdr s q N hN) h hk
  have HR1 : Hid (RW (pRdr s q N hN) s W W1 [(W.heap.size, [.int .i64 0, .int .i64 0, .int .i64 0, .int .i64 0])] k b) := Lib.hid (by rw [hW1]; exact HR0.alloc [.int .i64 0, .int .i64 0, .int .i64 0, .int .i64 0] _)
  have HB1 : Below W.heap.size W W1 := by rw [hW1]; exact (Below.refl _ _).alloc (Nat.le_refl _) _
  have hW2 := hW1.symm
  obtain ⟨x, er, her, k', b', hp, hout, hadv⟩ : ∃ (x : Ix) (er x2 : Int) (k' : Nat) (b' : Bool), parseL s (k : Int) = (x, er) ∧ Out (rdI fixI) s k b x k' b' ∧
      (∀ W2, RD s q N W2 k b → Calls Tryd.prog 69 #[.int .i64 ((k : Int) + 4), .int .i64 er, ptr q.bh, ptr q.ba] W2 fun e W' => e = .returned (.tuple #[]) ∧ RD s q N W' k' b' ∧ Only (rF q) W2 W') := by
    by_cases hf : k + 4 ≤ s.length
    · obtain ⟨er, he, hp⟩ := parse_fix hf
      refine ⟨_, er, 0, k + 4, b, hp, ⟨hf, fun hb => .inl ⟨?_, hb⟩, fun hb => hb⟩, fun W2 h2 => ?_⟩
      · unfold rdI
        rw [if_neg (by rw [List.length_drop]; omega), List.drop_drop]
      · have := adv_ok h2 (k + 4) er he
        rwa [show ((k + 4 : Nat) : Int) = (k : Int) + 4 by omega] at this
    · refine ⟨Ix.zero, 2, 0, k, true, ?_, ⟨hk, fun hb => .inr ⟨?_, rfl⟩, fun _ => rfl⟩, fun W2 h2 => adv_no h2 _⟩
      · unfold parseL
        rw [if_neg (by omega), if_pos (by omega)]
      · unfold rdI
        rw [if_pos (by rw [List.length_drop]; omega)]
  have PA0 := parse_any s (k : Int) W1 (HF.later HB1) (by omega) (by omega)
  rw [hp] at PA0
  have PA : Hid (Calls Tryd.prog 75 #[.string (strOf s), .int .i64 (k : Int)] W1 fun e w' => e = .returned (.tuple #[.agg x.cells.toArray, .int .i64 er]) ∧ Below W1.heap.size W1 w') := Lib.hid PA0
  have AD := Lib.hid hadv
  have HOUT := Lib.hid hout
  have cs1 := ((pRdr s q N hN).later h HB1 : RD s q N W1 k b).cs
  have ca1 := ((pRdr s q N hN).later h HB1 : RD s q N W1 k b).ca
  have y0 : IntKind.i64.wrap ((k : Int) + 4) = (k : Int) + 4 := IntWalk.i64_in _ (by omega)
  have HI := Lib.hid (i_info x)
  have HIA := Lib.hid (i_infoA x)
  have HO := Lib.hid (i_all x)
  have HL := Lib.hid (show x.cells.length = 4 from rfl)
  have HFIN : Hid (∀ W9 L, RW (pRdr s q N hN) s W W9 L k' b' → RdOk (pRdr s q N hN) s (rdI fixI) (elR Ix.cells) W k b (.returned (.agg x.cells.toArray)) W9 (.agg x.cells.toArray) x k' b') := Lib.hid (fun W9 L hr => ⟨rfl, rfl, HOUT.out, hr.st, hr.only⟩)
  have HFEX : Hid (∀ W9 L, RW (pRdr s q N hN) s W W9 L k' b' → ∃ (x' : Ix) (k' : Nat) (b' : Bool), Ending.returned (.agg x.cells.toArray) = .returned (.agg x'.cells.toArray) ∧ RdOk (pRdr s q N hN) s (rdI fixI) (elR Ix.cells) W k b (.returned (.agg x.cells.toArray)) W9 (.agg x'.cells.toArray) x' k' b') := Lib.hid (fun W9 L hr => ⟨x, k', b', rfl, HFIN.out W9 L hr⟩)
  clear hW1 HR0 HF hp hout hadv PA0 HB1 HFIN
  generalize strOf s = ss at *
  generalize x.cells = pc at HI HIA HO HL PA HFEX
  go_enter Tryd.func74, Tryd.ntmps74
  go_wp2_with fail
  refine PA.out.mono ?_
  rintro e W2 ⟨rfl, hb⟩
  have HR2 := Lib.hid (HR1.out.below hb)
  have HP := Lib.hid (HR2.out.put #[.int .i64 0, .int .i64 0, .int .i64 0, .int .i64 0] 89 pc HL.out.symm)
  have HT1 := Lib.hid HP.out.1
  have HP2 := Lib.hid HP.out.2
  clear hb PA HR1 HR2 HP cs1 ca1
  go_wp2_with (refine wpList_store_mid rfl 89 (.tmp 4) (.tmp 10) rfl W2.heap.size 0 pc.toArray rfl rfl HT1.out HIA.out HO.out ?_; generalize World.setCells _ _ _ _ = W3 at HP2 ⊢; have cv3 := (show RD s q N W3 k b from HP2.out.st).cv; have ca3 := (show RD s q N W3 k b from HP2.out.st).ca)
  refine (AD.out _ HP2.out.st).mono ?_
  rintro e W4 ⟨rfl, hr, ho⟩
  have HR4 := Lib.hid (HP2.out.call (Q := pRdr s q N hN) (k' := k') (b' := b') hr (by exact HOUT.out.le) ho)
  have HC4 := Lib.hid (HR4.out.own _ (List.mem_cons_self ..)).1
  have HP5 := Lib.hid (HR4.out.swap.stored pc HL.out)
  have HT5 := Lib.hid HP5.out.1
  have HP6 := Lib.hid HP5.out.2
  clear hr ho HP2 HP5 AD HT1 cv3 ca3
  go_wp2_with (first
    | (refine wpList_load_mid rfl 89 (.tmp 4) rfl W2.heap.size 0 rfl pc _ HC4.out.cells Tryd.underlying89 rfl HI.out ?_)
    | (refine wpList_store_mid rfl 89 (.tmp 3) (.tmp 17) rfl W.heap.size 0 pc.toArray rfl rfl HT5.out HIA.out HO.out ?_; generalize World.setCells _ _ _ _ = W5 at HP6 ⊢))
  have HC6 := Lib.hid (HP6.out.own _ (List.mem_cons_self ..)).1
  refine bodyPost_ret (results_cell1 rfl _ _ rfl HC6.out.cells Tryd.underlying89 rfl HI.out) rfl ?_
  exact HFEX.out _ _ HP6.out

end Go.Proofs.YtmloljfnnkfkjaaDoor.Im

