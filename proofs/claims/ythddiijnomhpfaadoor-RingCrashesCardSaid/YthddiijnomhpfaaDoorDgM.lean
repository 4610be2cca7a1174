/- The walk of Copy, Sum and Len: their contracts. No condition but those that each states. -/
import Derived.Test.YthddiijnomhpfaaDoorDgL
namespace Go.Proofs.YthddiijnomhpfaaDoor
open Go.RowKit

theorem yieldsIf_load_int {P : Program} {ops : Array Oper} {S : World → Prop} {op : Oper} {a : Act} (hw : Region.wanted op (yielded ops a.tmps) = true) (ty : TypeId) (k : IntKind) (x : Operand) (ho : op.op = .load ty x)
    (ad : Addr) (hx : a.eval x = .pointer (some ad)) (n : Int) (hS : ∀ w, S w → w.cell? ad = some (.int k n))
    (hu : P.underlying ty = some (.int k)) : YieldsIf P ops S op (.int k n) a :=
  .inl ⟨hw, fun w hw' => by
    have hc := hS w hw'
    have hl : (loadVar ty ad).run P w = .ok (.int k n) w := by simp [loadVar, isAgg, run_underlying hu, hc, go_sem]
    unfold execOp
    simp only [ho, hx, Instr.loadAt, Instr.sureAddr, Sem.run_bind, Sem.run_pure, Result.andThen_ok, hl]⟩

theorem held_rest_at {P : Program} {md : Region.Mode} {ops : Array Oper} {Q : Exit → Act → World → Prop} (n fuel : Nat) (b : Act) {listed : Array Bool} {a : Act} {w : World} (hab : a = b) (hn : (ops.toList.drop n).length = fuel)
    (hq : Region.seqB md ops (ops.toList.drop n).length n listed = true) (h : wpList P ops Q (ops.toList.drop n) b w) : wpAnyH P md ops Q (fun _ => True) fuel listed a w := by
  subst hab
  exact held_rest n fuel hn hq h

/-- What is stored into a new Hash makes it a Hash of the text. -/
theorem copied {W : World} {g : Nat} {S : R8} {L l : List UInt8} (hN : HashAt W g []) (hS : S = absorb l (l.length / 64)) (hL1 : L.length = 64) (hL3 : L.take (l.length % 64) = l.drop (64 * (l.length / 64))) :
    W.there g 1 (r8v S).toArray.size ∧ (W.setCells g 1 (r8v S)).there g 9 (bv L).toArray.size ∧
    ((W.setCells g 1 (r8v S)).setCells g 9 (bv L)).cell? ⟨g, 73, none⟩ = some (.int .i64 0) ∧ ((W.setCells g 1 (r8v S)).setCells g 9 (bv L)).frozen? ⟨g, 73, none⟩ = false ∧
    HashAt (((W.setCells g 1 (r8v S)).setCells g 9 (bv L)).setCell ⟨g, 73, none⟩ (.int .i64 (l.length : Int))) g l := by
  have hbl : (bv L).length = 64 := by simp [bv, hL1]
  have h8 : (r8v S).length = 8 := rfl
  have hr := hN.room
  have t1 : W.there g 1 (r8v S).length := fun j hj => by
    have := hr (1 + j) (by rw [h8] at hj; omega)
    rwa [Nat.zero_add] at this
  have t9 : (W.setCells g 1 (r8v S)).there g 9 (bv L).length := World.there_setCells (fun j hj => by
    have := hr (9 + j) (by rw [hbl] at hj; omega)
    rwa [Nat.zero_add] at this) _ _ _
  have e1 : ((W.setCells g 1 (r8v S)).setCells g 9 (bv L)).cell? ⟨g, 73, none⟩ = some (.int .i64 0) := by
    rw [World.cell?_setCells_out _ _ _ _ _ (fun _ _ => Or.inr (by rw [hbl]; simp)), World.cell?_setCells_out _ _ _ _ _ (fun _ _ => Or.inr (by rw [h8]; simp))]; exact hN.size
  have f1 : ((W.setCells g 1 (r8v S)).setCells g 9 (bv L)).frozen? ⟨g, 73, none⟩ = false := by
    rw [World.frozen?_setCells, World.frozen?_setCells]
    have := (hr 73 (by decide)).2
    rwa [Nat.zero_add] at this
  refine ⟨t1, t9, e1, f1, hN.pos, ?_, there_setCell (World.there_setCells (World.there_setCells hr _ _ _) _ _ _) _ _, ?_, ?_, ⟨L, hL1, ?_, hL3⟩, World.cell?_setCell_same _ _ _ e1⟩
  · have := size_setCells g (r8v S) 1 W
    have := size_setCells g (bv L) 9 (W.setCells g 1 (r8v S))
    have := hN.lt
    simp; omega
  · rw [World.cell?_setCell_other _ _ _ _ (by intro e; simp at e), World.cell?_setCells_out _ _ _ _ _ (fun _ _ => Or.inl (by simp)), World.cell?_setCells_out _ _ _ _ _ (fun _ _ => Or.inl (by simp))]
    exact hN.self
  · rw [← hS]
    exact rangeAt_setCell (World.rangeAt_setCells_apart (World.rangeAt_setCells_same _ _ _ _ t1) g 9 (bv L) (Or.inr (Or.inl (by rw [h8]; omega)))) 73 _ (Or.inr (by rw [h8]; omega))
  · exact rangeAt_setCell (World.rangeAt_setCells_same _ _ _ _ t9) 73 _ (Or.inr (by rw [hbl]; omega))

set_option maxHeartbeats 2000000 in
set_option maxRecDepth 100000 in
theorem copy_hash (l : List UInt8) (g : Nat) (w : World) (hH : HashAt w g l) :
    Calls Tryd.prog 9 #[.pointer (some ⟨g, 0, none⟩)] w fun e w' => e = .returned (.pointer (some ⟨w.heap.size, 0, none⟩)) ∧ HashAt w' w.heap.size l ∧ Below w.heap.size w w' ∧ w.heap.size < w'.heap.size := by
  have HH := Lib.hid hH
  have h0 : 0 < w.heap.size := Nat.lt_of_le_of_lt (Nat.zero_le _) hH.lt
  obtain ⟨S, hS⟩ : ∃ S, S = absorb l (l.length / 64) := ⟨_, rfl⟩
  obtain ⟨L, hL1, hL2, hL3⟩ := hH.last
  clear hH
  go_enter Tryd.func9, Tryd.ntmps9
  go_wp2_with (go_at_call 35; refine (isValid_yes _ _ HH.out.self).mono ?_; rintro e w' ⟨rfl, rfl⟩)
  go_wp2_with fail
  refine (new_any _ h0).mono ?_
  rintro e w1 ⟨rfl, hN, hb1, hlt1⟩
  go_wp2
  have hH1 : HashAt w1 g l := HH.out.later hb1 HH.out.lt
  have HR1 : Hid (w1.drew.rangeAt g 1 (r8v S)) := Lib.hid (by rw [hS]; exact hH1.words)
  have HR9 : Hid (w1.drew.rangeAt g 9 (bv L)) := Lib.hid (fun j v hv => (hb1.cell (p := ⟨g, 9 + j, none⟩) HH.out.lt).trans (hL2 j v hv))
  have HS : Hid (w1.drew.cell? ⟨g, 73, none⟩ = some (.int .i64 (l.length : Int))) := Lib.hid hH1.size
  have hbl : (bv L).length = 64 := by simp [bv, hL1]
  have HI36 : Hid ((Tryd.prog.info? 25).map (·.size) = some (bv L).length) := Lib.hid (by rw [hbl]; exact size64b)
  have HONE : Hid ((r8v S).toArray.all (·.oneCell') = true) := Lib.hid (all_oneCell_toArray (r8v_one _))
  have HTWO : Hid ((bv L).toArray.all (·.oneCell') = true) := Lib.hid (all_oneCell_toArray (bv_one _))
  have hN' : HashAt w1.drew w.heap.size [] := hN.of_block rfl (Nat.le_refl _)
  obtain ⟨c1, c2, c3, c4, c5⟩ := copied hN' hS hL1 hL3
  have HT1 := Lib.hid c1
  have HT9 := Lib.hid c2
  have HE := Lib.hid c3
  have HF := Lib.hid c4
  have HFIN := Lib.hid c5
  have HBEL : Hid (Below w.heap.size w ((((w1.drew.setCells w.heap.size 1 (r8v S)).setCells w.heap.size 9 (bv L))).setCell ⟨w.heap.size, 73, none⟩ (.int .i64 (l.length : Int)))) := Lib.hid (by
    have h1 : Below w.heap.size w w1.drew := hb1.drew
    exact (below_setCells h1 _ (Nat.le_refl _) _ _ _ (below_setCells h1 _ (Nat.le_refl _) _ _ _ h1)).setCell (Nat.le_refl _) _)
  have HLT := Lib.hid HFIN.out.lt
  clear hN' c1 c2 c3 c4 c5
  clear hN hb1 hlt1 hH1 hbl hL1 hL2 hL3 hS
  refine wp_region_noPanic (wp_region_held (S := fun _ => True) (by kernel_rfl) ?_)
  refine wpAnyH_take (i := 0) (v := .pointer (some ⟨w.heap.size, 0, none⟩)) rfl (by kernel_rfl) (by kernel_rfl) (by kernel_rfl) (fun _ _ _ h => h) (.inl ⟨by kernel_rfl, fun _ _ => by kernel_rfl⟩) trivial ?_
  refine wpAnyH_take (i := 1) (v := .pointer (some ⟨w.heap.size, 0, none⟩)) rfl (by kernel_rfl) (by kernel_rfl) (by kernel_rfl) (fun _ _ _ h => h) (.inl ⟨by kernel_rfl, fun _ _ => by kernel_rfl⟩) trivial ?_
  refine wpAnyH_take (i := 2) (v := .pointer (some ⟨w.heap.size, 0, none⟩)) rfl (by kernel_rfl) (by kernel_rfl) (by kernel_rfl) (fun _ _ _ h => h) (.inl ⟨by kernel_rfl, fun _ _ => by kernel_rfl⟩) trivial ?_
  refine wpAnyH_take (i := 3) (v := .pointer (some ⟨g, 0, none⟩)) rfl (by kernel_rfl) (by kernel_rfl) (by kernel_rfl) (fun _ _ _ h => h) (.inl ⟨by kernel_rfl, fun _ _ => by kernel_rfl⟩) trivial ?_
  refine wpAnyH_take (i := 4) (v := .pointer (some ⟨g, 0, none⟩)) rfl (by kernel_rfl) (by kernel_rfl) (by kernel_rfl) (fun _ _ _ h => h) (.inl ⟨by kernel_rfl, fun _ _ => by kernel_rfl⟩) trivial ?_
  refine wpAnyH_take (i := 5) (v := .pointer (some ⟨g, 1, none⟩)) rfl (by kernel_rfl) (by kernel_rfl) (by kernel_rfl) (fun _ _ _ h => h) (.inl ⟨by kernel_rfl, fun _ _ => by kernel_rfl⟩) trivial ?_
  refine wpAnyH_take (i := 7) (v := .pointer (some ⟨g, 0, none⟩)) rfl (by kernel_rfl) (by kernel_rfl) (by kernel_rfl) (fun _ _ _ h => h) (.inl ⟨by kernel_rfl, fun _ _ => by kernel_rfl⟩) trivial ?_
  refine wpAnyH_take (i := 8) (v := .pointer (some ⟨g, 0, none⟩)) rfl (by kernel_rfl) (by kernel_rfl) (by kernel_rfl) (fun _ _ _ h => h) (.inl ⟨by kernel_rfl, fun _ _ => by kernel_rfl⟩) trivial ?_
  refine wpAnyH_take (i := 9) (v := .pointer (some ⟨g, 9, none⟩)) rfl (by kernel_rfl) (by kernel_rfl) (by kernel_rfl) (fun _ _ _ h => h) (.inl ⟨by kernel_rfl, fun _ _ => by kernel_rfl⟩) trivial ?_
  refine wpAnyH_take (i := 11) (v := .pointer (some ⟨g, 0, none⟩)) rfl (by kernel_rfl) (by kernel_rfl) (by kernel_rfl) (fun _ _ _ h => h) (.inl ⟨by kernel_rfl, fun _ _ => by kernel_rfl⟩) trivial ?_
  refine wpAnyH_take (i := 12) (v := .pointer (some ⟨g, 0, none⟩)) rfl (by kernel_rfl) (by kernel_rfl) (by kernel_rfl) (fun _ _ _ h => h) (.inl ⟨by kernel_rfl, fun _ _ => by kernel_rfl⟩) trivial ?_
  refine wpAnyH_take (i := 13) (v := .pointer (some ⟨g, 73, none⟩)) rfl (by kernel_rfl) (by kernel_rfl) (by kernel_rfl) (fun _ _ _ h => h) (.inl ⟨by kernel_rfl, fun _ _ => by kernel_rfl⟩) trivial ?_
  refine wpAnyH_all (rs := [6, 10, 14]) (by kernel_rfl) (by decide) ?_
  intro i hi
  rcases (show i = 6 ∨ i = 10 ∨ i = 14 by simpa using hi) with rfl | rfl | rfl
  all_goals clear hi
  · refine YieldsIf.wpOp (S := fun w' => w' = w1.drew) rfl (yieldsIf_load_mid (S := fun w' => w' = w1.drew) (by kernel_rfl) 24 (.tmp 13) (by kernel_rfl) g 1 (by kernel_rfl) (r8v S) _ (fun w' hw => by rw [hw]; exact HR1.out) Tryd.underlying24 rfl size8w) rfl ⟨trivial, ?_⟩
    refine wpAnyH_all (rs := [10, 14]) (by kernel_rfl) (by decide) ?_
    intro i hi
    rcases (show i = 10 ∨ i = 14 by simpa using hi) with rfl | rfl
    all_goals clear hi
    · refine YieldsIf.wpOp (S := fun w' => w' = w1.drew) rfl (yieldsIf_load_mid (S := fun w' => w' = w1.drew) (by kernel_rfl) 25 (.tmp 17) (by kernel_rfl) g 9 (by kernel_rfl) (bv L) _ (fun w' hw => by rw [hw]; exact HR9.out) Tryd.underlying25 rfl HI36.out) rfl ⟨trivial, ?_⟩
      refine wpAnyH_all (rs := [14]) (by kernel_rfl) (by decide) ?_
      intro i hi
      obtain rfl : i = 14 := by simpa using hi
      clear hi
      refine YieldsIf.wpOp (S := fun w' => w' = w1.drew) rfl (yieldsIf_load_int (S := fun w' => w' = w1.drew) (by kernel_rfl) 3 .i64 (.tmp 21) (by kernel_rfl) ⟨g, 73, none⟩ (by kernel_rfl) (l.length : Int) (fun w' hw => by rw [hw]; exact HS.out) Tryd.underlying3) rfl ⟨trivial, ?_⟩
      refine held_rest_at 15 _ ⟨#[.pointer (some ⟨g, 0, none⟩), undef, .pointer none, .pointer (some ⟨w.heap.size, 0, none⟩), .pointer (some ⟨g, 0, none⟩), .bool true, .bool false, .pointer (some ⟨w.heap.size, 0, none⟩), .pointer (some ⟨w.heap.size, 0, none⟩), .pointer (some ⟨w.heap.size, 0, none⟩), .pointer (some ⟨w.heap.size, 0, none⟩), .pointer (some ⟨g, 0, none⟩), .pointer (some ⟨g, 0, none⟩), .pointer (some ⟨g, 1, none⟩), .agg (r8v S).toArray, .pointer (some ⟨g, 0, none⟩), .pointer (some ⟨g, 0, none⟩), .pointer (some ⟨g, 9, none⟩), .agg (bv L).toArray, .pointer (some ⟨g, 0, none⟩), .pointer (some ⟨g, 0, none⟩), .pointer (some ⟨g, 73, none⟩), .int .i64 (l.length : Int), undef, undef, undef, undef, undef, undef, undef], []⟩ (by kernel_rfl) (by kernel_rfl) (by kernel_rfl) ?_
      simp only [List.drop_succ_cons, List.drop_zero]
      go_wp2_with (first
        | (refine wpList_store_mid rfl 24 _ _ rfl w.heap.size 1 (r8v S).toArray rfl rfl ?_ size8w HONE.out ?_; exact HT1.out)
        | (refine wpList_store_mid rfl 25 _ _ rfl w.heap.size 9 (bv L).toArray rfl rfl ?_ HI36.out HTWO.out ?_; exact HT9.out; have e73 := HE.out; have f73 := HF.out))
      refine NoPanic.normal ?_
      clear e73 f73
      go_wp2
      go_ret
      exact ⟨rfl, HFIN.out, HBEL.out, HLT.out⟩
    · refine YieldsIf.wpOp (S := fun w' => w' = w1.drew) rfl (yieldsIf_load_int (S := fun w' => w' = w1.drew) (by kernel_rfl) 3 .i64 (.tmp 21) (by kernel_rfl) ⟨g, 73, none⟩ (by kernel_rfl) (l.length : Int) (fun w' hw => by rw [hw]; exact HS.out) Tryd.underlying3) rfl ⟨trivial, ?_⟩
      refine wpAnyH_all (rs := [10]) (by kernel_rfl) (by decide) ?_
      intro i hi
      obtain rfl : i = 10 := by simpa using hi
      clear hi
      refine YieldsIf.wpOp (S := fun w' => w' = w1.drew) rfl (yieldsIf_load_mid (S := fun w' => w' = w1.drew) (by kernel_rfl) 25 (.tmp 17) (by kernel_rfl) g 9 (by kernel_rfl) (bv L) _ (fun w' hw => by rw [hw]; exact HR9.out) Tryd.underlying25 rfl HI36.out) rfl ⟨trivial, ?_⟩
      refine held_rest_at 15 _ ⟨#[.pointer (some ⟨g, 0, none⟩), undef, .pointer none, .pointer (some ⟨w.heap.size, 0, none⟩), .pointer (some ⟨g, 0, none⟩), .bool true, .bool false, .pointer (some ⟨w.heap.size, 0, none⟩), .pointer (some ⟨w.heap.size, 0, none⟩), .pointer (some ⟨w.heap.size, 0, none⟩), .pointer (some ⟨w.heap.size, 0, none⟩), .pointer (some ⟨g, 0, none⟩), .pointer (some ⟨g, 0, none⟩), .pointer (some ⟨g, 1, none⟩), .agg (r8v S).toArray, .pointer (some ⟨g, 0, none⟩), .pointer (some ⟨g, 0, none⟩), .pointer (some ⟨g, 9, none⟩), .agg (bv L).toArray, .pointer (some ⟨g, 0, none⟩), .pointer (some ⟨g, 0, none⟩), .pointer (some ⟨g, 73, none⟩), .int .i64 (l.length : Int), undef, undef, undef, undef, undef, undef, undef], []⟩ (by kernel_rfl) (by kernel_rfl) (by kernel_rfl) ?_
      simp only [List.drop_succ_cons, List.drop_zero]
      go_wp2_with (first
        | (refine wpList_store_mid rfl 24 _ _ rfl w.heap.size 1 (r8v S).toArray rfl rfl ?_ size8w HONE.out ?_; exact HT1.out)
        | (refine wpList_store_mid rfl 25 _ _ rfl w.heap.size 9 (bv L).toArray rfl rfl ?_ HI36.out HTWO.out ?_; exact HT9.out; have e73 := HE.out; have f73 := HF.out))
      refine NoPanic.normal ?_
      clear e73 f73
      go_wp2
      go_ret
      exact ⟨rfl, HFIN.out, HBEL.out, HLT.out⟩
  · refine YieldsIf.wpOp (S := fun w' => w' = w1.drew) rfl (yieldsIf_load_mid (S := fun w' => w' = w1.drew) (by kernel_rfl) 25 (.tmp 17) (by kernel_rfl) g 9 (by kernel_rfl) (bv L) _ (fun w' hw => by rw [hw]; exact HR9.out) Tryd.underlying25 rfl HI36.out) rfl ⟨trivial, ?_⟩
    refine wpAnyH_all (rs := [6, 14]) (by kernel_rfl) (by decide) ?_
    intro i hi
    rcases (show i = 6 ∨ i = 14 by simpa using hi) with rfl | rfl
    all_goals clear hi
    · refine YieldsIf.wpOp (S := fun w' => w' = w1.drew) rfl (yieldsIf_load_mid (S := fun w' => w' = w1.drew) (by kernel_rfl) 24 (.tmp 13) (by kernel_rfl) g 1 (by kernel_rfl) (r8v S) _ (fun w' hw => by rw [hw]; exact HR1.out) Tryd.underlying24 rfl size8w) rfl ⟨trivial, ?_⟩
      refine wpAnyH_all (rs := [14]) (by kernel_rfl) (by decide) ?_
      intro i hi
      obtain rfl : i = 14 := by simpa using hi
      clear hi
      refine YieldsIf.wpOp (S := fun w' => w' = w1.drew) rfl (yieldsIf_load_int (S := fun w' => w' = w1.drew) (by kernel_rfl) 3 .i64 (.tmp 21) (by kernel_rfl) ⟨g, 73, none⟩ (by kernel_rfl) (l.length : Int) (fun w' hw => by rw [hw]; exact HS.out) Tryd.underlying3) rfl ⟨trivial, ?_⟩
      refine held_rest_at 15 _ ⟨#[.pointer (some ⟨g, 0, none⟩), undef, .pointer none, .pointer (some ⟨w.heap.size, 0, none⟩), .pointer (some ⟨g, 0, none⟩), .bool true, .bool false, .pointer (some ⟨w.heap.size, 0, none⟩), .pointer (some ⟨w.heap.size, 0, none⟩), .pointer (some ⟨w.heap.size, 0, none⟩), .pointer (some ⟨w.heap.size, 0, none⟩), .pointer (some ⟨g, 0, none⟩), .pointer (some ⟨g, 0, none⟩), .pointer (some ⟨g, 1, none⟩), .agg (r8v S).toArray, .pointer (some ⟨g, 0, none⟩), .pointer (some ⟨g, 0, none⟩), .pointer (some ⟨g, 9, none⟩), .agg (bv L).toArray, .pointer (some ⟨g, 0, none⟩), .pointer (some ⟨g, 0, none⟩), .pointer (some ⟨g, 73, none⟩), .int .i64 (l.length : Int), undef, undef, undef, undef, undef, undef, undef], []⟩ (by kernel_rfl) (by kernel_rfl) (by kernel_rfl) ?_
      simp only [List.drop_succ_cons, List.drop_zero]
      go_wp2_with (first
        | (refine wpList_store_mid rfl 24 _ _ rfl w.heap.size 1 (r8v S).toArray rfl rfl ?_ size8w HONE.out ?_; exact HT1.out)
        | (refine wpList_store_mid rfl 25 _ _ rfl w.heap.size 9 (bv L).toArray rfl rfl ?_ HI36.out HTWO.out ?_; exact HT9.out; have e73 := HE.out; have f73 := HF.out))
      refine NoPanic.normal ?_
      clear e73 f73
      go_wp2
      go_ret
      exact ⟨rfl, HFIN.out, HBEL.out, HLT.out⟩
    · refine YieldsIf.wpOp (S := fun w' => w' = w1.drew) rfl (yieldsIf_load_int (S := fun w' => w' = w1.drew) (by kernel_rfl) 3 .i64 (.tmp 21) (by kernel_rfl) ⟨g, 73, none⟩ (by kernel_rfl) (l.length : Int) (fun w' hw => by rw [hw]; exact HS.out) Tryd.underlying3) rfl ⟨trivial, ?_⟩
      refine wpAnyH_all (rs := [6]) (by kernel_rfl) (by decide) ?_
      intro i hi
      obtain rfl : i = 6 := by simpa using hi
      clear hi
      refine YieldsIf.wpOp (S := fun w' => w' = w1.drew) rfl (yieldsIf_load_mid (S := fun w' => w' = w1.drew) (by kernel_rfl) 24 (.tmp 13) (by kernel_rfl) g 1 (by kernel_rfl) (r8v S) _ (fun w' hw => by rw [hw]; exact HR1.out) Tryd.underlying24 rfl size8w) rfl ⟨trivial, ?_⟩
      refine held_rest_at 15 _ ⟨#[.pointer (some ⟨g, 0, none⟩), undef, .pointer none, .pointer (some ⟨w.heap.size, 0, none⟩), .pointer (some ⟨g, 0, none⟩), .bool true, .bool false, .pointer (some ⟨w.heap.size, 0, none⟩), .pointer (some ⟨w.heap.size, 0, none⟩), .pointer (some ⟨w.heap.size, 0, none⟩), .pointer (some ⟨w.heap.size, 0, none⟩), .pointer (some ⟨g, 0, none⟩), .pointer (some ⟨g, 0, none⟩), .pointer (some ⟨g, 1, none⟩), .agg (r8v S).toArray, .pointer (some ⟨g, 0, none⟩), .pointer (some ⟨g, 0, none⟩), .pointer (some ⟨g, 9, none⟩), .agg (bv L).toArray, .pointer (some ⟨g, 0, none⟩), .pointer (some ⟨g, 0, none⟩), .pointer (some ⟨g, 73, none⟩), .int .i64 (l.length : Int), undef, undef, undef, undef, undef, undef, undef], []⟩ (by kernel_rfl) (by kernel_rfl) (by kernel_rfl) ?_
      simp only [List.drop_succ_cons, List.drop_zero]
      go_wp2_with (first
        | (refine wpList_store_mid rfl 24 _ _ rfl w.heap.size 1 (r8v S).toArray rfl rfl ?_ size8w HONE.out ?_; exact HT1.out)
        | (refine wpList_store_mid rfl 25 _ _ rfl w.heap.size 9 (bv L).toArray rfl rfl ?_ HI36.out HTWO.out ?_; exact HT9.out; have e73 := HE.out; have f73 := HF.out))
      refine NoPanic.normal ?_
      clear e73 f73
      go_wp2
      go_ret
      exact ⟨rfl, HFIN.out, HBEL.out, HLT.out⟩
  · refine YieldsIf.wpOp (S := fun w' => w' = w1.drew) rfl (yieldsIf_load_int (S := fun w' => w' = w1.drew) (by kernel_rfl) 3 .i64 (.tmp 21) (by kernel_rfl) ⟨g, 73, none⟩ (by kernel_rfl) (l.length : Int) (fun w' hw => by rw [hw]; exact HS.out) Tryd.underlying3) rfl ⟨trivial, ?_⟩
    refine wpAnyH_all (rs := [6, 10]) (by kernel_rfl) (by decide) ?_
    intro i hi
    rcases (show i = 6 ∨ i = 10 by simpa using hi) with rfl | rfl
    all_goals clear hi
    · refine YieldsIf.wpOp (S := fun w' => w' = w1.drew) rfl (yieldsIf_load_mid (S := fun w' => w' = w1.drew) (by kernel_rfl) 24 (.tmp 13) (by kernel_rfl) g 1 (by kernel_rfl) (r8v S) _ (fun w' hw => by rw [hw]; exact HR1.out) Tryd.underlying24 rfl size8w) rfl ⟨trivial, ?_⟩
      refine wpAnyH_all (rs := [10]) (by kernel_rfl) (by decide) ?_
      intro i hi
      obtain rfl : i = 10 := by simpa using hi
      clear hi
      refine YieldsIf.wpOp (S := fun w' => w' = w1.drew) rfl (yieldsIf_load_mid (S := fun w' => w' = w1.drew) (by kernel_rfl) 25 (.tmp 17) (by kernel_rfl) g 9 (by kernel_rfl) (bv L) _ (fun w' hw => by rw [hw]; exact HR9.out) Tryd.underlying25 rfl HI36.out) rfl ⟨trivial, ?_⟩
      refine held_rest_at 15 _ ⟨#[.pointer (some ⟨g, 0, none⟩), undef, .pointer none, .pointer (some ⟨w.heap.size, 0, none⟩), .pointer (some ⟨g, 0, none⟩), .bool true, .bool false, .pointer (some ⟨w.heap.size, 0, none⟩), .pointer (some ⟨w.heap.size, 0, none⟩), .pointer (some ⟨w.heap.size, 0, none⟩), .pointer (some ⟨w.heap.size, 0, none⟩), .pointer (some ⟨g, 0, none⟩), .pointer (some ⟨g, 0, none⟩), .pointer (some ⟨g, 1, none⟩), .agg (r8v S).toArray, .pointer (some ⟨g, 0, none⟩), .pointer (some ⟨g, 0, none⟩), .pointer (some ⟨g, 9, none⟩), .agg (bv L).toArray, .pointer (some ⟨g, 0, none⟩), .pointer (some ⟨g, 0, none⟩), .pointer (some ⟨g, 73, none⟩), .int .i64 (l.length : Int), undef, undef, undef, undef, undef, undef, undef], []⟩ (by kernel_rfl) (by kernel_rfl) (by kernel_rfl) ?_
      simp only [List.drop_succ_cons, List.drop_zero]
      go_wp2_with (first
        | (refine wpList_store_mid rfl 24 _ _ rfl w.heap.size 1 (r8v S).toArray rfl rfl ?_ size8w HONE.out ?_; exact HT1.out)
        | (refine wpList_store_mid rfl 25 _ _ rfl w.heap.size 9 (bv L).toArray rfl rfl ?_ HI36.out HTWO.out ?_; exact HT9.out; have e73 := HE.out; have f73 := HF.out))
      refine NoPanic.normal ?_
      clear e73 f73
      go_wp2
      go_ret
      exact ⟨rfl, HFIN.out, HBEL.out, HLT.out⟩
    · refine YieldsIf.wpOp (S := fun w' => w' = w1.drew) rfl (yieldsIf_load_mid (S := fun w' => w' = w1.drew) (by kernel_rfl) 25 (.tmp 17) (by kernel_rfl) g 9 (by kernel_rfl) (bv L) _ (fun w' hw => by rw [hw]; exact HR9.out) Tryd.underlying25 rfl HI36.out) rfl ⟨trivial, ?_⟩
      refine wpAnyH_all (rs := [6]) (by kernel_rfl) (by decide) ?_
      intro i hi
      obtain rfl : i = 6 := by simpa using hi
      clear hi
      refine YieldsIf.wpOp (S := fun w' => w' = w1.drew) rfl (yieldsIf_load_mid (S := fun w' => w' = w1.drew) (by kernel_rfl) 24 (.tmp 13) (by kernel_rfl) g 1 (by kernel_rfl) (r8v S) _ (fun w' hw => by rw [hw]; exact HR1.out) Tryd.underlying24 rfl size8w) rfl ⟨trivial, ?_⟩
      refine held_rest_at 15 _ ⟨#[.pointer (some ⟨g, 0, none⟩), undef, .pointer none, .pointer (some ⟨w.heap.size, 0, none⟩), .pointer (some ⟨g, 0, none⟩), .bool true, .bool false, .pointer (some ⟨w.heap.size, 0, none⟩), .pointer (some ⟨w.heap.size, 0, none⟩), .pointer (some ⟨w.heap.size, 0, none⟩), .pointer (some ⟨w.heap.size, 0, none⟩), .pointer (some ⟨g, 0, none⟩), .pointer (some ⟨g, 0, none⟩), .pointer (some ⟨g, 1, none⟩), .agg (r8v S).toArray, .pointer (some ⟨g, 0, none⟩), .pointer (some ⟨g, 0, none⟩), .pointer (some ⟨g, 9, none⟩), .agg (bv L).toArray, .pointer (some ⟨g, 0, none⟩), .pointer (some ⟨g, 0, none⟩), .pointer (some ⟨g, 73, none⟩), .int .i64 (l.length : Int), undef, undef, undef, undef, undef, undef, undef], []⟩ (by kernel_rfl) (by kernel_rfl) (by kernel_rfl) ?_
      simp only [List.drop_succ_cons, List.drop_zero]
      go_wp2_with (first
        | (refine wpList_store_mid rfl 24 _ _ rfl w.heap.size 1 (r8v S).toArray rfl rfl ?_ size8w HONE.out ?_; exact HT1.out)
        | (refine wpList_store_mid rfl 25 _ _ rfl w.heap.size 9 (bv L).toArray rfl rfl ?_ HI36.out HTWO.out ?_; exact HT9.out; have e73 := HE.out; have f73 := HF.out))
      refine NoPanic.normal ?_
      clear e73 f73
      go_wp2
      go_ret
      exact ⟨rfl, HFIN.out, HBEL.out, HLT.out⟩

end Go.Proofs.YthddiijnomhpfaaDoor
