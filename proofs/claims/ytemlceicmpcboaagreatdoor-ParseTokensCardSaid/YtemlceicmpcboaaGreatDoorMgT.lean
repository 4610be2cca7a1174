/- All of the document's readers together, whatever stands there: their contracts. The walk of the document's module: its contract. No condition but those that each states. -/
import Derived.Test.YtemlceicmpcboaaGreatDoorMgS
import Derived.Test.YtemlceicmpcboaaGreatDoorMgR
import Derived.Test.YtemlceicmpcboaaGreatDoorMgI
namespace Go.Proofs.YtemlceicmpcboaaGreatDoor.Pa
open Go.RowKit Dk Lx Tr

/-- All that call one another. -/
structure AllF (L : List Tk) (s : St) : Prop where
  unary : Rf L 250 (.e 5) 2 s
  expr : Rf L 205 (.e 0) 2 s
  block : Rf L 136 .blk 2 s
  stmt : isBad s = false → Rf L 179 .stmt 3 s

theorem all_rf (K : Nat) (L : List Tk) (hT : TkS K L) (h4k : L.length ≤ 4000) : ∀ n s, mu L s ≤ n → AllF L s := by
  intro n
  induction n using Nat.strongRecOn with
  | _ n ih =>
    have IH : ∀ s, mu L s < n → AllF L s := fun s hs => ih (mu L s) hs s (Nat.le_refl _)
    have hE : RfN L 205 (.e 0) 2 n := fun s hs => (IH s hs).expr
    have hU : RfN L 250 (.e 5) 2 n := fun s hs => (IH s hs).unary
    have hB : RfN L 136 .blk 2 n := fun s hs => (IH s hs).block
    have h5 : RfN L 250 (.e 5) 2 (n + 1) := fun s hs => unary_any L n hU hE s (prim_rf L n hE hB s (Nat.le_of_lt_succ hs)) (Nat.le_of_lt_succ hs)
    have h0 : RfN L 205 (.e 0) 2 (n + 1) := expr_rf L (n + 1) h5
    have hb : RfN L 136 .blk 2 (n + 1) := by
      intro s hs
      cases hs' : s with
      | bad k =>
        refine block_any L 1 (fun s' h1 h2 => ?_) (.bad k) (Nat.zero_lt_one)
        cases s' with
        | bad k' => cases h2
        | ok i =>
          have : mu L (.ok i) = L.length - i + 1 := rfl
          omega
      | ok i =>
        have h1 : L.length - i + 1 < n + 1 := by rw [hs'] at hs; exact hs
        refine block_any L n (fun s' h1 h2 => (IH s' h1).stmt h2) (.ok i) ?_
        show mu L (if sg L i = [123] then St.ok (i + 1) else .bad i) < n
        split
        · rename_i hq
          have : i < L.length := sg_lt (by rw [hq]; decide)
          show L.length - (i + 1) + 1 < n
          omega
        · show 0 < n
          omega
    intro s hs
    exact ⟨h5 s (Nat.lt_succ_of_le hs), h0 s (Nat.lt_succ_of_le hs), hb s (Nat.lt_succ_of_le hs), fun h => stmt_rf K L hT h4k (n + 1) h0 hb s (Nat.lt_succ_of_le hs) h⟩
theorem block_all (K : Nat) (L : List Tk) (hT : TkS K L) (h4k : L.length ≤ 4000) (n : Nat) : RfN L 136 .blk 2 n := fun s _ => (all_rf K L hT h4k (mu L s) s (Nat.le_refl _)).block

end Go.Proofs.YtemlceicmpcboaaGreatDoor.Pa
namespace Go.Proofs.YtemlceicmpcboaaGreatDoor.Pa
open Go.RowKit Dk Lx Tr

/-- A node of the call's own beside the row that is read. -/
structure UB (L : List Tk) (g : Nat) (vt : Value) (w W2 W : World) (b : Nat) (x : Nd) (s : St) : Prop where
  on : OnR L g vt w W s
  nb : NB W b x
  only : Only (fun k => k = g) W2 W
  hb : W2.heap.size ≤ b
  hw : w.heap.size ≤ W2.heap.size
  hg : g < w.heap.size
theorem UB.call {L : List Tk} {g : Nat} {vt : Value} {w W2 W W' : World} {b : Nat} {x : Nd} {s s' : St} (h : UB L g vt w W2 W b x s) (hp : RS L g vt W' s') (ho : Only (fun k => k = g) W W') : UB L g vt w W2 W' b x s' :=
  ⟨h.on.call hp ho, h.nb.of_block (ho.block b h.nb.lt (by have := h.hb; have := h.hw; have := h.hg; omega)) ho.size, h.only.trans ho (fun _ _ h => h), h.hb, h.hw, h.hg⟩
theorem NB.put {W : World} {b : Nat} {x x' : Nd} {u : Value} (j : Nat) (h : NB W b x) (hj : j < 5) (hx : x.cells.set j u = x'.cells) : NB (W.setCell ⟨b, j, none⟩ u) b x' := by
  refine ⟨fun i y hi => ?_, there_setCell h.room _ _, by simpa using h.lt⟩
  rw [Nat.zero_add]
  rw [← hx] at hi
  by_cases e : j = i
  · subst e
    have hc := h.cells j _ (List.getElem?_eq_getElem (show j < x.cells.length from hj))
    rw [Nat.zero_add] at hc
    rw [World.cell?_setCell_same _ _ _ hc]
    rw [List.getElem?_set_self (show j < x.cells.length from hj)] at hi
    exact hi
  · rw [World.cell?_setCell_other _ _ _ _ (by simp [])]
    rw [List.getElem?_set_ne e] at hi
    have := h.cells i y hi
    rwa [Nat.zero_add] at this
theorem UB.put {L : List Tk} {g : Nat} {vt : Value} {w W2 W : World} {b : Nat} {x x' : Nd} {u : Value} {s : St} (j : Nat) (h : UB L g vt w W2 W b x s) (hj : j < 5) (hx : x.cells.set j u = x'.cells) : UB L g vt w W2 (W.setCell ⟨b, j, none⟩ u) b x' s :=
  ⟨h.on.setCell b (Nat.le_trans h.hw h.hb) j u, NB.put j h.nb hj hx, h.only.trans (Only.of_setCell u) (fun i hi e => absurd h.hb (by omega)), h.hb, h.hw, h.hg⟩
theorem UB.free {L : List Tk} {g : Nat} {vt : Value} {w W2 W : World} {b : Nat} {x : Nd} {s : St} (h : UB L g vt w W2 W b x s) (j : Nat) (hj : j < 5) : W.frozen? ⟨b, j, none⟩ = false := by
  have := (h.nb.room j hj).2
  rwa [Nat.zero_add] at this
theorem UB.start {L : List Tk} {g : Nat} {vt : Value} {w W2 : World} {s : St} (x : Nd) (h : OnR L g vt w W2 s) : UB L g vt w W2 ((W2.alloc (.cells #[.int .i64 0, .int .i64 0, .string ⟨#[]⟩, .int .i64 0, .string ⟨#[]⟩] 29)).setCells W2.heap.size 0 x.cells.toArray.toList) W2.heap.size x s := by
  obtain ⟨h1, h2⟩ := nb_put W2 x
  exact ⟨h.below h2, h1, Only.of_below (F := fun k => k = g) h2, Nat.le_refl _, h.only.size, h.lt⟩

theorem mu_dec {L : List Tk} {j : Nat} {s : St} (h : j + 1 ≤ atS s) (hj : j < L.length) : mu L s < mu L (.ok j) := by
  cases s with
  | bad k => exact Nat.succ_pos _
  | ok i =>
    have h' : j + 1 ≤ i := h
    show L.length - i + 1 < L.length - j + 1
    omega
theorem uses_endF {L : List Tk} {x : Nd} {m : Nat} (us : List (List Nd)) {s : St} (h : isS L [117, 115, 101] s = false) : Leads L [.uses x m] us s [.funs x m] us s := by
  cases s with
  | bad k => exact rfl
  | ok j => exact .yes (fun V => by
      change (if sg L j = [117, 115, 101] then some ([Sy.useN, .uses x (m + 1)], us.reverse ++ V, j + 1) else some ([.funs x m], us.reverse ++ V, j)) = _
      exact if_neg (sg_not h))
theorem funs_endF {L : List Tk} {x : Nd} {m : Nat} (us : List (List Nd)) {s : St} (h : isS L [102, 110] s = false) : Leads L [.funs x m] us s [.mk x m] us s := by
  cases s with
  | bad k => exact rfl
  | ok j => exact .yes (fun V => by
      change (if sg L j = [102, 110] then some ([Sy.funN, .funs x (m + 1)], us.reverse ++ V, j + 1) else some ([.mk x m], us.reverse ++ V, j)) = _
      exact if_neg (sg_not h))

/-- How large the parts are that were read. -/
structure Mz (s : St) (cs : List (Value × List Nd)) : Prop where
  few : cs.length ≤ atS s
  size : (cs.map (·.2)).flatten.length ≤ 4 * atS s + 8
theorem Mz.add {j : Nat} {s : St} {cs : List (Value × List Nd)} {u : Value} {t : List Nd} (h : Mz (.ok j) cs) (hs : j + 1 ≤ atS s) (ht : (cs.map (·.2)).flatten.length + t.length ≤ 4 * atS s + 8) : Mz s (cs ++ [(u, t)]) := by
  have h1 : cs.length ≤ j := h.few
  exact ⟨by rw [List.length_append, List.length_singleton]; omega, by rw [flat_snoc]; exact ht⟩

/-- What module's call leaves. -/
structure ModF (L : List Tk) (g : Nat) (vt : Value) (w w' : World) (v : Value) (t : List Nd) (s' : St) : Prop where
  leads : Leads L [.mod] [] (.ok 0) [] [t] s'
  on : OnR L g vt w w' s'
  row : NdX w' (fun k => k < w.heap.size) v t
  ne : t ≠ []

set_option maxHeartbeats 8000000 in
set_option maxRecDepth 100000 in
theorem module_rf (K : Nat) (L : List Tk) (hT : TkS K L) (h4k : L.length ≤ 4000) (g : Nat) (vt : Value) (w : World) (h : RS L g vt w (.ok 0)) :
    Calls Tryz.prog 40 #[ptr g] w fun e w' => ∃ v t s', e = .returned v ∧ ModF L g vt w w' v t s' := by
  have HFN := Lib.hid (fun s W (hp : RS L g vt W s) => function_rf L (mu L s + 1) (block_all K L hT h4k _) s (Nat.lt_succ_self _) g vt W hp)
  have H0 := Lib.hid (OnR.start h)
  have HLT := Lib.hid h.lt
  have H4K := Lib.hid h4k
  obtain ⟨i0, hi0, hy0, hy1, hy2⟩ := info_parts nds_info3
  have HAX : Hid (∀ x : Nd, (Tryz.prog.info? 29).map (·.size) = some x.cells.toArray.size ∧ x.cells.toArray.all (·.oneCell') = true) := Lib.hid (fun x => ⟨n_infoA x, n_all x⟩)
  have X1 := Lib.hid (must_any h [109, 111, 100, 117, 108, 101] (by decide))
  have HL1 : Hid (Leads L [.mod] [] (.ok 0) [.modN] [] (markS L [109, 111, 100, 117, 108, 101] (.ok 0))) := Lib.hid ((mod_lead1 (.ok 0)).trans (mark_lead _ _ [] _))
  generalize markS L [109, 111, 100, 117, 108, 101] (.ok 0) = s1 at *
  clear h hT h4k
  go_enter Tryz.func40, Tryz.ntmps40
  go_wp2_with fail
  refine X1.out.mono ?_
  rintro e w1 ⟨rfl, hp, ho⟩
  have O1 := Lib.hid (H0.out.call hp ho)
  clear hp ho X1 H0
  have X2 := Lib.hid (need_any 1 O1.out.ps (by decide))
  have HL3 := Lib.hid (HL1.out.trans (mod_lead2 (L := L) s1))
  generalize nameV L 1 s1 = E at *
  generalize needS L 1 s1 = s3 at *
  obtain ⟨ek, et, en, ep⟩ := E
  have hfd : ∀ W : World, (Instr.field 72 (.agg #[.int .i64 ek, .string (strOf et), .int .i64 en, .int .i64 ep]) 1).run Tryz.prog W = .ok (.string (strOf et)) W := fun _ => by kernel_rfl
  clear HL1
  go_wp2_with fail
  refine X2.out.mono ?_
  rintro e w2 ⟨rfl, hp, ho⟩
  have O2 := Lib.hid (O1.out.call hp ho)
  clear hp ho X2
  simp only [Tk.cells]
  have X3 := Lib.hid (need_any 2 O2.out.ps (by decide))
  have HL5 := Lib.hid (HL3.out.trans (mod_lead3 (L := L) et s3))
  generalize nameV L 2 s3 = E at *
  generalize needS L 2 s3 = s5 at *
  obtain ⟨fk, ft, z, fp⟩ := E
  have hfd2 : ∀ W : World, (Instr.field 72 (.agg #[.int .i64 fk, .string (strOf ft), .int .i64 z, .int .i64 fp]) 2).run Tryz.prog W = .ok (.int .i64 z) W := fun _ => by kernel_rfl
  go_wp2_with fail
  refine X3.out.mono ?_
  rintro e w3 ⟨rfl, hp, ho⟩
  have O3 := Lib.hid (O2.out.call hp ho)
  clear hp ho X3
  simp only [Tk.cells]
  have X4 := Lib.hid (must_any O3.out.ps [59] (by decide))
  have HL7 := Lib.hid (HL5.out.trans (mark_lead [59] _ [] s5))
  generalize markS L [59] s5 = s7 at *
  go_wp2_with fail
  refine X4.out.mono ?_
  rintro e w4 ⟨rfl, hp, ho⟩
  have O4 := Lib.hid (O3.out.call hp ho)
  clear hp ho X4 O3 O2 O1 hfd hfd2 HL5 HL3
  go_wp2
  go_loopg [3] (mu L s7) (fun k vo wr => ∃ (cs : List (Value × List Nd)) (s3 : St) (q : Option Addr) (m c : Nat), vo = .slice q m c ∧ Hid (m = cs.length) ∧ Hid (KR w wr (.slice q m c) cs) ∧ Hid (OnR L g vt w wr s3) ∧
    Hid (Leads L [.mod] [] (.ok 0) [.uses { nd 1 with name := et, n := z } cs.length] (cs.map (·.2)) s3) ∧ Hid (Mz s3 cs) ∧ Hid (k = mu L s3))
  case atStart => exact ⟨[], s7, _, 0, _, rfl, Lib.hid rfl, Lib.hid (KR.nil _ _), O4, HL7, Lib.hid ⟨Nat.zero_le _, Nat.zero_le _⟩, Lib.hid rfl⟩
  case round =>
    clear O4 HL7
    obtain ⟨cs, s3, q, m, c, rfl, HM, HR, HO, HL, HZ, HK⟩ := hrel
    have A := Lib.hid (take_any HO.out.ps [117, 115, 101] (by decide))
    cases hq : isS L [117, 115, 101] s3 with
    | true =>
      rw [hq] at A
      obtain ⟨j0, rfl, hg0, ht0⟩ := takeS_yes hq
      rw [ht0] at A
      have hjl : j0 < L.length := sg_lt (by rw [hg0]; decide)
      have HJL := Lib.hid hjl
      have HL2 := Lib.hid (HL.out.trans (uses_more _ hg0))
      have hm1 : m ≤ 1000001 := by have h1 := HM.out; have h2 := HZ.out.few; have h3 : atS (.ok j0) = j0 := rfl; have := H4K.out; omega
      clear hq hg0 ht0 hjl HL
      go_wp2_with fail
      refine A.out.mono ?_
      rintro e v1 ⟨rfl, hp, ho⟩
      have V1 := Lib.hid (HO.out.call hp ho)
      have R1 := Lib.hid (HR.out.only ho HLT.out)
      clear hp ho A
      have X1 := Lib.hid (need_any 1 V1.out.ps (by decide))
      have HU1 := Lib.hid (use_lead1 (L := L) (.ok (j0 + 1)))
      have HA1 : Hid (j0 + 1 ≤ atS (needS L 1 (.ok (j0 + 1)))) := Lib.hid (atS_need L 1 (.ok (j0 + 1))).1
      generalize nameV L 1 (.ok (j0 + 1)) = E at *
      generalize needS L 1 (.ok (j0 + 1)) = s4 at *
      obtain ⟨ek, a, en, ep⟩ := E
      have hfd : ∀ W : World, (Instr.field 72 (.agg #[.int .i64 ek, .string (strOf a), .int .i64 en, .int .i64 ep]) 1).run Tryz.prog W = .ok (.string (strOf a)) W := fun _ => by kernel_rfl
      go_wp2_with fail
      refine X1.out.mono ?_
      rintro e v2 ⟨rfl, hp, ho⟩
      have V2 := Lib.hid (V1.out.call hp ho)
      have R2 := Lib.hid (R1.out.only ho HLT.out)
      clear hp ho X1
      simp only [Tk.cells]
      have U3 := Lib.hid (UB.start { nd 2 with name := a } V2.out)
      have HZN := Lib.hid (nb_zero v2)
      obtain ⟨hia, hla⟩ := HAX.out { nd 2 with name := a }
      go_upto_region 8 with (first
        | (refine wpList_store_mid rfl 29 (.tmp 6) (.tmp 23) rfl v2.heap.size 0 ({ nd 2 with name := a } : Nd).cells.toArray rfl rfl HZN.out.room hia hla ?_; generalize World.setCells _ _ _ _ = v3 at U3 ⊢)
        | fail)
      obtain ⟨b, hb⟩ : ∃ b, b = v2.heap.size := ⟨_, rfl⟩
      rw [← hb] at U3 ⊢
      clear HZN hia hla hfd hb
      have X3 := Lib.hid (must_any U3.out.on.ps [46] (by decide))
      have HU3 := Lib.hid (HU1.out.trans (mark_lead [46] _ [] s4))
      have HA3 : Hid (j0 + 1 ≤ atS (markS L [46] s4)) := Lib.hid (Nat.le_trans HA1.out (atS_mark L [46] s4).1)
      generalize markS L [46] s4 = s6 at *
      clear HU1 HA1
      go_wp2_with fail
      refine X3.out.mono ?_
      rintro e v4 ⟨rfl, hp, ho⟩
      have U4 := Lib.hid (U3.out.call hp ho)
      clear hp ho X3 U3
      have X4 := Lib.hid (need_any 1 U4.out.on.ps (by decide))
      have HU4 := Lib.hid (HU3.out.trans (use_lead2 (L := L) a s6))
      have HA4 : Hid (j0 + 1 ≤ atS (needS L 1 s6)) := Lib.hid (Nat.le_trans HA3.out (atS_need L 1 s6).1)
      generalize nameV L 1 s6 = E at *
      generalize needS L 1 s6 = s8 at *
      obtain ⟨ek, d, en, ep⟩ := E
      have hfd : ∀ W : World, (Instr.field 72 (.agg #[.int .i64 ek, .string (strOf d), .int .i64 en, .int .i64 ep]) 1).run Tryz.prog W = .ok (.string (strOf d)) W := fun _ => by kernel_rfl
      clear HU3 HA3
      go_wp2_with fail
      refine X4.out.mono ?_
      rintro e v5 ⟨rfl, hp, ho⟩
      have U5 := Lib.hid (U4.out.call hp ho)
      clear hp ho X4 U4
      simp only [Tk.cells]
      have c4 : v5.cell? ⟨b, 4, none⟩ = some (.string ⟨#[]⟩) := by have := U5.out.nb.at.2.2.2.2; exact this
      have f4 := U5.out.free 4 (by decide)
      have U6 : Hid (UB L g vt w v2 (v5.setCell ⟨b, 4, none⟩ (.string (strOf d))) b { nd 2 with name := a, text := d } s8) := Lib.hid (U5.out.put 4 (by decide) rfl)
      have X6 := Lib.hid (must_any U6.out.on.ps [47] (by decide))
      have HU6 := Lib.hid (HU4.out.trans (mark_lead [47] _ [] s8))
      have HA6 : Hid (j0 + 1 ≤ atS (markS L [47] s8)) := Lib.hid (Nat.le_trans HA4.out (atS_mark L [47] s8).1)
      generalize markS L [47] s8 = s9 at *
      clear HU4 HA4
      go_wp2_with fail
      generalize World.setCell _ _ _ = v6 at U6 X6 ⊢
      clear c4 f4 hfd U5
      refine X6.out.mono ?_
      rintro e v7 ⟨rfl, hp, ho⟩
      have U7 := Lib.hid (U6.out.call hp ho)
      clear hp ho X6 U6
      have X7 := Lib.hid (need_any 2 U7.out.on.ps (by decide))
      have HU7 := Lib.hid (HU6.out.trans (use_lead3 (L := L) a d s9))
      have HA7 : Hid (j0 + 1 ≤ atS (needS L 2 s9)) := Lib.hid (Nat.le_trans HA6.out (atS_need L 2 s9).1)
      generalize nameV L 2 s9 = E at *
      generalize needS L 2 s9 = s10 at *
      obtain ⟨ek, ed, y, ep⟩ := E
      have hfd2 : ∀ W : World, (Instr.field 72 (.agg #[.int .i64 ek, .string (strOf ed), .int .i64 y, .int .i64 ep]) 2).run Tryz.prog W = .ok (.int .i64 y) W := fun _ => by kernel_rfl
      clear HU6 HA6
      go_wp2_with fail
      refine X7.out.mono ?_
      rintro e v8 ⟨rfl, hp, ho⟩
      have U8 := Lib.hid (U7.out.call hp ho)
      clear hp ho X7 U7
      simp only [Tk.cells]
      have c3 : v8.cell? ⟨b, 3, none⟩ = some (.int .i64 0) := by have := U8.out.nb.at.2.2.2.1; exact this
      have f3 := U8.out.free 3 (by decide)
      have U9 : Hid (UB L g vt w v2 (v8.setCell ⟨b, 3, none⟩ (.int .i64 y)) b { nd 2 with name := a, text := d, n := y } s10) := Lib.hid (U8.out.put 3 (by decide) rfl)
      have X9 := Lib.hid (must_any U9.out.on.ps [59] (by decide))
      have HU9 : Hid (Leads L [.useN] [] (.ok (j0 + 1)) [] [[{ nd 2 with name := a, text := d, n := y }]] (markS L [59] s10)) := Lib.hid ((HU7.out.trans (mark_lead [59] _ [] s10)).trans (Leads.mk _ [] 0 rfl _))
      have HA9 : Hid (j0 + 1 ≤ atS (markS L [59] s10)) := Lib.hid (Nat.le_trans HA7.out (atS_mark L [59] s10).1)
      generalize markS L [59] s10 = s11 at *
      clear HU7 HA7
      go_wp2_with fail
      generalize World.setCell _ _ _ = v9 at U9 X9 ⊢
      clear c3 f3 hfd2 U8
      refine X9.out.mono ?_
      rintro e v10 ⟨rfl, hp, ho⟩
      have U10 := Lib.hid (U9.out.call hp ho)
      clear hp ho X9 U9
      have R10 := Lib.hid (R2.out.only U10.out.only HLT.out)
      have HCL : Hid (v10.rangeAt b 0 [.int .i64 2, .int .i64 0, .string (strOf a), .int .i64 y, .string (strOf d)]) := Lib.hid U10.out.nb.cells
      have HIN : Hid ((Tryz.prog.info? 29).map (·.size) = some [Value.int .i64 2, .int .i64 0, .string (strOf a), .int .i64 y, .string (strOf d)].length) := Lib.hid (n_info { nd 2 with name := a, text := d, n := y })
      obtain ⟨v11, hv11⟩ : ∃ v11, v11 = v10.alloc (.cells #[.int .i64 2, .int .i64 0, .string (strOf a), .int .i64 y, .string (strOf d)] 29) := ⟨_, rfl⟩
      have O11 : Hid (OnR L g vt w v11 s11) := Lib.hid (by rw [hv11]; exact U10.out.on.alloc _)
      have R11 : Hid (KR w v11 (.slice q m c) cs) := Lib.hid (by rw [hv11]; exact R10.out.below ((Below.refl _ _).alloc (Nat.le_refl _) _))
      have HSV : Hid (v11.heap.size = v10.heap.size + 1) := Lib.hid (by rw [hv11]; simp)
      have HNX : Hid (NdX v11 (fun k => k < w.heap.size ∨ (Value.slice q m c).ownBlock = some k) (.slice (some ⟨v10.heap.size, 0, none⟩) 1 1) [{ nd 2 with name := a, text := d, n := y }]) := Lib.hid (by
        have := one_node (W := v10) (X := fun k => k < w.heap.size ∨ (Value.slice q m c).ownBlock = some k) { nd 2 with name := a, text := d, n := y } 29 (fun hi => by
          rcases hi with hi | hi
          · have := U10.out.on.only.size; omega
          · have := (Tr.own_lo R10.out.row _ hi).2; omega)
        rw [hv11]; exact this)
      have n1 := news_at v11 #[Value.slice (some ⟨v10.heap.size, 0, none⟩) 1 1] 23
      rw [HSV.out] at n1
      have N1 := Lib.hid n1
      clear n1
      have HSZ := Lib.hid O11.out.only.size
      have HLN : Hid (Leads L [.mod] [] (.ok 0) [.uses { nd 1 with name := et, n := z } (cs ++ [((Value.slice (some ⟨v10.heap.size, 0, none⟩) 1 1), [({ nd 2 with name := a, text := d, n := y } : Nd)])]).length] ((cs ++ [((Value.slice (some ⟨v10.heap.size, 0, none⟩) 1 1), [({ nd 2 with name := a, text := d, n := y } : Nd)])]).map (·.2)) s11) := Lib.hid (HL2.out.trans (by
        have := HU9.out.over [.uses { nd 1 with name := et, n := z } (cs.length + 1)] (cs.map (·.2))
        rw [List.append_nil] at this
        rw [List.length_append, List.map_append]
        exact this))
      have HZN := Lib.hid (HZ.out.add (u := Value.slice (some ⟨v10.heap.size, 0, none⟩) 1 1) (t := [({ nd 2 with name := a, text := d, n := y } : Nd)]) HA9.out (by
        have h1 := HZ.out.size
        have h2 : atS (.ok j0) = j0 := rfl
        have h3 := HA9.out
        rw [List.length_singleton]; omega))
      clear R10 R2 R1 V1 V2 HU9 HL2
      generalize ({ nd 2 with name := a, text := d, n := y } : Nd) = xn at *
      go_wp2_with (first
        | (refine wpList_load_mid rfl 29 (.tmp 6) rfl b 0 rfl [.int .i64 2, .int .i64 0, .string (strOf a), .int .i64 y, .string (strOf d)] _ HCL.out Tryz.underlying29 rfl HIN.out ?_)
        | (rw [← hv11]; refine wpList_append_lies _ rfl (.tmp 38) (.tmp 41) 124 rfl w.heap.size 23 i0 (.slice none 0 0) 1 24 Tryz.underlying124 hi0 hy0 hy1 hy2 rfl (by decide) _ m (cs.map (·.1)) rfl (by have := R11.out.row.alloc (.cells #[Value.slice (some ⟨v10.heap.size, 0, none⟩) 1 1] 23); rw [← HM.out] at this; exact this) ⟨v10.heap.size + 1, 0, none⟩ 1 1 [Value.slice (some ⟨v10.heap.size, 0, none⟩) 1 1] rfl rfl N1.out (by intro x hx; rw [List.mem_singleton.1 hx]; rfl) (by decide) (by unfold maxLen; omega) (by omega) (by have := HSZ.out; simp; omega) (v10.heap.size + 2) (by have := HSV.out; simp; omega) ?_; intro g' cap v12 hrow hgr hgl hlt7; have HP := Lib.hid (R11.out.push HM.out HNX.out hrow hgr (hgl.imp id (fun h => by have := HSV.out; omega))); have HOW := Lib.hid (Tr.own_lo R11.out.row); clear hrow hgr hgl hlt7))
      have O12 := Lib.hid (O11.out.own HP.out.2 (fun i hi => (HOW.out i hi).1))
      go_roundg (mu L s11)
      case rel => exact ⟨_, s11, _, _, _, rfl, Lib.hid (by rw [List.length_append, ← HM.out]; rfl), Lib.hid HP.out.1, O12, HLN, HZN, Lib.hid rfl⟩
      case measure => have h1 := HK.out; have h2 := mu_dec HA9.out HJL.out; omega
    | false =>
      rw [hq, takeS_no hq] at A
      have HL2 := Lib.hid (HL.out.trans (uses_endF _ hq))
      clear hq HL
      go_wp2_with fail
      refine A.out.mono ?_
      rintro e v1 ⟨rfl, hp, ho⟩
      have V1 := Lib.hid (HO.out.call hp ho)
      have R1 := Lib.hid (HR.out.only ho HLT.out)
      clear hp ho A
      go_wp2
      go_loopg [3] (mu L s3) (fun k vo wr => ∃ (cs : List (Value × List Nd)) (s3 : St) (q : Option Addr) (m c : Nat), vo = .slice q m c ∧ Hid (m = cs.length) ∧ Hid (KR w wr (.slice q m c) cs) ∧ Hid (OnR L g vt w wr s3) ∧
        Hid (Leads L [.mod] [] (.ok 0) [.funs { nd 1 with name := et, n := z } cs.length] (cs.map (·.2)) s3) ∧ Hid (Mz s3 cs) ∧ Hid (k = mu L s3))
      case atStart => exact ⟨cs, s3, q, m, c, rfl, HM, R1, V1, HL2, HZ, Lib.hid rfl⟩
      case round =>
        clear R1 V1 HL2 HM HZ HK HR HO
        obtain ⟨cs, s3, q, m, c, rfl, HM, HR, HO, HL, HZ, HK⟩ := hrel
        have A := Lib.hid (take_any HO.out.ps [102, 110] (by decide))
        cases hq : isS L [102, 110] s3 with
        | true =>
          rw [hq] at A
          obtain ⟨j0, rfl, hg0, ht0⟩ := takeS_yes hq
          rw [ht0] at A
          have hjl : j0 < L.length := sg_lt (by rw [hg0]; decide)
          have HJL := Lib.hid hjl
          have HL2 := Lib.hid (HL.out.trans (funs_more _ hg0))
          have HCN : Hid ((cs.map (·.2)).flatten.length ≤ j0) := Lib.hid (by
            have h1 := HL.out.count
            rw [← cnt_flat] at h1
            simp only [cnt, phS, phi] at h1
            omega)
          have hm1 : m ≤ 1000001 := by have h1 := HM.out; have h2 := HZ.out.few; have h3 : atS (.ok j0) = j0 := rfl; have := H4K.out; omega
          clear hq hg0 ht0 hjl HL
          go_wp2_with fail
          refine A.out.mono ?_
          rintro e v1 ⟨rfl, hp, ho⟩
          have V1 := Lib.hid (HO.out.call hp ho)
          have R1 := Lib.hid (HR.out.only ho HLT.out)
          clear hp ho A
          have X1 := Lib.hid (need_any 1 V1.out.ps (by decide))
          have HU1 := Lib.hid (funN_lead (L := L) [] (.ok (j0 + 1)))
          have HA1 : Hid (j0 + 1 ≤ atS (needS L 1 (.ok (j0 + 1)))) := Lib.hid (atS_need L 1 (.ok (j0 + 1))).1
          generalize nameV L 1 (.ok (j0 + 1)) = E at *
          generalize needS L 1 (.ok (j0 + 1)) = s4 at *
          obtain ⟨ek, a, en, ep⟩ := E
          have hfd : ∀ W : World, (Instr.field 72 (.agg #[.int .i64 ek, .string (strOf a), .int .i64 en, .int .i64 ep]) 1).run Tryz.prog W = .ok (.string (strOf a)) W := fun _ => by kernel_rfl
          go_wp2_with fail
          refine X1.out.mono ?_
          rintro e v2 ⟨rfl, hp, ho⟩
          have V2 := Lib.hid (V1.out.call hp ho)
          have R2 := Lib.hid (R1.out.only ho HLT.out)
          clear hp ho X1
          simp only [Tk.cells]
          have F3 := Lib.hid (HFN.out s4 v2 V2.out.ps)
          go_wp2_with fail
          refine F3.out.mono ?_
          rintro e v3 ⟨fv, fs, s5, rfl, hk⟩
          obtain ⟨qf, mf, cf, rfl⟩ : ∃ q m c, fv = .slice q m c := by
            obtain ⟨p, c, hv, -⟩ := hk.kr.ks.row
            exact ⟨p, _, c, hv⟩
          have V3 := Lib.hid (V2.out.call hk.on.ps hk.on.only)
          have R3 := Lib.hid (R2.out.only hk.on.only HLT.out)
          have J1 := Lib.hid (join_any { nd 3 with name := a } _ fs _ hk.kr.ks (by have := hk.few; have := hk.on.ps.le; have := H4K.out; omega) (by have := hk.size; have := hk.on.ps.le; have := H4K.out; omega))
          have HK3 := Lib.hid hk
          clear hk F3
          simp only [Nd.cells] at J1
          go_wp2_with fail
          refine J1.out.mono ?_
          rintro e v4 ⟨u, rfl, hr2⟩
          have HR4 := Lib.hid hr2
          clear hr2
          have V4 := Lib.hid (V3.out.below HR4.out.below)
          have R4 := Lib.hid (R3.out.below HR4.out.below)
          have HNX : Hid (NdX v4 (fun k => k < w.heap.size ∨ (Value.slice q m c).ownBlock = some k) u (join { nd 3 with name := a } (fs.map (·.2)))) := Lib.hid (NdX.of_own (_w := w) HR4.out.row (by simp [join]) (fun b hb hi => by
            rcases hi with hi | hi
            · have := V3.out.only.size; omega
            · have := (Tr.own_lo R3.out.row _ hi).2; omega))
          obtain ⟨up, un, uc, rfl⟩ := HNX.out.form
          have HA5 : Hid (j0 + 1 ≤ atS s5) := Lib.hid (Nat.le_trans HA1.out HK3.out.le)
          have HLN : Hid (Leads L [.mod] [] (.ok 0) [.funs { nd 1 with name := et, n := z } (cs ++ [((Value.slice up un uc), join { nd 3 with name := a } (fs.map (·.2)))]).length] ((cs ++ [((Value.slice up un uc), join { nd 3 with name := a } (fs.map (·.2)))]).map (·.2)) s5) := Lib.hid (by
            have h1 := (HU1.out.trans (HK3.out.leads { nd 3 with name := a })).trans (Leads.mk (L := L) { nd 3 with name := a } (fs.map (·.2)) fs.length (by rw [List.length_map]) s5)
            have h2 := h1.over [.funs { nd 1 with name := et, n := z } (cs.length + 1)] (cs.map (·.2))
            rw [List.append_nil] at h2
            rw [List.length_append, List.map_append]
            exact HL2.out.trans h2)
          have HZN := Lib.hid (HZ.out.add (u := Value.slice up un uc) (t := join { nd 3 with name := a } (fs.map (·.2))) HA5.out (by
            have h1 := HCN.out
            have h2 := HK3.out.size
            have h3 := HA5.out
            have h4 := HA1.out
            have h5 := HK3.out.le
            show _ + ((fs.map (·.2)).flatten.length + 1) ≤ _
            omega))
          have N1 := Lib.hid (news_at v4 #[Value.slice up un uc] 23)
          have HSZ := Lib.hid V4.out.only.size
          clear R3 R2 R1 V1 V2 HL2 J1 HK3
          generalize join { nd 3 with name := a } (fs.map (·.2)) = tj at *
          go_wp2_with (refine wpList_append_lies _ rfl (.tmp 48) (.tmp 54) 124 rfl w.heap.size 23 i0 (.slice none 0 0) 1 24 Tryz.underlying124 hi0 hy0 hy1 hy2 rfl (by decide) _ m (cs.map (·.1)) rfl (by have := R4.out.row.alloc (.cells #[Value.slice up un uc] 23); rw [← HM.out] at this; exact this) ⟨v4.heap.size, 0, none⟩ 1 1 [Value.slice up un uc] rfl rfl N1.out (by intro x hx; rw [List.mem_singleton.1 hx]; rfl) (by decide) (by unfold maxLen; omega) (by omega) (by have := HSZ.out; simp; omega) (v4.heap.size + 1) (by simp) ?_; intro g' cap v12 hrow hgr hgl hlt7; have HP := Lib.hid (R4.out.push HM.out HNX.out hrow hgr hgl); have HOW := Lib.hid (Tr.own_lo R4.out.row); clear hrow hgr hgl hlt7)
          have O12 := Lib.hid (V4.out.own HP.out.2 (fun i hi => (HOW.out i hi).1))
          go_roundg (mu L s5)
          case rel => exact ⟨_, s5, _, _, _, rfl, Lib.hid (by rw [List.length_append, ← HM.out]; rfl), Lib.hid HP.out.1, O12, HLN, HZN, Lib.hid rfl⟩
          case measure => have h1 := HK.out; have h2 := mu_dec HA5.out HJL.out; omega
        | false =>
          rw [hq, takeS_no hq] at A
          have HL2 := Lib.hid (HL.out.trans (funs_endF _ hq))
          clear hq HL
          go_wp2_with fail
          refine A.out.mono ?_
          rintro e v1 ⟨rfl, hp, ho⟩
          have V1 := Lib.hid (HO.out.call hp ho)
          have R1 := Lib.hid (HR.out.only ho HLT.out)
          clear hp ho A
          have J1 := Lib.hid (join_any { nd 1 with name := et, n := z } _ cs _ R1.out.ks (by have := HZ.out.few; have := HO.out.ps.le; have := H4K.out; omega) (by have := HZ.out.size; have := HO.out.ps.le; have := H4K.out; omega))
          have HLD : Hid (Leads L [.mod] [] (.ok 0) [] [join { nd 1 with name := et, n := z } (cs.map (·.2))] s3) := Lib.hid (HL2.out.trans (Leads.mk (L := L) { nd 1 with name := et, n := z } (cs.map (·.2)) cs.length (by rw [List.length_map]) _))
          simp only [Nd.cells] at J1
          go_wp2_with (go_at_call 78; refine J1.out.mono ?_; rintro e v3 ⟨u2, rfl, hr2⟩; have HR3 := Lib.hid hr2; clear hr2)
          go_ret
          exact ⟨_, _, s3, rfl, ⟨HLD.out, V1.out.below HR3.out.below, NdX.of_own (_w := w) HR3.out.row (by simp [join]) (fun b hb hx => by have := V1.out.only.size; omega), by simp [join]⟩⟩

end Go.Proofs.YtemlceicmpcboaaGreatDoor.Pa
