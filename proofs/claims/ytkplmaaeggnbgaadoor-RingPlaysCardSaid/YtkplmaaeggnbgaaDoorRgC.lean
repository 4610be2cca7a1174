/- The walk of ring.Parse: its contract. No condition but those that each states. -/
import Derived.Test.YtkplmaaeggnbgaaDoorRgB
namespace Go.Proofs.YtkplmaaeggnbgaaDoor.Rg
open Go.RowKit Dk

/-- What Parse answers. -/
def parsed (s : Bytes) : Ent := (parse s).getD Ent.zero

theorem str_mid (l : Bytes) : (strOf l).extract 12 44 = strOf ((l.drop 12).take 32) := by
  apply ByteArray.ext
  simp [strOf, ByteArray.data_extract, List.extract_eq_take_drop]

theorem build_any (e : Ent) (w : World) (HK : HasK w) :
    Calls Tryd.prog 53 #[.agg e.cells.toArray] w fun x w' => x = .returned (.tuple #[.string (strOf (if e.valid then e.blk else [])), .int .i64 (if e.valid then 0 else 1)]) ∧ Below w.heap.size w w' := by
  cases hv : e.valid with
  | true => exact build_yes e hv w HK
  | false => exact build_no e hv w

set_option maxHeartbeats 2000000 in
set_option maxRecDepth 100000 in
theorem parse_short (s : Bytes) (h : s.length ≠ 64) (w : World) :
    Calls Tryd.prog 67 #[.string (strOf s)] w fun x w' => x = .returned (.tuple #[.agg Ent.zero.cells.toArray, .bool false]) ∧ Below w.heap.size w w' := by
  have hs : (strOf s).size ≠ 64 := by rw [strOf_size]; exact h
  have u1 : (((strOf s).size : Int) == 64) = false := by simp; omega
  have u2 : decide (((strOf s).size : Int) = 64) = false := decide_eq_false (by omega)
  have u3 : ((strOf s).size == 64) = false := by simpa using hs
  have u4 : decide ((strOf s).size = 64) = false := decide_eq_false hs
  generalize strOf s = x at *
  go_enter Tryd.func67, Tryd.ntmps67
  go_wp2
  refine bodyPost_ret (by simp [results, Tryd.results67, go_sem]; try rfl) rfl ?_
  exact ⟨rfl, (Below.refl _ _).alloc (Nat.le_refl _) _⟩

theorem strOf_tl (l : Bytes) : (strOf l).toList = l := ByteArray.toList_mk l
theorem str_neq {a b : Bytes} (h : a ≠ b) : ((strOf a).toList == (strOf b).toList) = false := by
  rw [strOf_tl, strOf_tl]; exact beq_false_of_ne h
theorem str_beq (a b : Bytes) : ((strOf a).toList == (strOf b).toList) = decide (a = b) := by
  rw [strOf_tl, strOf_tl]
  by_cases h : a = b
  · rw [decide_eq_true h]; subst h; simp
  · rw [decide_eq_false h]; exact beq_false_of_ne h

/-! results that lie in a cell of their own -/
theorem results_cell2 {P : Program} {fn : Func} {t u : Tmp} {ty : TypeId} {d : TypeDesc} {cs : List Value} {b : Nat} (h : fn.results = #[.cell t ty, .tmp u]) (tmps : Array Value) (w : World) (ht : tmps.getD t undef = .pointer (some ⟨b, 0, none⟩)) (hc : w.rangeAt b 0 cs)
    (hu : P.underlying ty = some d) (hd : d.isRow = true) (hi : (P.info? ty).map (·.size) = some cs.length) : (results fn tmps).run P w = .ok (.tuple #[.agg cs.toArray, tmps.getD u undef]) w := by
  have hl := run_loadVar_mid (P := P) w b 0 ty cs d hc hu hd hi
  simp only [Array.getD_eq_getD_getElem?] at ht
  simp [results, h, ht, hl, asAddr]
theorem results_cell3 {P : Program} {fn : Func} {t u v : Tmp} {ty : TypeId} {d : TypeDesc} {cs : List Value} {b : Nat} (h : fn.results = #[.cell t ty, .tmp u, .tmp v]) (tmps : Array Value) (w : World) (ht : tmps.getD t undef = .pointer (some ⟨b, 0, none⟩)) (hc : w.rangeAt b 0 cs)
    (hu : P.underlying ty = some d) (hd : d.isRow = true) (hi : (P.info? ty).map (·.size) = some cs.length) : (results fn tmps).run P w = .ok (.tuple #[.agg cs.toArray, tmps.getD u undef, tmps.getD v undef]) w := by
  have hl := run_loadVar_mid (P := P) w b 0 ty cs d hc hu hd hi
  simp only [Array.getD_eq_getD_getElem?] at ht
  simp [results, h, ht, hl, asAddr]

/-- Two entries in blocks of their own, one behind the other. -/
theorem two_new (w : World) (e f : Ent) (t u : TypeId) : EB ((w.alloc (.cells e.cells.toArray t)).alloc (.cells f.cells.toArray u)).drew w.heap.size e ∧ EB ((w.alloc (.cells e.cells.toArray t)).alloc (.cells f.cells.toArray u)).drew (w.heap.size + 1) f ∧
    Below w.heap.size w ((w.alloc (.cells e.cells.toArray t)).alloc (.cells f.cells.toArray u)).drew := by
  have h1 := eb_new w e t
  have e1 : (w.alloc (.cells e.cells.toArray t)).heap.size = w.heap.size + 1 := by simp
  have hb : Below w.heap.size w (w.alloc (.cells e.cells.toArray t)) := (Below.refl _ _).alloc (Nat.le_refl _) _
  generalize w.alloc (.cells e.cells.toArray t) = W1 at h1 e1 hb ⊢
  have h2 := eb_new W1 f u
  have hb2 : Below W1.heap.size W1 (W1.alloc (.cells f.cells.toArray u)) := (Below.refl _ _).alloc (Nat.le_refl _) _
  rw [e1] at h2
  exact ⟨(h1.later hb2).of_block rfl (Nat.le_refl _), h2.of_block rfl (Nat.le_refl _), (chain2 hb hb2).drew⟩

set_option maxHeartbeats 4000000 in
set_option maxRecDepth 100000 in
theorem parse_long (s : Bytes) (h : s.length = 64) (w : World) (HK : HasK w) :
    Calls Tryd.prog 67 #[.string (strOf s)] w fun x w' => x = .returned (.tuple #[.agg (parsed s).cells.toArray, .bool (parse s).isSome]) ∧ Below w.heap.size w w' := by
  have hs : (strOf s).size = 64 := by rw [strOf_size]; exact h
  have hs2 : ((strOf s).size : Int) = 64 := by omega
  have C1 : Hid (∀ W, Calls Tryd.prog 86 #[.string (strOf s), .int .i64 2, .int .i64 1] W fun x w' => x = .returned (.int .i64 (getI ((s.drop 2).take 1))) ∧ W = w') := Lib.hid (fun W => decode_at s 2 1 (.inl rfl) (by decide) (by omega) (by omega) W)
  have C2 : Hid (∀ W, Calls Tryd.prog 86 #[.string (strOf s), .int .i64 4, .int .i64 4] W fun x w' => x = .returned (.int .i64 (getI ((s.drop 4).take 4))) ∧ W = w') := Lib.hid (fun W => decode_at s 4 4 (.inr rfl) (by decide) (by omega) (by omega) W)
  have C3 : Hid (∀ W, Calls Tryd.prog 86 #[.string (strOf s), .int .i64 3, .int .i64 1] W fun x w' => x = .returned (.int .i64 (getI ((s.drop 3).take 1))) ∧ W = w') := Lib.hid (fun W => decode_at s 3 1 (.inl rfl) (by decide) (by omega) (by omega) W)
  have C4 : Hid (∀ W, Calls Tryd.prog 86 #[.string (strOf s), .int .i64 8, .int .i64 4] W fun x w' => x = .returned (.int .i64 (getI ((s.drop 8).take 4))) ∧ W = w') := Lib.hid (fun W => decode_at s 8 4 (.inr rfl) (by decide) (by omega) (by omega) W)
  have HCB := Lib.hid (fun W HK => build_any (fields s) W HK)
  have HM := Lib.hid (str_mid s)
  have HHK := Lib.hid HK
  have HPY : Hid ((fields s).valid = true → (fields s).blk = s → parse s = some (fields s)) := Lib.hid (fun h1 h2 => by unfold parse; rw [if_pos ⟨h, h1, h2⟩])
  have HPN : Hid ((fields s).valid = false ∨ (fields s).blk ≠ s → parse s = none) := Lib.hid (fun h1 => by
    unfold parse; rw [if_neg]; rintro ⟨-, h2, h3⟩; exact h1.elim (fun e => by rw [e] at h2; cases h2) (fun e => e h3))
  have HF : Hid ((fields s).cells = [.int .i64 (getI ((s.drop 2).take 1)), .int .i64 (getI ((s.drop 4).take 4)), .int .i64 (getI ((s.drop 3).take 1)), .int .i64 (getI ((s.drop 8).take 4)), .string (strOf ((s.drop 12).take 32))]) := Lib.hid rfl
  unfold parsed
  generalize getI ((s.drop 2).take 1) = n1 at C1 HF
  generalize getI ((s.drop 4).take 4) = n2 at C2 HF
  generalize getI ((s.drop 3).take 1) = n3 at C3 HF
  generalize getI ((s.drop 8).take 4) = n4 at C4 HF
  generalize strOf ((s.drop 12).take 32) = m at HM HF
  generalize fields s = E at *
  generalize parse s = PS at *
  clear h HK
  go_enter Tryd.func67, Tryd.ntmps67
  go_wp2_with fail
  go_region_held3 (fun _ => True) (trivial) (first
    | (go_at_call 86; (with_reducible refine (C1.out _).mono ?_); rintro e W3 ⟨rfl, rfl⟩)
    | (go_at_call 86; (with_reducible refine (C2.out _).mono ?_); rintro e W3 ⟨rfl, rfl⟩)
    | (go_at_call 86; (with_reducible refine (C3.out _).mono ?_); rintro e W3 ⟨rfl, rfl⟩)
    | (go_at_call 86; (with_reducible refine (C4.out _).mono ?_); rintro e W3 ⟨rfl, rfl⟩))
  all_goals
    rw [HM.out]
    have HT := two_new w Ent.zero E 47 47
    rw [HF.out] at HT
    replace HT : EB ((w.alloc (.cells #[.int .i64 0, .int .i64 0, .int .i64 0, .int .i64 0, .string ⟨#[]⟩] 47)).alloc (.cells #[.int .i64 n1, .int .i64 n2, .int .i64 n3, .int .i64 n4, .string m] 47)).drew w.heap.size Ent.zero ∧
      EB ((w.alloc (.cells #[.int .i64 0, .int .i64 0, .int .i64 0, .int .i64 0, .string ⟨#[]⟩] 47)).alloc (.cells #[.int .i64 n1, .int .i64 n2, .int .i64 n3, .int .i64 n4, .string m] 47)).drew (w.heap.size + 1) E ∧
      Below w.heap.size w ((w.alloc (.cells #[.int .i64 0, .int .i64 0, .int .i64 0, .int .i64 0, .string ⟨#[]⟩] 47)).alloc (.cells #[.int .i64 n1, .int .i64 n2, .int .i64 n3, .int .i64 n4, .string m] 47)).drew := HT
    generalize ((w.alloc (.cells #[.int .i64 0, .int .i64 0, .int .i64 0, .int .i64 0, .string ⟨#[]⟩] 47)).alloc (.cells #[.int .i64 n1, .int .i64 n2, .int .i64 n3, .int .i64 n4, .string m] 47)).drew = W5 at HT ⊢
    have HT5 := Lib.hid HT
    clear HT
    have hcb := HCB.out W5 (HHK.out.later HT5.out.2.2)
    have CB := Lib.hid hcb
    clear hcb
    have HI := Lib.hid (e_info E)
    go_wp2_with (first
      | (refine wpList_load_mid rfl 47 _ rfl (w.heap.size + 1) 0 rfl E.cells _ HT5.out.2.1.cells Tryd.underlying47 rfl HI.out ?_))
    refine CB.out.mono ?_
    rintro x W6 ⟨rfl, hb6⟩
    have HR := Lib.hid (HT5.out.1.later hb6)
    have HE := Lib.hid (HT5.out.2.1.later hb6)
    have HB6 := Lib.hid (chain2 HT5.out.2.2 hb6)
    clear hb6 CB HT5
    cases hv : E.valid with
    | false =>
      have hps := HPN.out (.inl hv)
      go_wp2_with (first
        | (refine wpList_store_mid rfl 47 _ _ rfl w.heap.size 0 Ent.zero.cells.toArray rfl rfl HR.out.room (e_infoA Ent.zero) (e_all Ent.zero) ?_; have HR2 : Hid (EB (W6.setCells w.heap.size 0 Ent.zero.cells.toArray.toList) w.heap.size Ent.zero ∧ Below w.heap.size w (W6.setCells w.heap.size 0 Ent.zero.cells.toArray.toList)) := Lib.hid ⟨HR.out.set Ent.zero, below_setCells HB6.out _ (Nat.le_refl _) _ _ _ HB6.out⟩; generalize World.setCells _ _ _ _ = W8 at HR2 ⊢))
      refine bodyPost_ret (results_cell2 rfl _ _ rfl HR2.out.1.cells Tryd.underlying47 rfl (e_info _)) rfl ?_
      exact ⟨by rw [hps]; rfl, HR2.out.2⟩
    | true =>
      by_cases hbs : E.blk = s
      · have hps := HPY.out hv hbs
        rw [if_pos rfl, if_pos rfl, hbs]
        go_wp2_with (first
          | (refine wpList_load_mid rfl 47 _ rfl (w.heap.size + 1) 0 rfl E.cells _ HE.out.cells Tryd.underlying47 rfl HI.out ?_)
          | (refine wpList_store_mid rfl 47 _ _ rfl w.heap.size 0 E.cells.toArray rfl rfl HR.out.room (e_infoA E) (e_all E) ?_; have HR2 : Hid (EB (W6.setCells w.heap.size 0 E.cells.toArray.toList) w.heap.size E ∧ Below w.heap.size w (W6.setCells w.heap.size 0 E.cells.toArray.toList)) := Lib.hid ⟨HR.out.set E, below_setCells HB6.out _ (Nat.le_refl _) _ _ _ HB6.out⟩; generalize World.setCells _ _ _ _ = W8 at HR2 ⊢))
        refine bodyPost_ret (results_cell2 rfl _ _ rfl HR2.out.1.cells Tryd.underlying47 rfl (e_info _)) rfl ?_
        exact ⟨by rw [hps]; rfl, HR2.out.2⟩
      · have hps := HPN.out (.inr hbs)
        have q1 := str_neq hbs
        rw [if_pos rfl, if_pos rfl]
        generalize strOf E.blk = xb at *
        go_wp2_with (first
          | (refine wpList_store_mid rfl 47 _ _ rfl w.heap.size 0 Ent.zero.cells.toArray rfl rfl HR.out.room (e_infoA Ent.zero) (e_all Ent.zero) ?_; have HR2 : Hid (EB (W6.setCells w.heap.size 0 Ent.zero.cells.toArray.toList) w.heap.size Ent.zero ∧ Below w.heap.size w (W6.setCells w.heap.size 0 Ent.zero.cells.toArray.toList)) := Lib.hid ⟨HR.out.set Ent.zero, below_setCells HB6.out _ (Nat.le_refl _) _ _ _ HB6.out⟩; generalize World.setCells _ _ _ _ = W8 at HR2 ⊢))
        refine bodyPost_ret (results_cell2 rfl _ _ rfl HR2.out.1.cells Tryd.underlying47 rfl (e_info _)) rfl ?_
        exact ⟨by rw [hps]; rfl, HR2.out.2⟩

theorem parse_any (s : Bytes) (w : World) (HK : HasK w) :
    Calls Tryd.prog 67 #[.string (strOf s)] w fun x w' => x = .returned (.tuple #[.agg (parsed s).cells.toArray, .bool (parse s).isSome]) ∧ Below w.heap.size w w' := by
  by_cases h : s.length = 64
  · exact parse_long s h w HK
  · have e : parse s = none := by unfold parse; rw [if_neg (fun h' => h h'.1)]
    have := parse_short s h w
    unfold parsed
    rw [e]; exact this

end Go.Proofs.YtkplmaaeggnbgaaDoor.Rg
