/- The walk of the document's unary: its contract. The walk of the document's prim: its contract. No condition but those that each states. -/
import Derived.Test.YtemlceicmpcboaaGreatDoorMgQ
import Derived.Test.YtemlceicmpcboaaGreatDoorMgE
import Derived.Test.YtemlceicmpcboaaGreatDoorMgG
namespace Go.Proofs.YtemlceicmpcboaaGreatDoor.Pa
open Go.RowKit Dk Lx Tr

/-- The operations of one operand. -/
def uns : List (List UInt8) := [[45], [110, 111, 116], [108, 101, 110]]
/-- One kid behind a token. -/
theorem Sz.over {s s' : St} {i0 n : Nat} (h : Sz 2 (.ok (i0 + 1)) s' n) (hs : s = .ok i0) (hl : i0 + 1 ≤ atS s') : Sz 2 s s' (n + 1) := by
  subst hs
  refine ⟨fun k hk => (by cases hk), fun i k h1 h2 => ?_⟩
  cases h1
  have h3 := h.2 _ k rfl h2
  rw [h2] at hl
  have h4 : i0 + 1 ≤ k := hl
  omega

/-- A node of one kid that was just read. -/
theorem un_join {L : List Tk} {g : Nat} {vt : Value} {a : Sy} {s s' : St} {w w' : World} {p : Option Addr} {m c : Nat} {t : List Nd} (x : Nd) (hk : RfOk L g vt a 2 s w w' (.slice p m c) t s') (hp : phi a ≤ 0) (hf : L.length ≤ 1000000) :
    Calls Tryz.prog 78 #[.agg x.cells.toArray, .slice (some ⟨w'.heap.size, 0, none⟩) 1 1] (w'.alloc (.cells #[Value.slice p m c] 23)) fun e w'' => ∃ u, e = .returned u ∧ NR (w'.alloc (.cells #[Value.slice p m c] 23)) w'' u (join x [t]) := by
  have h1 := hk.len hp
  have h2 := hk.rs.le
  exact join_any x _ [(Value.slice p m c, t)] _ (ks_lit (cs := [(Value.slice p m c, t)]) (fun c hc => by rw [List.mem_singleton.1 hc]; exact hk.row.weaken (fun _ _ h => h.elim)) (by simp) _ 1 rfl) (by simp) (by simpa using (by omega : t.length ≤ 10000000))

/-- Rows that a call handed back, put behind a row of the call's own. -/
theorem run_append_kr {W : World} {base base2 : Nat} (t ty : TypeId) (i : TypeInfo) (ht : Tryz.prog.underlying t = some (.slice 23)) (hi : Tryz.prog.info? 23 = some i) (hz : i.zero = some (.slice none 0 0)) (hsz : i.size = 1) (hby : i.bytes = 24)
    (v : Value) (n : Nat) (xs : List Value) (hown : W.ownsRow base 23 1 v n xs) (hn : 0 < n) (q : Option Addr) (m c : Nat) (ys : List Value) (hy : W.ownsRow base2 23 1 (.slice q m c) m ys) (hone : ∀ u ∈ ys, u.oneCell' = true)
    (h63 : n + m ≤ maxLen) (hbytes : (n + m) * 24 ≤ 140737488355328) (hbase : base ≤ W.heap.size) :
    ∃ g cap W', (Builtin.append_ #[t, t] ty #[v, .slice q m c]).run Tryz.prog W = .ok (.slice (some ⟨g, 0, none⟩) (n + m) cap) W' ∧ W'.ownsRow base 23 1 (.slice (some ⟨g, 0, none⟩) (n + m) cap) (n + m) (xs ++ ys) ∧ W.grownBy W' v.ownBlock := by
  rcases hy.2 with ⟨hv, hm⟩ | ⟨r, cr, cur, hv, -⟩
  · cases hv
    have hys : ys = [] := List.eq_nil_of_length_eq_zero (by have := hy.1; omega)
    subst hys
    obtain ⟨g, cap, rfl⟩ := Tr.own_form hown hn
    exact ⟨g, cap, W, append_nilN base t ty _ i 1 ht hi _ n xs hown, by rw [List.append_nil]; exact hown, grown_refl _ _⟩
  · cases hv
    obtain ⟨v', w', hr, h2, h3, _, h5⟩ := run_append_own_at (P := Tryz.prog) W base t ty _ i (.slice none 0 0) 1 24 ht hi hz hsz hby rfl (by decide) v n xs hown ⟨r, 0, none⟩ m c ys (by have := hy.1; omega) (fun j u hu => hy.cells (g := r) rfl j u hu) hone h63 hbytes hbase
    obtain ⟨g, cap, rfl, _, hlt⟩ := h2.form (by omega)
    exact ⟨g, cap, w', hr, h2, h3⟩

theorem wpList_append_kr {W : World} {ops : Array Oper} {rest : List Oper} {o : Oper} {a : Act} {Q : Exit → Act → World → Prop} (hgd : o.guard = none) (s x : Operand) (t : TypeId)
    (ho : o.op = .call { callee := .builtin .append, args := #[s, x], argTypes := #[t, t] }) {base base2 : Nat} (i : TypeInfo) (ht : Tryz.prog.underlying t = some (.slice 23)) (hi : Tryz.prog.info? 23 = some i) (hz : i.zero = some (.slice none 0 0)) (hsz : i.size = 1) (hby : i.bytes = 24)
    (v : Value) (n : Nat) (xs : List Value) (hs : a.eval s = v) (hown : W.ownsRow base 23 1 v n xs) (hn : 0 < n) (q : Option Addr) (m c : Nat) (ys : List Value) (hx : a.eval x = .slice q m c) (hy : W.ownsRow base2 23 1 (.slice q m c) m ys) (hone : ∀ u ∈ ys, u.oneCell' = true)
    (h63 : n + m ≤ maxLen) (hbytes : (n + m) * 24 ≤ 140737488355328) (hbase : base ≤ W.heap.size)
    (h : ∀ g cap w', w'.ownsRow base 23 1 (.slice (some ⟨g, 0, none⟩) (n + m) cap) (n + m) (xs ++ ys) → W.grownBy w' v.ownBlock → wpList Tryz.prog ops Q rest (a.put o.dst (.slice (some ⟨g, 0, none⟩) (n + m) cap)) w') : wpList Tryz.prog ops Q (o :: rest) a W := by
  refine wpList_plain hgd fun K hK => ?_
  obtain ⟨g, cap, w', hr, h2, h3⟩ := run_append_kr (W := W) t o.type i ht hi hz hsz hby v n xs hown hn q m c ys hy hone h63 hbytes hbase
  unfold Oper.wp
  simp [execOp, ho, resolve, invoke, builtin, hs, hx, hr, Result.andThen]
  exact hK _ _ (h g cap w' h2 h3)

theorem KsW.of_own {W : World} {base n : Nat} {v : Value} {cs : List (Value × List Nd)} (h : W.ownsRow base 23 1 v n (cs.map (·.1))) (hn : n = cs.length) (hk : ∀ c ∈ cs, NdX W (fun _ => False) c.1 c.2) : KsW W (fun _ => False) v cs := by
  subst hn
  refine ⟨?_, hk⟩
  rcases h.2 with ⟨hv, h0⟩ | ⟨g, cap, cur, hv, hbg, hg, h3, h4, h5, h6⟩
  · exact ⟨none, 0, by rw [hv, h0], by omega, .inl (List.eq_nil_of_length_eq_zero h0)⟩
  · have hrow := h
    rw [hv] at hrow
    exact ⟨_, cap, hv, h3, .inr ⟨g, 0, rfl, (Tr.own_lo h g (by rw [hv]; rfl)).2, ownsRow_range hrow⟩⟩

/-- The rows of a call: what is called, and its arguments. -/
theorem call_rows {w w4 w6 w7 : World} {g : Nat} {ve v vr : Value} {t : List Nd} {cs : List (Value × List Nd)} {o : Obj} (_hw : w.heap.size ≤ w4.heap.size) (hg : g < w.heap.size) (R4 : NdX w4 (fun k => k < w.heap.size) ve t)
    (ho : Only (fun k => k = g) (w4.alloc o) w6) (hkr : KR (w4.alloc o) w6 v cs)
    (hrow : w7.ownsRow w4.heap.size 23 1 vr (1 + cs.length) ([ve] ++ cs.map (·.1))) (hgr : w6.grownBy w7 (some w4.heap.size)) :
    KsW w7 (fun _ => False) vr ((ve, t) :: cs) ∧ Only (fun k => some w4.heap.size = some k) w6 w7 := by
  have hs5 : (w4.alloc o).heap.size = w4.heap.size + 1 := by simp
  have hon : Only (fun k => some w4.heap.size = some k) w6 w7 := Only.of_grown (F := fun k => some w4.heap.size = some k) hgr (fun _ h => h)
  refine ⟨KsW.of_own hrow (by rw [List.length_cons, Nat.add_comm]) (fun c hc => ?_), hon⟩
  rcases List.mem_cons.1 hc with rfl | hc
  · have h1 : NdX w4 (fun k => k < w.heap.size ∨ w4.heap.size ≤ k) ve t := R4.weaken (fun i hi h => h.elim id (fun h => absurd h (by omega)))
    have h2 := h1.only (Only.of_below (F := fun _ => False) ((Below.refl _ _).alloc (Nat.le_refl _) o)) (fun _ _ h => h.elim)
    have h3 := h2.only ho (fun i _ hi => .inl (by omega))
    have h4 := h3.only hon (fun i _ hi => .inr (by cases hi; exact Nat.le_refl _))
    exact h4.weaken (fun _ _ h => h.elim)
  · have h1 := (hkr.kids c hc).only hon (fun i _ hi => .inl (by cases hi; omega))
    exact h1.weaken (fun _ _ h => h.elim)

theorem Leads.atleast {L : List Tk} {A B : List Sy} {us ts : List (List Nd)} {i j : Nat} (h : Leads L A us (.ok i) B ts (.ok j)) : i + mtS A ≤ j + mtS B := by
  have := to_mt (k := i + mtS A) (h [] []) (show i + mtS A ≤ i + mtS (A ++ []) by rw [List.append_nil]; exact Nat.le_refl _)
  have h2 : i + mtS A ≤ j + mtS (B ++ []) := this
  rwa [List.append_nil] at h2

/-- Behind the mark that stands there. -/
theorem Leads.behind {L : List Tk} {q : List UInt8} {A B : List Sy} {b : Sy} {us ts : List (List Nd)} {j : Nat} {s' : St} (h : Leads L (.mark q :: A) us (.ok j) (b :: B) ts s') (hq : sg L j = q) (hb : b ≠ .mark q) : Leads L A us (.ok (j + 1)) (b :: B) ts s' := by
  have hst : ∀ K V, step L (.run (.mark q :: A ++ K) V j) = .run (A ++ K) V (j + 1) := fun K V => by
    show (match (if sg L j = q then some (([] : List Sy), V, j + 1) else none) with | some (B, V', j) => Cfg.run (B ++ (A ++ K)) V' j | none => .bad j) = _
    rw [if_pos hq]
    rfl
  cases s' with
  | ok i =>
    intro K V
    obtain ⟨n, hn⟩ := h K V
    cases n with
    | zero =>
      have h1 : Cfg.run (.mark q :: A ++ K) (us.reverse ++ V) j = .run (b :: B ++ K) (ts.reverse ++ V) i := hn
      simp only [Cfg.run.injEq, List.cons_append, List.cons.injEq] at h1
      exact absurd h1.1.1.symm hb
    | succ n => exact ⟨n, by rw [← hst K]; exact hn⟩
  | bad k =>
    intro K V
    obtain ⟨n, hn⟩ := h K V
    cases n with
    | zero => cases (show Cfg.run _ _ _ = .bad k from hn)
    | succ n => exact ⟨n, by rw [← hst K]; exact hn⟩

/-- A call, behind its arguments. -/
theorem call_leads {L : List Tk} {g : Nat} {vt : Value} {s : St} {j : Nat} {t : List Nd} {w w' : World} {v : Value} {cs : List (Value × List Nd)} {s4 : St} (h : Leads L [.e 5] [] s [.post] [t] (.ok j)) (hq : sg L j = [40]) (hk : ArOk L g vt false 3 (.ok j) w w' v cs s4) :
    Leads L [.e 5] [] s [.post] [join (nd 22) (t :: cs.map (·.2))] s4 := by
  have h1 := h.trans (post_call [t] hq)
  have h2 := (Leads.behind (hk.leads (nd 22) 1) hq (by intro h; cases h)).over [.post] [t]
  have h3 := ((lC_args (x := nd 22) (m := 1 + cs.length) (t :: cs.map (·.2)) s4).trans (Leads.mk (L := L) (nd 22) (t :: cs.map (·.2)) (1 + cs.length) (by simp [Nat.add_comm]) s4)).over [.post] []
  rw [List.append_nil] at h2
  exact (h1.trans h2).trans h3

theorem un_leads {L : List Tk} {x : Nd} {t : List Nd} {s s4 s5 : St} (h : Leads L [.e 5] [] s [.e 5, .mk x 1] [] s4) (hk : Leads L [.e 5] [] s4 [] [t] s5) : Leads L [.e 5] [] s [] [join x [t]] s5 := by
  have h1 := hk.over [.mk x 1] []
  exact (h.trans h1).trans (Leads.mk (L := L) x [t] 1 rfl s5)

set_option maxHeartbeats 4000000 in
set_option maxRecDepth 100000 in
theorem unary_any (L : List Tk) (n : Nat) (hU : RfN L 250 (.e 5) 2 n) (hE : RfN L 205 (.e 0) 2 n) (s : St) (hP : Rf L 260 .prim 2 s) (hs : mu L s ≤ n) : Rf L 250 (.e 5) 2 s := by
  intro g vt w h
  have HU := Lib.hid hU
  have HE := Lib.hid hE
  have HP := Lib.hid hP
  have H0 := Lib.hid (OnR.start h)
  have HT := Lib.hid (fun W (hp : RS L g vt W s) q (hq : q ≠ []) => take_any hp q hq)
  have HLT := Lib.hid h.lt
  have HFEW := Lib.hid h.few
  have HMU := Lib.hid hs
  obtain ⟨i0, hi0, hy0, hy1, hy2⟩ := info_parts nds_info3
  clear h hU hE hP hs
  obtain ⟨T, hT⟩ : ∃ T, T = uns := ⟨_, rfl⟩
  have HTU := Lib.hid hT
  have HLIT : Hid (∀ W : World, ((W.alloc (.cells (strCells T).toArray 9)).rangeAt W.heap.size 0 (strCells T)) ∧ W.heap.size < (W.alloc (.cells (strCells T).toArray 9)).heap.size) := Lib.hid (fun W => ⟨range_new W (strCells T) 9, by simp⟩)
  have HNE : Hid (∀ q ∈ T, q ≠ []) := Lib.hid (by subst hT; decide)
  go_enter Tryz.func250, Tryz.ntmps250
  go_upto_region 2 with fail
  have hstr : (#[Value.string ⟨#[45]⟩, Value.string ⟨#[110, 111, 116]⟩, Value.string ⟨#[108, 101, 110]⟩] : Array Value) = (strCells T).toArray := by rw [hT]; rfl
  rw [hstr]
  have O0 := Lib.hid (H0.out.alloc (.cells (strCells T).toArray 9))
  have HL0 := Lib.hid (HLIT.out w)
  have HBG : Hid (w.heap.size ≠ g) := Lib.hid (by have := HLT.out; omega)
  clear hstr hT
  obtain ⟨w0, hw0⟩ : ∃ w0, w0 = w.alloc (.cells (strCells T).toArray 9) := ⟨_, rfl⟩
  have HW0 : Hid (w0.heap.size = w.heap.size + 1) := Lib.hid (by rw [hw0]; simp)
  rw [← hw0] at O0 HL0
  clear HLIT
  rw [← hw0]
  clear hw0
  have hm3 : T.length = 3 := by rw [HTU.out]; rfl
  obtain ⟨B, hB⟩ : ∃ B, B = w.heap.size := ⟨_, rfl⟩
  have HBW := Lib.hid hB
  rw [← hB] at HL0 HBG ⊢
  clear hB
  have HM3 := Lib.hid hm3
  clear hm3
  go_wp2_with fail
  go_loopw [4] (fun vi wr => ∃ i : Nat, i ≤ 3 ∧ vi = .int .i64 (i : Int) ∧ Hid (OnR L g vt w wr s) ∧ Hid (B < wr.heap.size ∧ wr.rangeAt B 0 (strCells T)) ∧ Hid (∀ j (hj : j < T.length), j < i → isS L T[j] s = false)) (fun vi _ => 3 - (intOf vi).toNat)
  case atStart => exact ⟨0, Nat.zero_le _, rfl, O0, Lib.hid ⟨HL0.out.2, HL0.out.1⟩, Lib.hid (fun j _ h => by omega)⟩
  case round =>
    obtain ⟨i, hi, rfl, HO, HRW, HA⟩ := hrel
    by_cases hlt : i < 3
    · have hil : i < T.length := by rw [HM3.out]; exact hlt
      have hc1 : wr.cell? ⟨B, i, none⟩ = some (.string (strOf T[i])) := by
        have := HRW.out.2 i (.string (strOf T[i])) (by unfold strCells; rw [List.getElem?_map, List.getElem?_eq_getElem hil]; rfl)
        rwa [Nat.zero_add] at this
      have hmem := List.getElem_mem hil
      have X1 := Lib.hid (HT.out wr HO.out.ps T[i] (HNE.out _ hmem))
      have HA2 : Hid (isS L T[i] s = false → ∀ j (hj : j < T.length), j < i + 1 → isS L T[j] s = false) := Lib.hid (fun h j hj hji => by
        by_cases e : j = i
        · subst e; exact h
        · exact HA.out j hj (by omega))
      have HMM : Hid (T[i] ∈ uns) := Lib.hid (by rw [← HTU.out]; exact hmem)
      have z0 : (0 : Int) ≤ (i : Int) := by omega
      have z1 : (i : Int) < 3 := by omega
      generalize T[i] = q at *
      clear hmem hil HA
      cases hq : isS L q s with
      | true =>
        rw [hq] at X1
        obtain ⟨j0, hj0, hg0, ht0⟩ := takeS_yes hq
        have HJ0 := Lib.hid hj0
        have HT0 := Lib.hid ht0
        rw [ht0] at X1
        have hjl : j0 < L.length := sg_lt (by
          rw [hg0]
          intro e
          have h1 := HMM.out
          rw [e] at h1
          exact absurd h1 (by decide))
        have HM4 : Hid (mu L (.ok (j0 + 1)) < n) := Lib.hid (by
          have h1 := HMU.out
          rw [hj0] at h1
          exact Nat.lt_of_lt_of_le (show L.length - (j0 + 1) + 1 < L.length - j0 + 1 by omega) h1)
        have HL1 : Hid (Leads L [.e 5] [] s [.e 5, .mk { nd 28 with text := q } 1] [] (.ok (j0 + 1))) := Lib.hid (by
          rw [hj0]
          have h1 := HMM.out
          rw [← hg0] at h1 ⊢
          exact e5_un h1)
        have E4 := Lib.hid (HU.out _ HM4.out)
        clear hq HA2 hj0 hg0 ht0
        go_wp2_with fail
        refine X1.out.mono ?_
        rintro e w2 ⟨rfl, hp, ho⟩
        have O2 := Lib.hid (HO.out.call hp ho)
        have hc2 : w2.cell? ⟨B, i, none⟩ = some (.string (strOf q)) := (World.cell?_of_block (a := ⟨B, i, none⟩) (ho.block B HRW.out.1 HBG.out)).trans hc1
        have HB2 : Hid (B < w2.heap.size) := Lib.hid (Nat.lt_of_lt_of_le HRW.out.1 ho.size)
        clear hp ho hc1 X1
        go_upto_region 6 with fail
        go_region_law (first
          | (go_simp; go_at_call 250; refine (E4.out g vt _ (O2.out.below (Below.refl _ _).drew).ps).mono ?_; rintro e w3 ⟨u, t, s5, rfl, hk⟩; obtain ⟨up, un, uc, rfl⟩ := hk.row.form; have O3 := Lib.hid ((O2.out.below (Below.refl _ _).drew).call hk.rs hk.only); have hc3 : w3.cell? ⟨B, i, none⟩ = some (.string (strOf q)) := (World.cell?_of_block (a := ⟨B, i, none⟩) (hk.only.block B (HB2.out) HBG.out)).trans hc2; have HK := Lib.hid hk; have J1 := Lib.hid (un_join { nd 28 with text := q } hk (Int.le_refl 0) HFEW.out); simp only [Nd.cells] at J1; have HB3 := Lib.hid (Nat.lt_of_lt_of_le HB2.out hk.only.size); have hc3a : (w3.alloc (.cells #[Value.slice up un uc] 23)).cell? ⟨B, i, none⟩ = some (.string (strOf q)) := (World.cell?_of_block (a := ⟨B, i, none⟩) (((Below.refl w3.heap.size w3).alloc (Nat.le_refl _) (.cells #[Value.slice up un uc] 23)).block B HB3.out)).trans hc3; clear hk)
          | (go_simp; go_at_call 78; refine J1.out.mono ?_; rintro e w4 ⟨u2, rfl, hr2⟩; have HR4 := Lib.hid hr2; clear hr2))
        all_goals
          have O4 := Lib.hid ((O3.out.alloc (.cells #[Value.slice up un uc] 23)).below HR4.out.below)
          have HL5 : Hid (Leads L [.e 5] [] s [] [join { nd 28 with text := q } [t]] s5) := Lib.hid (un_leads HL1.out HK.out.leads)
          have HX5 : Hid (NdX w4 (fun k => k < w.heap.size) u2 (join { nd 28 with text := q } [t])) := Lib.hid (NdX.of_own (_w := w) HR4.out.row (by simp [join]) (fun b hb hx => by have := O3.out.only.size; simp at hb; omega))
          have HZ5 : Hid (Sz 2 s s5 (join { nd 28 with text := q } [t]).length) := Lib.hid (by
            have := Sz.over HK.out.size HJ0.out HK.out.le
            simpa [join] using this)
          have HLE5 : Hid (atS s ≤ atS s5) := Lib.hid (by rw [HJ0.out]; exact Nat.le_trans (Nat.le_succ _) HK.out.le)
          generalize join { nd 28 with text := q } [t] = tj at *
          go_wp2
          go_ret
          exact ⟨_, tj, s5, rfl, ⟨HL5.out, O4.out.ps, O4.out.only, HX5.out, HLE5.out, HZ5.out⟩⟩
      | false =>
        rw [hq] at X1
        have HT2 : Hid (takeS L q s = s) := Lib.hid (takeS_no hq)
        have HA3 := Lib.hid (HA2.out hq)
        rw [HT2.out] at X1
        clear hq HA2
        go_wp2_with fail
        refine X1.out.mono ?_
        rintro e w2 ⟨rfl, hp, ho⟩
        have O2 := Lib.hid (HO.out.call hp ho)
        have HRW2 : Hid (B < w2.heap.size ∧ w2.rangeAt B 0 (strCells T)) := Lib.hid ⟨Nat.lt_of_lt_of_le HRW.out.1 ho.size, rangeAt_block HRW.out.2 (ho.block B HRW.out.1 HBG.out)⟩
        clear hp ho hc1 X1
        go_wp2
        go_roundw
        case rel => exact ⟨i + 1, by omega, by go_num, O2, HRW2, HA3⟩
        case measure => simp [intOf]; omega
    · obtain rfl : i = 3 := by omega
      have HALL : Hid (∀ q ∈ uns, isS L q s = false) := Lib.hid (fun q hq => by
        rw [← HTU.out] at hq
        obtain ⟨j, hj, rfl⟩ := List.getElem_of_mem hq
        exact HA.out j hj (by have := HM3.out; omega))
      clear HA hlt hi HRW
      have X2 := Lib.hid (HT.out wr HO.out.ps [115, 112, 97, 119, 110] (by decide))
      cases hq : isS L [115, 112, 97, 119, 110] s with
      | true =>
        rw [hq] at X2
        obtain ⟨j0, hj0, hg0, ht0⟩ := takeS_yes hq
        have HJ0 := Lib.hid hj0
        rw [ht0] at X2
        have hjl : j0 < L.length := sg_lt (by rw [hg0]; decide)
        have HM4 : Hid (mu L (.ok (j0 + 1)) < n) := Lib.hid (by
          have h1 := HMU.out
          rw [hj0] at h1
          exact Nat.lt_of_lt_of_le (show L.length - (j0 + 1) + 1 < L.length - j0 + 1 by omega) h1)
        have HL1 : Hid (Leads L [.e 5] [] s [.e 5, .mk (nd 30) 1] [] (.ok (j0 + 1))) := Lib.hid (by
          rw [hj0]
          exact e5_spawn hg0)
        have E4 := Lib.hid (HU.out _ HM4.out)
        clear hq hj0 hg0 ht0
        go_wp2_with fail
        refine X2.out.mono ?_
        rintro e w2 ⟨rfl, hp, ho⟩
        have O2 := Lib.hid (HO.out.call hp ho)
        clear hp ho X2
        go_wp2_with fail
        refine (E4.out g vt _ O2.out.ps).mono ?_
        rintro e w3 ⟨u, t, s5, rfl, hk⟩
        obtain ⟨up, un, uc, rfl⟩ := hk.row.form
        have O3 := Lib.hid (O2.out.call hk.rs hk.only)
        have HK := Lib.hid hk
        have J1 := Lib.hid (un_join (nd 30) hk (Int.le_refl 0) HFEW.out)
        simp only [Nd.cells] at J1
        clear hk
        go_wp2_with (go_at_call 78; refine J1.out.mono ?_; rintro e w4 ⟨u2, rfl, hr2⟩; have HR4 := Lib.hid hr2; clear hr2)
        have O4 := Lib.hid ((O3.out.alloc (.cells #[Value.slice up un uc] 23)).below HR4.out.below)
        have HL5 : Hid (Leads L [.e 5] [] s [] [join (nd 30) [t]] s5) := Lib.hid (un_leads HL1.out HK.out.leads)
        have HX5 : Hid (NdX w4 (fun k => k < w.heap.size) u2 (join (nd 30) [t])) := Lib.hid (NdX.of_own (_w := w) HR4.out.row (by simp [join]) (fun b hb hx => by have := O3.out.only.size; simp at hb; omega))
        have HZ5 : Hid (Sz 2 s s5 (join (nd 30) [t]).length) := Lib.hid (by
          have := Sz.over HK.out.size HJ0.out HK.out.le
          simpa [join] using this)
        have HLE5 : Hid (atS s ≤ atS s5) := Lib.hid (by rw [HJ0.out]; exact Nat.le_trans (Nat.le_succ _) HK.out.le)
        go_ret
        exact ⟨_, _, s5, rfl, ⟨HL5.out, O4.out.ps, O4.out.only, HX5.out, HLE5.out, HZ5.out⟩⟩
      | false =>
        rw [hq] at X2
        have HT2 : Hid (takeS L [115, 112, 97, 119, 110] s = s) := Lib.hid (takeS_no hq)
        rw [HT2.out] at X2
        have HLP : Hid (Leads L [.e 5] [] s [.prim, .post] [] s) := Lib.hid (by
          cases hs : s with
          | bad k => exact rfl
          | ok j =>
            have h2 := HALL.out
            rw [hs] at hq h2
            refine e5_post (fun e => ?_) (fun hm => ?_)
            · rw [isS_ok.2 (show sg L j = _ from e)] at hq; cases hq
            · have := h2 _ hm
              rw [isS_ok.2 (show sg L j = sgS L (.ok j) from rfl)] at this; cases this)
        clear hq HALL
        go_wp2_with fail
        refine X2.out.mono ?_
        rintro e w2 ⟨rfl, hp, ho⟩
        have O2 := Lib.hid (HO.out.call hp ho)
        clear hp ho X2
        go_wp2_with fail
        refine (HP.out g vt _ O2.out.ps).mono ?_
        rintro e w3 ⟨u, t1, s1, rfl, hk⟩
        obtain ⟨q1, m1, c1, rfl⟩ := hk.row.form
        have O3 := Lib.hid (O2.out.call hk.rs hk.only)
        have HR3 : Hid (NdX w3 (fun k => k < w.heap.size) (.slice q1 m1 c1) t1) := Lib.hid (hk.row.weaken (fun i _ hi => by have := O2.out.only.size; omega))
        have HL1 : Hid (Leads L [.e 5] [] s [.post] [t1] s1) := Lib.hid (HLP.out.trans (hk.leads.over [.post] []))
        have HLE1 := Lib.hid hk.le
        have HZ1 := Lib.hid hk.size
        have HM1 : Hid (mu L s1 ≤ n) := Lib.hid (Nat.le_trans (mu_leR hk.leads.aft hk.le) HMU.out)
        clear hk HP O2
        go_wp2
        go_loopg [5] (mu L s1) (fun k ve wr => ∃ (t : List Nd) (s3 : St) (q : Option Addr) (m c : Nat), ve = .slice q m c ∧ Hid (OnR L g vt w wr s3) ∧ Hid (NdX wr (fun k => k < w.heap.size) (.slice q m c) t) ∧
          Hid (Leads L [.e 5] [] s [.post] [t] s3) ∧ Hid (atS s ≤ atS s3) ∧ Hid (mu L s3 ≤ n) ∧ Hid (Sz 2 s s3 t.length) ∧ Hid (k = mu L s3))
        case atStart => exact ⟨t1, s1, _, _, _, rfl, O3, HR3, HL1, HLE1, HM1, HZ1, Lib.hid rfl⟩
        case round =>
          clear O3 HR3 HL1 HLE1 HM1 HZ1
          obtain ⟨t, s3, q, m, c, rfl, HO, HR, HL, HLE, HMU3, HZ, HK⟩ := hrel
          have c2 := HO.out.ps.at.2.2
          cases hb : isBad s3 with
          | true =>
            rw [hb] at c2
            have HL2 : Hid (Leads L [.e 5] [] s [] [t] s3) := Lib.hid (by
              cases s3 with
              | ok j => cases hb
              | bad k => exact HL.out.any' _ _)
            clear hb
            go_wp2
            go_ret
            exact ⟨_, t, s3, rfl, ⟨HL2.out, HO.out.ps, HO.out.only, HR.out, HLE.out, HZ.out⟩⟩
          | false =>
            rw [hb] at c2
            have HJ : Hid (s3 = .ok (atS s3)) := Lib.hid (by cases s3 with | ok j => rfl | bad k => cases hb)
            clear hb
            have HCO : Hid (∃ i0, s = .ok i0 ∧ t.length + i0 ≤ atS s3) := Lib.hid (by
              have hj := HJ.out
              cases hs : s with
              | bad k =>
                have h1 := HL.out
                rw [hs, hj] at h1
                exact absurd h1 (by intro h; cases h)
              | ok i0 =>
                have h1 := HL.out
                rw [hs, hj] at h1
                have h2 := h1.count
                simp only [cnt, phS, phi] at h2
                exact ⟨i0, rfl, by omega⟩)
            have HI := Lib.hid (is_any HO.out.ps [40] (by decide))
            cases hq : isS L [40] s3 with
            | true =>
              rw [hq] at HI
              obtain ⟨j0, rfl, hg0, -⟩ := takeS_yes hq
              have HG0 := Lib.hid hg0
              have hjl : j0 < L.length := sg_lt (by rw [hg0]; decide)
              have HMK : Hid (mu L (markS L [40] (.ok j0)) < n ∧ mu L (.ok (j0 + 1)) < mu L (.ok j0)) := Lib.hid (by
                have h2 : mu L (.ok (j0 + 1)) < mu L (.ok j0) := (show L.length - (j0 + 1) + 1 < L.length - j0 + 1 by omega)
                rw [show markS L [40] (.ok j0) = .ok (j0 + 1) from if_pos hg0]
                exact ⟨Nat.lt_of_lt_of_le h2 HMU3.out, h2⟩)
              have A4 := Lib.hid (fun W (hp : RS L g vt W (.ok j0)) => args_any L n HE.out (.ok j0) HMK.out.1 g vt W hp)
              clear hq hg0 hjl
              go_wp2_with fail
              refine HI.out.mono ?_
              rintro e w4 ⟨rfl, hb2⟩
              have O4 := Lib.hid (HO.out.below hb2)
              have R4 := Lib.hid (HR.out.only (Only.of_below (F := fun _ => False) hb2) (fun _ _ h => h.elim))
              clear hb2 HI
              have O5 := Lib.hid (O4.out.alloc (.cells #[Value.slice q m c] 23))
              have HLIT := Lib.hid (World.ownsRow_lit (base := w4.heap.size) (size := 1) (e := 23) w4 #[Value.slice q m c] 1 (Nat.le_refl _) (by unfold maxLen; omega) rfl)
              go_wp2_with fail
              refine (A4.out _ O5.out.ps).mono ?_
              rintro e w6 ⟨v, cs, s4, rfl, hk⟩
              obtain ⟨⟨qa, ca, rfl, -⟩, -⟩ := hk.kr.ks
              have O6 := Lib.hid (O5.out.call hk.on.ps hk.on.only)
              have HKR := Lib.hid hk.kr
              have HON := Lib.hid hk.on.only
              have HBS : Hid (w.heap.size ≤ w4.heap.size ∧ w4.heap.size ≤ w6.heap.size) := Lib.hid ⟨O4.out.only.size, by have := hk.on.only.size; simp at this; omega⟩
              have HROW : Hid (w6.ownsRow w4.heap.size 23 1 (.slice (some ⟨w4.heap.size, 0, none⟩) 1 1) 1 [Value.slice q m c]) := Lib.hid (ownsRow_block HLIT.out (fun b hb => hk.on.only.block b (Tr.own_lo HLIT.out b hb).2 (by have := (Tr.own_lo HLIT.out b hb).1; have := HLT.out; have := HBS.out.1; omega)))
              have HONE := Lib.hid (map_ones hk.kr.kids)
              have HN : Hid (1 + cs.length ≤ maxLen ∧ (1 + cs.length) * 24 ≤ 140737488355328) := Lib.hid (by
                have h1 := hk.few
                have h2 := hk.on.ps.le
                have h3 := HFEW.out
                unfold maxLen
                omega)
              have HL5 : Hid (Leads L [.e 5] [] s [.post] [join (nd 22) (t :: cs.map (·.2))] s4) := Lib.hid (call_leads HL.out HG0.out hk)
              have HLE5 : Hid (j0 ≤ atS s4) := Lib.hid hk.le
              have HM5 : Hid (mu L s4 < mu L (.ok j0)) := Lib.hid (by
                cases hs4 : s4 with
                | bad k => exact Nat.succ_pos _
                | ok j4 =>
                  have h1 := hk.leads (nd 22) 1
                  have h3 := hk.on.ps.le
                  rw [hs4] at h1 h3
                  have h2 := h1.atleast
                  simp [mtS, mt] at h2
                  have h4 : j4 ≤ L.length := h3
                  show L.length - j4 + 1 < L.length - j0 + 1
                  omega)
              have hbig : ((((Value.slice q m c, t) :: cs).map (·.2)).flatten).length ≤ 10000000 := by
                obtain ⟨i0, -, h1⟩ := HCO.out
                have h2 := hk.size
                have h3 := hk.on.ps.le
                have h4 := HFEW.out
                have h5 : atS (.ok j0) = j0 := rfl
                rw [List.map_cons, List.flatten_cons, List.length_append]
                show t.length + _ ≤ _
                have h6 := HO.out.ps.le
                omega
              have HBIG := Lib.hid hbig
              have HCS : Hid (((Value.slice q m c, t) :: cs).length ≤ 10000000) := Lib.hid (by
                have h1 := hk.few
                have h2 := hk.on.ps.le
                have h3 := HFEW.out
                rw [List.length_cons]
                omega)
              have HZ5 : Hid (Sz 2 s s4 (join (nd 22) (t :: cs.map (·.2))).length) := Lib.hid (by
                obtain ⟨i0, hi0, h1⟩ := HCO.out
                refine ⟨fun k hk => (by rw [hi0] at hk; cases hk), fun i1 k h2 h3 => ?_⟩
                have e1 : i1 = i0 := by rw [hi0] at h2; cases h2; rfl
                have e2 : atS s4 = k := by rw [h3]; rfl
                have e3 := hk.size
                have e4 : atS (.ok j0) = j0 := rfl
                have e5 := hk.le
                have h7 := HL.out
                rw [hi0] at h7
                have h8 := h7.atleast
                simp [mtS, mt] at h8
                show (t ++ (cs.map (·.2)).flatten).length + 1 ≤ _
                rw [List.length_append]
                omega)
              have HNJ : Hid (join (nd 22) (t :: cs.map (·.2)) ≠ []) := Lib.hid (by simp [join])
              have HJN := Lib.hid (fun v W h => join_any (nd 22) v ((Value.slice q m c, t) :: cs) W h HCS.out HBIG.out)
              clear hk hbig A4
              simp only [Nd.cells, List.map_cons] at HJN
              generalize join (nd 22) (t :: cs.map (·.2)) = tj at *
              go_wp2_with (first
                | (refine wpList_append_kr rfl (.tmp 48) (.tmp 50) 124 rfl i0 Tryz.underlying124 hi0 hy0 hy1 hy2 _ 1 [Value.slice q m c] rfl HROW.out (by decide) qa cs.length ca (cs.map (·.1)) rfl HKR.out.row HONE.out HN.out.1 HN.out.2 HBS.out.2 ?_; intro g7 cap7 w7 hrow hgr; have HP := Lib.hid (call_rows HBS.out.1 HLT.out R4.out HON.out HKR.out hrow hgr); have J1 := Lib.hid (HJN.out _ _ HP.out.1); clear hrow hgr)
                | (go_at_call 78; refine J1.out.mono ?_; rintro e w8 ⟨u2, rfl, hr2⟩; have HR8 := Lib.hid hr2; clear hr2))
              have O7 := Lib.hid (O6.out.own HP.out.2 (fun i hi => by have := HBS.out.1; cases hi; omega))
              have O8 := Lib.hid (O7.out.below HR8.out.below)
              have HX : Hid (NdX w8 (fun k => k < w.heap.size) u2 tj) := Lib.hid (NdX.of_own (_w := w) HR8.out.row HNJ.out (fun b hb hx => by have := O7.out.only.size; omega))
              obtain ⟨p2, n2, cc2, rfl⟩ := HX.out.form
              clear HR8 J1 HP HJN
              go_wp2
              go_roundg (mu L s4)
              case rel => exact ⟨tj, s4, _, _, _, rfl, O8, HX, HL5, Lib.hid (Nat.le_trans HLE.out HLE5.out), Lib.hid (Nat.le_trans (Nat.le_of_lt HM5.out) HMU3.out), HZ5, Lib.hid rfl⟩
              case measure => have := HK.out; have := HM5.out; omega
            | false =>
              rw [hq] at HI
              have HQ := Lib.hid hq
              clear hq
              go_wp2_with fail
              refine HI.out.mono ?_
              rintro e w4 ⟨rfl, hb2⟩
              have O4 := Lib.hid (HO.out.below hb2)
              have R4 := Lib.hid (HR.out.only (Only.of_below (F := fun _ => False) hb2) (fun _ _ h => h.elim))
              clear hb2 HI
              have X4 := Lib.hid (take_any O4.out.ps [91] (by decide))
              cases hq : isS L [91] s3 with
              | false =>
                rw [hq] at X4
                have HT4 : Hid (takeS L [91] s3 = s3) := Lib.hid (takeS_no hq)
                rw [HT4.out] at X4
                have HL2 : Hid (Leads L [.e 5] [] s [] [t] s3) := Lib.hid (by
                  refine HL.out.trans ?_
                  have h1 := HQ.out
                  have h2 := hq
                  rw [HJ.out] at h1 h2 ⊢
                  refine post_end [t] (fun e => ?_) (fun e => ?_)
                  · rw [isS_ok.2 (show sg L (atS s3) = _ from e)] at h1; cases h1
                  · rw [isS_ok.2 (show sg L (atS s3) = _ from e)] at h2; cases h2)
                clear hq
                go_wp2_with fail
                refine X4.out.mono ?_
                rintro e w5 ⟨rfl, hp, ho⟩
                have O5 := Lib.hid (O4.out.call hp ho)
                have R5 := Lib.hid (R4.out.only ho (fun k _ hk => by have := HLT.out; omega))
                clear hp ho X4
                go_wp2
                go_ret
                exact ⟨_, t, s3, rfl, ⟨HL2.out, O5.out.ps, O5.out.only, R5.out, HLE.out, HZ.out⟩⟩
              | true =>
                rw [hq] at X4
                obtain ⟨j0, hj0, hg0, ht0⟩ := takeS_yes hq
                rw [ht0] at X4
                have hjl : j0 < L.length := sg_lt (by rw [hg0]; decide)
                have HLT4 : Hid (mu L (.ok (j0 + 1)) < mu L s3) := Lib.hid (by
                  rw [hj0]
                  exact (show L.length - (j0 + 1) + 1 < L.length - j0 + 1 by omega))
                have E4 := Lib.hid (HE.out _ (Nat.lt_of_lt_of_le HLT4.out HMU3.out))
                have HL2 : Hid (Leads L [.e 5] [] s [.e 0, .mark [93], .mk (nd 26) 2, .post] [t] (.ok (j0 + 1))) := Lib.hid (by
                  have h1 := HL.out
                  rw [hj0] at h1
                  exact h1.trans (post_index [t] hg0))
                have HAJ : Hid (atS s3 = j0) := Lib.hid (by rw [hj0]; rfl)
                clear hq hj0 hg0 ht0
                go_wp2_with fail
                refine X4.out.mono ?_
                rintro e w5 ⟨rfl, hp, ho⟩
                have O5 := Lib.hid (O4.out.call hp ho)
                have R5 := Lib.hid (R4.out.only ho (fun k _ hk => by have := HLT.out; omega))
                clear hp ho X4 O4 R4
                go_wp2_with fail
                refine (E4.out g vt _ O5.out.ps).mono ?_
                rintro e w6 ⟨u, t2, s5, rfl, hk⟩
                obtain ⟨up, un, uc, rfl⟩ := hk.row.form
                have O6 := Lib.hid (O5.out.call hk.rs hk.only)
                have R6 := Lib.hid (R5.out.only hk.only (fun k _ hk => by have := HLT.out; omega))
                have HK5 := Lib.hid hk
                have hl2 : t2.length ≤ 4 * (atS s5 - (j0 + 1)) + 3 := hk.len (Int.le_refl 0)
                have HKS : Hid (KsW (w6.alloc (.cells #[Value.slice q m c, Value.slice up un uc] 23)) (fun _ => False) (.slice (some ⟨w6.heap.size, 0, none⟩) 2 2) [(Value.slice q m c, t), (Value.slice up un uc, t2)]) := Lib.hid (ks_lit (cs := [(Value.slice q m c, t), (Value.slice up un uc, t2)]) (fun c hc => by
                  rcases List.mem_cons.1 hc with rfl | hc
                  · exact R6.out.weaken (fun _ _ h => h.elim)
                  · rw [List.mem_singleton.1 hc]; exact hk.row.weaken (fun _ _ h => h.elim)) (by simp) _ 2 rfl)
                have hle5 : j0 + 1 ≤ atS s5 := hk.le
                have hbig : t.length + t2.length ≤ 10000000 := by
                  obtain ⟨i0, -, h1⟩ := HCO.out
                  have := HFEW.out; have := HAJ.out; have := O6.out.ps.le
                  omega
                have J1 := Lib.hid (join_any (nd 26) _ _ _ HKS.out (by simp) (by simpa using hbig))
                simp only [Nd.cells, List.map_cons, List.map_nil] at J1
                have HA6 := Lib.hid (atS_mark L [93] s5)
                have HL6 : Hid (Leads L [.e 5] [] s [.post] [join (nd 26) [t, t2]] (markS L [93] s5)) := Lib.hid (by
                  have h1 := hk.leads.over [.mark [93], .mk (nd 26) 2, .post] [t]
                  have h2 := (Leads.mark (L := L) [93] s5).over [.mk (nd 26) 2, .post] [t, t2]
                  have h3 := (Leads.mk (L := L) (nd 26) [t, t2] 2 rfl (markS L [93] s5)).over [.post] []
                  exact ((HL2.out.trans h1).trans h2).trans h3)
                have HAF : Hid (Aft s5 (markS L [93] s5)) := Lib.hid (Leads.mark (L := L) [93] s5).aft
                have X6 := Lib.hid (fun W (hp : RS L g vt W s5) => must_any hp [93] (by decide))
                generalize markS L [93] s5 = s6 at *
                have HZ6 : Hid (Sz 2 s s6 (join (nd 26) [t, t2]).length) := Lib.hid (by
                  obtain ⟨i0, hi0, h1⟩ := HCO.out
                  refine ⟨fun k hk => (by rw [hi0] at hk; cases hk), fun i1 k h2 h3 => ?_⟩
                  have e1 : i1 = i0 := by rw [hi0] at h2; cases h2; rfl
                  have e2 : atS s6 = k := by rw [h3]; rfl
                  have e3 := HA6.out.1
                  have e4 := HAJ.out
                  simp [join]
                  omega)
                have HLE6 : Hid (j0 + 1 ≤ atS s6) := Lib.hid (Nat.le_trans hle5 HA6.out.1)
                have HM6 : Hid (mu L s6 < mu L s3) := Lib.hid (by
                  have h1 := mu_leR (L := L) HAF.out HA6.out.1
                  have h2 := mu_leR (L := L) hk.leads.aft hk.le
                  have := HLT4.out
                  omega)
                clear hk hl2 hle5 hbig E4
                have HNJ : Hid (join (nd 26) [t, t2] ≠ []) := Lib.hid (by simp [join])
                generalize join (nd 26) [t, t2] = tj at *
                go_wp2_with (go_at_call 78; refine J1.out.mono ?_; rintro e w7 ⟨u2, rfl, hr2⟩; have HR7 := Lib.hid hr2; clear hr2)
                have O7 := Lib.hid ((O6.out.alloc (.cells #[Value.slice q m c, Value.slice up un uc] 23)).below HR7.out.below)
                have HX : Hid (NdX w7 (fun k => k < w.heap.size) u2 tj) := Lib.hid (NdX.of_own (_w := w) HR7.out.row HNJ.out (fun b hb hx => by have := O6.out.only.size; simp at hb; omega))
                obtain ⟨p2, n2, cc2, rfl⟩ := HX.out.form
                clear HR7 J1 HKS
                go_wp2_with fail
                refine (X6.out _ O7.out.ps).mono ?_
                rintro e w8 ⟨rfl, hp, ho⟩
                have O8 := Lib.hid (O7.out.call hp ho)
                have R8 := Lib.hid (HX.out.only ho (fun k _ hk => by have := HLT.out; omega))
                clear hp ho X6
                go_wp2
                go_roundg (mu L s6)
                case rel => exact ⟨tj, s6, _, _, _, rfl, O8, R8, HL6, Lib.hid (by have := HLE.out; have := HLE6.out; have := HAJ.out; omega), Lib.hid (Nat.le_trans (Nat.le_of_lt HM6.out) HMU3.out), HZ6, Lib.hid rfl⟩
                case measure => have := HK.out; have := HM6.out; omega

end Go.Proofs.YtemlceicmpcboaaGreatDoor.Pa
namespace Go.Proofs.YtemlceicmpcboaaGreatDoor.Pa
open Go.RowKit Dk Lx Tr

theorem prim_key {L : List Tk} {j : Nat} {q : List UInt8} {A : List Sy} (hg : sg L j = q) (hq : q ≠ []) (h : primA q = some A) : Leads L [.prim] [] (.ok j) A [] (.ok (j + 1)) := by
  subst hg
  rcases sg_kd hq with h1 | h1
  · exact prim_mark (by rw [h1]; decide) (by rw [h1]; decide) (by rw [h1]; decide) h
  · exact prim_mark (by rw [h1]; decide) (by rw [h1]; decide) (by rw [h1]; decide) h
theorem prim_kI {L : List Tk} {j : Nat} (h : kd L j = 2) : Leads L [.prim] [] (.ok j) [] [[{ nd 19 with n := nm L j }]] (.ok (j + 1)) :=
  (Leads.yes (fun V => by rw [one_prim, if_pos h]) : Leads L [.prim] [] (.ok j) [.mk { nd 19 with n := nm L j } 0] [] (.ok (j + 1))).trans (Leads.mk (L := L) { nd 19 with n := nm L j } [] 0 rfl _)
theorem prim_kT {L : List Tk} {j : Nat} (h : kd L j = 3) : Leads L [.prim] [] (.ok j) [] [[{ nd 20 with text := tx L j }]] (.ok (j + 1)) :=
  (Leads.yes (fun V => by rw [one_prim, if_neg (by rw [h]; decide), if_pos h]) : Leads L [.prim] [] (.ok j) [.mk { nd 20 with text := tx L j } 0] [] (.ok (j + 1))).trans (Leads.mk (L := L) { nd 20 with text := tx L j } [] 0 rfl _)
theorem prim_kN {L : List Tk} {j : Nat} (h2 : kd L j ≠ 2) (h3 : kd L j ≠ 3) (hs : primA (sg L j) = none) : Leads L [.prim] [] (.ok j) [.outer (nameV L 1 (.ok j)).text] [] (needS L 1 (.ok j)) := by
  by_cases h1 : kd L j = 1
  · have hj : j < L.length := kd_lt (by rw [h1]; decide)
    have e1 : nameV L 1 (.ok j) = L[j] := (if_pos h1).trans (by simp [List.getD, List.getElem?_eq_getElem hj])
    have e2 : tx L j = (L[j]).text := by unfold tx; rw [List.getElem?_eq_getElem hj]
    rw [e1, show needS L 1 (.ok j) = .ok (j + 1) from if_pos h1, ← e2]
    exact .yes (fun V => by rw [one_prim, if_neg h2, if_neg h3, if_pos h1])
  · rw [show needS L 1 (.ok j) = .bad j from if_neg h1]
    exact prim_none (s := .ok j) h1 h2 h3 hs
theorem tb_cells {W : World} {B : Nat} {t : Tk} (h : TB W B t) : W.cell? ⟨B, 0, none⟩ = some (.int .i64 t.kind) ∧ W.cell? ⟨B, 1, none⟩ = some (.string (strOf t.text)) ∧ W.cell? ⟨B, 2, none⟩ = some (.int .i64 t.n) :=
  ⟨h.cells 0 _ rfl, h.cells 1 _ rfl, h.cells 2 _ rfl⟩
theorem primA_no {q : List UInt8} (h1 : q ≠ [110, 105, 108]) (h2 : q ≠ [115, 116, 97, 116, 101]) (h3 : q ≠ [123]) (h4 : q ≠ [102, 110]) (h5 : q ≠ [40]) : primA q = none := by
  unfold primA
  rw [if_neg h1, if_neg h2, if_neg h3, if_neg h4, if_neg h5]
theorem sg_not {L : List Tk} {q : List UInt8} {j : Nat} (h : isS L q (.ok j) = false) : sg L j ≠ q := fun e => by
  rw [isS_ok.2 e] at h; cases h
theorem sz_one {s s' : St} {i : Nat} (h : s = .ok i) : Sz 2 s s' 1 := by
  subst h
  exact ⟨fun k hk => (by cases hk), fun i k _ _ => by omega⟩

set_option maxHeartbeats 8000000 in
set_option maxRecDepth 100000 in
theorem prim_rf (L : List Tk) (n : Nat) (hE : RfN L 205 (.e 0) 2 n) (hB : RfN L 136 .blk 2 n) (s : St) (hs : mu L s ≤ n) : Rf L 260 .prim 2 s := by
  intro g vt w h
  have HE := Lib.hid hE
  have HB := Lib.hid hB
  have O0 := Lib.hid (OnR.start h)
  have HLT := Lib.hid h.lt
  have HFEW := Lib.hid h.few
  have HMU := Lib.hid hs
  clear h hE hB hs
  go_enter Tryz.func260, Tryz.ntmps260
  have X0 := Lib.hid (take_any O0.out.ps [110, 105, 108] (by decide))
  cases hq : isS L [110, 105, 108] s with
  | true =>
    rw [hq] at X0
    obtain ⟨j0, hj0, hg0, ht0⟩ := takeS_yes hq
    have HJ0 := Lib.hid hj0
    rw [ht0] at X0
    have hjl : j0 < L.length := sg_lt (by rw [hg0]; decide)
    have HM4 : Hid (mu L (.ok (j0 + 1)) < n) := Lib.hid (by
      have h1 := HMU.out
      rw [hj0] at h1
      exact Nat.lt_of_lt_of_le (show L.length - (j0 + 1) + 1 < L.length - j0 + 1 by omega) h1)
    have HG0 := Lib.hid hg0
    have HLE : Hid (atS s ≤ atS (.ok (j0 + 1))) := Lib.hid (by rw [hj0]; exact Nat.le_succ _)
    clear hq hj0 hg0 ht0 hjl
    go_wp2_with fail
    refine X0.out.mono ?_
    rintro e v1 ⟨rfl, hp, ho⟩
    have V1 := Lib.hid (O0.out.call hp ho)
    clear hp ho X0
    have HLD : Hid (Leads L [.prim] [] s [] [[nd 18]] (.ok (j0 + 1))) := Lib.hid (by
      rw [HJ0.out]
      exact (prim_key HG0.out (by decide) rfl).trans (Leads.mk (L := L) (nd 18) [] 0 rfl _))
    go_wp2
    go_ret
    exact ⟨_, [nd 18], _, rfl, ⟨HLD.out, (V1.out.alloc _).ps, (V1.out.alloc _).only, one_node (nd 18) 29 (fun hi => by have := V1.out.only.size; omega), HLE.out, sz_one HJ0.out⟩⟩
  | false =>
    rw [hq] at X0
    have F0 := Lib.hid hq
    have HTN := takeS_no hq
    rw [HTN] at X0
    clear hq HTN
    go_wp2_with fail
    refine X0.out.mono ?_
    rintro e w1 ⟨rfl, hp, ho⟩
    have O1 := Lib.hid (O0.out.call hp ho)
    clear hp ho X0 O0
    have X1 := Lib.hid (take_any O1.out.ps [115, 116, 97, 116, 101] (by decide))
    cases hq : isS L [115, 116, 97, 116, 101] s with
    | true =>
      rw [hq] at X1
      obtain ⟨j0, hj0, hg0, ht0⟩ := takeS_yes hq
      have HJ0 := Lib.hid hj0
      rw [ht0] at X1
      have hjl : j0 < L.length := sg_lt (by rw [hg0]; decide)
      have HM4 : Hid (mu L (.ok (j0 + 1)) < n) := Lib.hid (by
        have h1 := HMU.out
        rw [hj0] at h1
        exact Nat.lt_of_lt_of_le (show L.length - (j0 + 1) + 1 < L.length - j0 + 1 by omega) h1)
      have HG0 := Lib.hid hg0
      have HLE : Hid (atS s ≤ atS (.ok (j0 + 1))) := Lib.hid (by rw [hj0]; exact Nat.le_succ _)
      clear hq hj0 hg0 ht0 hjl
      go_wp2_with fail
      refine X1.out.mono ?_
      rintro e v1 ⟨rfl, hp, ho⟩
      have V1 := Lib.hid (O1.out.call hp ho)
      clear hp ho X1
      have HLD : Hid (Leads L [.prim] [] s [] [[nd 29]] (.ok (j0 + 1))) := Lib.hid (by
        rw [HJ0.out]
        exact (prim_key HG0.out (by decide) rfl).trans (Leads.mk (L := L) (nd 29) [] 0 rfl _))
      go_wp2
      go_ret
      exact ⟨_, [nd 29], _, rfl, ⟨HLD.out, (V1.out.alloc _).ps, (V1.out.alloc _).only, one_node (nd 29) 29 (fun hi => by have := V1.out.only.size; omega), HLE.out, sz_one HJ0.out⟩⟩
    | false =>
      rw [hq] at X1
      have F1 := Lib.hid hq
      have HTN := takeS_no hq
      rw [HTN] at X1
      clear hq HTN
      go_wp2_with fail
      refine X1.out.mono ?_
      rintro e w2 ⟨rfl, hp, ho⟩
      have O2 := Lib.hid (O1.out.call hp ho)
      clear hp ho X1 O1
      have X2 := Lib.hid (take_any O2.out.ps [123] (by decide))
      cases hq : isS L [123] s with
      | true =>
        rw [hq] at X2
        obtain ⟨j0, hj0, hg0, ht0⟩ := takeS_yes hq
        have HJ0 := Lib.hid hj0
        rw [ht0] at X2
        have hjl : j0 < L.length := sg_lt (by rw [hg0]; decide)
        have HM4 : Hid (mu L (.ok (j0 + 1)) < n) := Lib.hid (by
          have h1 := HMU.out
          rw [hj0] at h1
          exact Nat.lt_of_lt_of_le (show L.length - (j0 + 1) + 1 < L.length - j0 + 1 by omega) h1)
        have HG0 := Lib.hid hg0
        have HLE : Hid (atS s ≤ atS (.ok (j0 + 1))) := Lib.hid (by rw [hj0]; exact Nat.le_succ _)
        clear hq hj0 hg0 ht0 hjl
        go_wp2_with fail
        refine X2.out.mono ?_
        rintro e v1 ⟨rfl, hp, ho⟩
        have V1 := Lib.hid (O2.out.call hp ho)
        clear hp ho X2
        have X := Lib.hid (must_any V1.out.ps [125] (by decide))
        have HA := Lib.hid (atS_mark L [125] (.ok (j0 + 1)))
        have HLD : Hid (Leads L [.prim] [] s [] [[nd 25]] (markS L [125] (.ok (j0 + 1)))) := Lib.hid (by
          rw [HJ0.out]
          have h1 := (Leads.mark (L := L) [125] (.ok (j0 + 1))).over [.mk (nd 25) 0] []
          exact ((prim_key HG0.out (by decide) rfl).trans h1).trans (Leads.mk (L := L) (nd 25) [] 0 rfl _))
        have HLE2 : Hid (atS s ≤ atS (markS L [125] (.ok (j0 + 1)))) := Lib.hid (Nat.le_trans HLE.out HA.out.1)
        generalize markS L [125] (.ok (j0 + 1)) = s5 at *
        go_wp2_with fail
        refine X.out.mono ?_
        rintro e v2 ⟨rfl, hp, ho⟩
        have V2 := Lib.hid (V1.out.call hp ho)
        clear hp ho X
        go_wp2
        go_ret
        exact ⟨_, [nd 25], _, rfl, ⟨HLD.out, (V2.out.alloc _).ps, (V2.out.alloc _).only, one_node (nd 25) 29 (fun hi => by have := V2.out.only.size; omega), HLE2.out, sz_one HJ0.out⟩⟩
      | false =>
        rw [hq] at X2
        have F2 := Lib.hid hq
        have HTN := takeS_no hq
        rw [HTN] at X2
        clear hq HTN
        go_wp2_with fail
        refine X2.out.mono ?_
        rintro e w3 ⟨rfl, hp, ho⟩
        have O3 := Lib.hid (O2.out.call hp ho)
        clear hp ho X2 O2
        have X3 := Lib.hid (take_any O3.out.ps [102, 110] (by decide))
        cases hq : isS L [102, 110] s with
        | true =>
          rw [hq] at X3
          obtain ⟨j0, hj0, hg0, ht0⟩ := takeS_yes hq
          have HJ0 := Lib.hid hj0
          rw [ht0] at X3
          have hjl : j0 < L.length := sg_lt (by rw [hg0]; decide)
          have HM4 : Hid (mu L (.ok (j0 + 1)) < n) := Lib.hid (by
            have h1 := HMU.out
            rw [hj0] at h1
            exact Nat.lt_of_lt_of_le (show L.length - (j0 + 1) + 1 < L.length - j0 + 1 by omega) h1)
          have HG0 := Lib.hid hg0
          have HLE : Hid (atS s ≤ atS (.ok (j0 + 1))) := Lib.hid (by rw [hj0]; exact Nat.le_succ _)
          clear hq hj0 hg0 ht0 hjl
          go_wp2_with fail
          refine X3.out.mono ?_
          rintro e v1 ⟨rfl, hp, ho⟩
          have V1 := Lib.hid (O3.out.call hp ho)
          clear hp ho X3
          have F := Lib.hid (function_rf L n HB.out (.ok (j0 + 1)) HM4.out g vt _ V1.out.ps)
          go_wp2_with fail
          refine F.out.mono ?_
          rintro e v2 ⟨v, cs, s5, rfl, hk⟩
          have V2 := Lib.hid (V1.out.call hk.on.ps hk.on.only)
          have J1 := Lib.hid (join_any (nd 24) v cs _ hk.kr.ks (by have := hk.few; have := hk.on.ps.le; have := HFEW.out; omega) (by have := hk.size; have := hk.on.ps.le; have := HFEW.out; omega))
          have HLD : Hid (Leads L [.prim] [] s [] [join (nd 24) (cs.map (·.2))] s5) := Lib.hid (by
            rw [HJ0.out]
            exact ((prim_key HG0.out (by decide) rfl).trans (hk.leads (nd 24))).trans (Leads.mk (L := L) (nd 24) (cs.map (·.2)) cs.length (by rw [List.length_map]) _))
          have HLE2 : Hid (atS s ≤ atS s5) := Lib.hid (Nat.le_trans HLE.out hk.le)
          have HZ : Hid (Sz 2 s s5 (join (nd 24) (cs.map (·.2))).length) := Lib.hid (by
            refine ⟨fun k hk => (by rw [HJ0.out] at hk; cases hk), fun i1 k h2 h3 => ?_⟩
            have e1 : i1 = j0 := by rw [HJ0.out] at h2; cases h2; rfl
            have e2 : atS s5 = k := by rw [h3]; rfl
            have e3 := hk.size
            have e4 : atS (.ok (j0 + 1)) = j0 + 1 := rfl
            have e5 := hk.le
            show (cs.map (·.2)).flatten.length + 1 ≤ _
            omega)
          clear hk F
          simp only [Nd.cells] at J1
          go_wp2_with (go_at_call 78; refine J1.out.mono ?_; rintro e v3 ⟨u2, rfl, hr2⟩; have HR3 := Lib.hid hr2; clear hr2)
          go_ret
          exact ⟨_, _, s5, rfl, ⟨HLD.out, (V2.out.below HR3.out.below).ps, (V2.out.below HR3.out.below).only, NdX.of_own (_w := w) HR3.out.row (by simp [join]) (fun b hb hx => by have := V2.out.only.size; omega), HLE2.out, HZ.out⟩⟩
        | false =>
          rw [hq] at X3
          have F3 := Lib.hid hq
          have HTN := takeS_no hq
          rw [HTN] at X3
          clear hq HTN
          go_wp2_with fail
          refine X3.out.mono ?_
          rintro e w4 ⟨rfl, hp, ho⟩
          have O4 := Lib.hid (O3.out.call hp ho)
          clear hp ho X3 O3
          have X4 := Lib.hid (take_any O4.out.ps [40] (by decide))
          cases hq : isS L [40] s with
          | true =>
            rw [hq] at X4
            obtain ⟨j0, hj0, hg0, ht0⟩ := takeS_yes hq
            have HJ0 := Lib.hid hj0
            rw [ht0] at X4
            have hjl : j0 < L.length := sg_lt (by rw [hg0]; decide)
            have HM4 : Hid (mu L (.ok (j0 + 1)) < n) := Lib.hid (by
              have h1 := HMU.out
              rw [hj0] at h1
              exact Nat.lt_of_lt_of_le (show L.length - (j0 + 1) + 1 < L.length - j0 + 1 by omega) h1)
            have HG0 := Lib.hid hg0
            have HLE : Hid (atS s ≤ atS (.ok (j0 + 1))) := Lib.hid (by rw [hj0]; exact Nat.le_succ _)
            clear hq hj0 hg0 ht0 hjl
            go_wp2_with fail
            refine X4.out.mono ?_
            rintro e v1 ⟨rfl, hp, ho⟩
            have V1 := Lib.hid (O4.out.call hp ho)
            clear hp ho X4
            have E4 := Lib.hid (HE.out _ HM4.out g vt _ V1.out.ps)
            go_wp2_with fail
            refine E4.out.mono ?_
            rintro e v2 ⟨u, t, s5, rfl, hk⟩
            have V2 := Lib.hid (V1.out.call hk.rs hk.only)
            have R2 : Hid (NdX v2 (fun k => k < w.heap.size) u t) := Lib.hid (hk.row.weaken (fun i _ hi => by have := V1.out.only.size; omega))
            have X := Lib.hid (must_any V2.out.ps [41] (by decide))
            have HA := Lib.hid (atS_mark L [41] s5)
            have HLD : Hid (Leads L [.prim] [] s [] [t] (markS L [41] s5)) := Lib.hid (by
              rw [HJ0.out]
              have h1 := hk.leads.over [.mark [41]] []
              have h2 := (Leads.mark (L := L) [41] s5).over [] [t]
              exact ((prim_key HG0.out (by decide) rfl).trans h1).trans h2)
            have HLE2 : Hid (atS s ≤ atS (markS L [41] s5)) := Lib.hid (Nat.le_trans HLE.out (Nat.le_trans hk.le HA.out.1))
            have HZ : Hid (Sz 2 s (markS L [41] s5) t.length) := Lib.hid (by
              refine ⟨fun k hk => (by rw [HJ0.out] at hk; cases hk), fun i1 k h2 h3 => ?_⟩
              have e1 : i1 = j0 := by rw [HJ0.out] at h2; cases h2; rfl
              have e2 : atS (markS L [41] s5) = k := by rw [h3]; rfl
              have e3 := hk.len (Int.le_refl 0)
              have e4 : atS (.ok (j0 + 1)) = j0 + 1 := rfl
              have e5 := hk.le
              have e6 := HA.out.1
              omega)
            clear hk E4
            generalize markS L [41] s5 = s6 at *
            obtain ⟨up, un, uc, rfl⟩ := R2.out.form
            go_wp2_with fail
            refine X.out.mono ?_
            rintro e v3 ⟨rfl, hp, ho⟩
            have V3 := Lib.hid (V2.out.call hp ho)
            have R3 := Lib.hid (R2.out.only ho (fun k _ hk => by have := HLT.out; omega))
            clear hp ho X
            go_wp2
            go_ret
            exact ⟨_, t, s6, rfl, ⟨HLD.out, V3.out.ps, V3.out.only, R3.out, HLE2.out, HZ.out⟩⟩
          | false =>
            rw [hq] at X4
            have F4 := Lib.hid hq
            have HTN := takeS_no hq
            rw [HTN] at X4
            clear hq HTN
            go_wp2_with fail
            refine X4.out.mono ?_
            rintro e w5 ⟨rfl, hp, ho⟩
            have O5 := Lib.hid (O4.out.call hp ho)
            clear hp ho X4 O4
            obtain ⟨p, c, rfl, hc⟩ := O5.out.ps.form
            have c0 := O5.out.ps.at.1
            have c1 := O5.out.ps.at.2.1
            have c2 := O5.out.ps.at.2.2
            cases s with
            | bad k =>
              change w5.cell? ⟨g, 2, none⟩ = some (.bool true) at c2
              clear c0 c1
              go_upto_region 14 with fail
              go_quiet (fail)
              generalize hw2 : w5.drewN _ = w6
              have hb : Below w5.heap.size w5 w6 := hw2 ▸ bdN (Below.refl _ _) _
              clear hw2
              have H1 := Lib.hid (O5.out.below hb)
              have d2 := H1.out.ps.at.2.2
              have f2 := H1.out.free.2
              have H2 := Lib.hid (H1.out.call H1.out.ps.failed (Only.of_setCell _))
              clear hb c2
              go_upto_region 16 with fail
              generalize World.setCell _ _ _ = w7 at H2 ⊢
              clear d2 f2
              go_wp2
              go_ret
              exact ⟨_, [], .bad k, rfl, ⟨rfl, H2.out.ps, H2.out.only, NdX.nil _ _, Nat.le_refl _, ⟨fun _ _ => Nat.zero_le _, fun _ _ _ _ => Nat.zero_le _⟩⟩⟩
            | ok j =>
              change w5.cell? ⟨g, 1, none⟩ = some (.int .i64 (j : Int)) at c1
              change w5.cell? ⟨g, 2, none⟩ = some (.bool false) at c2
              have hle : j ≤ L.length := O5.out.ps.le
              obtain ⟨m, hm⟩ : ∃ m, m = L.length := ⟨_, rfl⟩
              rw [← hm] at c0
              by_cases hlt : j < L.length
              · obtain ⟨r, o, hp, t0, -⟩ := O5.out.ps.toks.tok j hlt
                subst hp
                have z0 : (0 : Int) ≤ (j : Int) := by omega
                have z1 : (j : Int) < (m : Int) := by omega
                have z2 : ¬m ≤ j := by omega
                have HM := Lib.hid hm
                clear hle hm
                go_upto_region 14 with fail
                go_quiet (fail)
                generalize hw2 : w5.drewN _ = w6
                have hb : Below w5.heap.size w5 w6 := hw2 ▸ bdN (Below.refl _ _) _
                clear hw2
                have H1 := Lib.hid (O5.out.below hb)
                clear hb c2 c0 c1
                generalize hEE : L[j] = E at *
                have HKD : Hid (kd L j = E.kind) := Lib.hid (by rw [← hEE]; exact kd_at hlt)
                have HTX : Hid (tx L j = E.text ∧ nm L j = E.n) := Lib.hid (by
                  constructor
                  · unfold tx; rw [List.getElem?_eq_getElem hlt]; exact congrArg Tk.text hEE
                  · unfold nm; rw [List.getElem?_eq_getElem hlt]; exact congrArg Tk.n hEE)
                have HI := Lib.hid (t_info E)
                have HT : Hid (∀ W s', OnR L g (.slice (some ⟨r, o, none⟩) L.length c) w W s' → W.cell? ⟨g, 0, none⟩ = some (.slice (some ⟨r, o, none⟩) m c) ∧ W.cell? ⟨g, 1, none⟩ = some (.int .i64 (atS s' : Int)) ∧ (W.cell? ⟨r, o + j * 4, none⟩ = some (.int .i64 E.kind) ∧ W.cell? ⟨r, o + j * 4 + 1, none⟩ = some (.string (strOf E.text)) ∧ W.cell? ⟨r, o + j * 4 + 2, none⟩ = some (.int .i64 E.n) ∧ W.cell? ⟨r, o + j * 4 + 3, none⟩ = some (.int .i64 E.place)) ∧ W.frozen? ⟨g, 1, none⟩ = false) := Lib.hid (fun W s' hW => by
                  obtain ⟨r', o', hp, q1, q2, q3, q4, -⟩ := hW.ps.toks.tok j hlt
                  cases hp
                  rw [hEE] at q1 q2 q3 q4
                  rw [HM.out]
                  exact ⟨hW.ps.at.1, hW.ps.at.2.1, ⟨q1, q2, q3, q4⟩, hW.free.1⟩)
                have HN2 : Hid (∀ W, OnR L g (.slice (some ⟨r, o, none⟩) L.length c) w W (.ok j) → OnR L g (.slice (some ⟨r, o, none⟩) L.length c) w (W.setCell ⟨g, 1, none⟩ (.int .i64 ((j : Int) + 1))) (.ok (j + 1))) := Lib.hid (fun W hW => hW.call (hW.ps.next hlt) (Only.of_setCell _))
                have z3 : (j : Int) ≤ 1000000 := by have := HFEW.out; omega
                clear t0
                clear hc hlt hEE
                go_upto_region 17 with fail
                obtain ⟨c0, c1, ⟨c2, c3, c4, c5⟩, -⟩ := HT.out _ _ H1.out
                change w6.cell? ⟨g, 1, none⟩ = some (.int .i64 (j : Int)) at c1
                have n0 := World.new_ne w6 _ c0
                have n1 := World.new_ne w6 _ c1
                have n2 := World.new_ne w6 _ c2
                have n3 := World.new_ne w6 _ c3
                have n4 := World.new_ne w6 _ c4
                have n5 := World.new_ne w6 _ c5
                go_cut [4] (fun v5 wx => ∃ B, v5 = .pointer (some ⟨B, 0, none⟩) ∧ w.heap.size ≤ B ∧ Hid (OnR L g (.slice (some ⟨r, o, none⟩) L.length c) w wx (.ok j)) ∧ Hid (TB wx B E))
                case first =>
                  go_region_held3 (fun W => W.cell? ⟨g, 0, none⟩ = some (.slice (some ⟨r, o, none⟩) m c) ∧ W.cell? ⟨g, 1, none⟩ = some (.int .i64 (j : Int)) ∧ W.cell? ⟨r, o + j * 4, none⟩ = some (.int .i64 E.kind) ∧ W.cell? ⟨r, o + j * 4 + 1, none⟩ = some (.string (strOf E.text)) ∧ W.cell? ⟨r, o + j * 4 + 2, none⟩ = some (.int .i64 E.n) ∧ W.cell? ⟨r, o + j * 4 + 3, none⟩ = some (.int .i64 E.place)) (go_keep) (fail)
                  go_wp2_with fail
                  go_meet
                  have hb : Below w6.heap.size w6 (w6.alloc (Obj.cells E.cells.toArray 72)).drew := ((Below.refl _ _).alloc (Nat.le_refl _) _).drew
                  exact ⟨_, rfl, H1.out.only.size, Lib.hid (H1.out.below hb), Lib.hid ((tb_new w6 E _).later (by exact (Below.refl _ _).drew))⟩
                case rest =>
                  obtain ⟨B, rfl, hB, h2, hE2⟩ := hcut
                  clear n0 n1 n2 n3 n4 n5 c0 c1 c2 c3 c4 c5 H1
                  have HPA : Hid (primA (sg L j) = none) := Lib.hid (primA_no (sg_not F0.out) (sg_not F1.out) (sg_not F2.out) (sg_not F3.out) (sg_not F4.out))
                  clear F0 F1 F2 F3 F4
                  obtain ⟨t0, -, -⟩ := tb_cells hE2.out
                  by_cases hk2 : E.kind = 2
                  · have HLD : Hid (Leads L [.prim] [] (.ok j) [] [[{ nd 19 with n := E.n }]] (.ok (j + 1))) := Lib.hid (by
                      have := prim_kI (L := L) (j := j) (by rw [HKD.out, hk2])
                      rw [HTX.out.2] at this
                      exact this)
                    have y1 : (E.kind == 2) = true := by rw [hk2]; rfl
                    obtain ⟨-, c1, -, f1⟩ := HT.out _ _ h2.out
                    rw [show atS (.ok j) = j from rfl] at c1
                    have H3 := Lib.hid (HN2.out _ h2.out)
                    have HZ3 := Lib.hid (tb_only hE2.out (Only.of_setCell (g := g) (j := 1) (.int .i64 ((j : Int) + 1))) (by have := HLT.out; omega))
                    clear hk2
                    go_upto_region 21 with fail
                    clear c1 f1 t0
                    generalize World.setCell _ _ _ = w3 at H3 HZ3 ⊢
                    obtain ⟨-, -, t2⟩ := tb_cells HZ3.out
                    go_wp2
                    go_ret
                    exact ⟨_, rfl, _, _, ⟨HLD.out, (H3.out.alloc _).ps, (H3.out.alloc _).only, one_node { nd 19 with n := E.n } 29 (fun hi => by have := H3.out.only.size; omega), Nat.le_succ j, sz_one rfl⟩⟩
                  · have y1 : (E.kind == 2) = false := by rw [beq_eq_false_iff_ne]; exact hk2
                    by_cases hk3 : E.kind = 3
                    · have HLD : Hid (Leads L [.prim] [] (.ok j) [] [[{ nd 20 with text := E.text }]] (.ok (j + 1))) := Lib.hid (by
                        have := prim_kT (L := L) (j := j) (by rw [HKD.out, hk3])
                        rw [HTX.out.1] at this
                        exact this)
                      have y2 : (E.kind == 3) = true := by rw [hk3]; rfl
                      obtain ⟨-, c1, -, f1⟩ := HT.out _ _ h2.out
                      rw [show atS (.ok j) = j from rfl] at c1
                      have H3 := Lib.hid (HN2.out _ h2.out)
                      have HZ3 := Lib.hid (tb_only hE2.out (Only.of_setCell (g := g) (j := 1) (.int .i64 ((j : Int) + 1))) (by have := HLT.out; omega))
                      clear hk2 hk3
                      go_upto_region 24 with fail
                      clear c1 f1 t0
                      generalize World.setCell _ _ _ = w3 at H3 HZ3 ⊢
                      obtain ⟨-, t2, -⟩ := tb_cells HZ3.out
                      go_wp2
                      go_ret
                      exact ⟨_, rfl, _, _, ⟨HLD.out, (H3.out.alloc _).ps, (H3.out.alloc _).only, one_node { nd 20 with text := E.text } 29 (fun hi => by have := H3.out.only.size; omega), Nat.le_succ j, sz_one rfl⟩⟩
                    · have y2 : (E.kind == 3) = false := by rw [beq_eq_false_iff_ne]; exact hk3
                      have HLN : Hid (Leads L [.prim] [] (.ok j) [.outer (nameV L 1 (.ok j)).text] [] (needS L 1 (.ok j))) := Lib.hid (prim_kN (by rw [HKD.out]; exact hk2) (by rw [HKD.out]; exact hk3) HPA.out)
                      have X1 := Lib.hid (need_any 1 h2.out.ps (by decide))
                      have HA1 := Lib.hid (atS_need L 1 (.ok j))
                      clear hk2 hk3 HPA HN2 HT HTX HKD
                      generalize (nameV L 1 (.ok j)) = en at *
                      generalize needS L 1 (.ok j) = s1 at *
                      obtain ⟨ek, et, ez, ep⟩ := en
                      have hfd : ∀ W : World, (Instr.field 72 (.agg #[.int .i64 ek, .string (strOf et), .int .i64 ez, .int .i64 ep]) 1).run Tryz.prog W = .ok (.string (strOf et)) W := fun _ => by kernel_rfl
                      go_wp2_with fail
                      refine X1.out.mono ?_
                      rintro e v1 ⟨rfl, hp, ho⟩
                      have V1 := Lib.hid (h2.out.call hp ho)
                      clear hp ho X1 t0
                      simp only [Tk.cells]
                      have X2 := Lib.hid (take_any V1.out.ps [46] (by decide))
                      cases hq : isS L [46] s1 with
                      | false =>
                        rw [hq, takeS_no hq] at X2
                        have HLD : Hid (Leads L [.prim] [] (.ok j) [] [[{ nd 21 with name := et }]] s1) := Lib.hid (by
                          refine HLN.out.trans ?_
                          cases hs1 : s1 with
                          | bad k => exact rfl
                          | ok i =>
                            rw [hs1] at hq
                            exact (outer_no (s := .ok i) (sg_not hq)).trans (Leads.mk (L := L) { nd 21 with name := et } [] 0 rfl _))
                        clear hq
                        go_wp2_with fail
                        refine X2.out.mono ?_
                        rintro e v2 ⟨rfl, hp, ho⟩
                        have V2 := Lib.hid (V1.out.call hp ho)
                        clear hp ho X2
                        go_wp2
                        go_ret
                        exact ⟨_, _, _, rfl, ⟨HLD.out, (V2.out.alloc _).ps, (V2.out.alloc _).only, one_node { nd 21 with name := et } 29 (fun hi => by have := V2.out.only.size; omega), HA1.out.1, sz_one rfl⟩⟩
                      | true =>
                        rw [hq] at X2
                        obtain ⟨j1, hj1, hg1, ht1⟩ := takeS_yes hq
                        rw [ht1] at X2
                        have HL2 : Hid (Leads L [.prim] [] (.ok j) [.mark [40], .lF false { nd 23 with name := et, text := (nameV L 1 (.ok (j1 + 1))).text } 0] [] (needS L 1 (.ok (j1 + 1)))) := Lib.hid (by
                          have h1 := HLN.out
                          rw [hj1] at h1
                          exact (h1.trans (outer_dot hg1)).trans (outN_lead et (.ok (j1 + 1))))
                        have HJ1 : Hid (j ≤ j1) := Lib.hid (by
                          have h1 := HA1.out.1
                          rw [hj1] at h1
                          exact h1)
                        have HA2 := Lib.hid (atS_need L 1 (.ok (j1 + 1)))
                        clear hq hj1 hg1 ht1
                        go_wp2_with fail
                        refine X2.out.mono ?_
                        rintro e v2 ⟨rfl, hp, ho⟩
                        have V2 := Lib.hid (V1.out.call hp ho)
                        clear hp ho X2
                        have X3 := Lib.hid (need_any 1 V2.out.ps (by decide))
                        generalize nameV L 1 (.ok (j1 + 1)) = en at *
                        generalize needS L 1 (.ok (j1 + 1)) = s2 at *
                        obtain ⟨fk, ft, fz, fp⟩ := en
                        have hfd2 : ∀ W : World, (Instr.field 72 (.agg #[.int .i64 fk, .string (strOf ft), .int .i64 fz, .int .i64 fp]) 1).run Tryz.prog W = .ok (.string (strOf ft)) W := fun _ => by kernel_rfl
                        go_wp2_with fail
                        refine X3.out.mono ?_
                        rintro e v3 ⟨rfl, hp, ho⟩
                        have V3 := Lib.hid (V2.out.call hp ho)
                        clear hp ho X3
                        simp only [Tk.cells]
                        have HMM : Hid (mu L (markS L [40] s2) < n) := Lib.hid (by
                          have h1 : mu L (markS L [40] s2) ≤ mu L s2 := mu_leR (Leads.mark (L := L) [40] s2).aft (atS_mark L [40] s2).1
                          have h2 : j1 + 1 ≤ atS s2 := HA2.out.1
                          have h3 := V3.out.ps.le
                          have h4 := HJ1.out
                          have h5 : L.length - j + 1 ≤ n := HMU.out
                          refine Nat.lt_of_le_of_lt h1 ?_
                          cases hs2 : s2 with
                          | bad k => exact Nat.lt_of_lt_of_le (Nat.succ_pos _) h5
                          | ok i2 =>
                            rw [hs2] at h2 h3
                            have h6 : j1 + 1 ≤ i2 := h2
                            have h7 : i2 ≤ L.length := h3
                            show L.length - i2 + 1 < n
                            omega)
                        have A4 := Lib.hid (args_any L n HE.out s2 HMM.out g _ _ V3.out.ps)
                        go_wp2_with fail
                        refine A4.out.mono ?_
                        rintro e v4 ⟨v, cs, s5, rfl, hk⟩
                        have V4 := Lib.hid (V3.out.call hk.on.ps hk.on.only)
                        have J1 := Lib.hid (join_any { nd 23 with name := et, text := ft } v cs _ hk.kr.ks (by have := hk.few; have := hk.on.ps.le; have := HFEW.out; omega) (by have := hk.size; have := hk.on.ps.le; have := HFEW.out; omega))
                        have HLD : Hid (Leads L [.prim] [] (.ok j) [] [join { nd 23 with name := et, text := ft } (cs.map (·.2))] s5) := Lib.hid (by
                          have h1 := hk.leads { nd 23 with name := et, text := ft } 0
                          have h2 := (lC_args (x := { nd 23 with name := et, text := ft }) (m := 0 + cs.length) (cs.map (·.2)) s5).trans (Leads.mk (L := L) { nd 23 with name := et, text := ft } (cs.map (·.2)) (0 + cs.length) (by simp) s5)
                          exact (HL2.out.trans h1).trans h2)
                        have HLE2 : Hid (atS (.ok j) ≤ atS s5) := Lib.hid (by
                          have h1 := HJ1.out
                          have h2 : j1 + 1 ≤ atS s2 := HA2.out.1
                          have h3 := hk.le
                          show j ≤ atS s5
                          omega)
                        have HZ : Hid (Sz 2 (.ok j) s5 (join { nd 23 with name := et, text := ft } (cs.map (·.2))).length) := Lib.hid (by
                          refine ⟨fun k hk => (by cases hk), fun i1 k h2 h3 => ?_⟩
                          cases h2
                          have e2 : atS s5 = k := by rw [h3]; rfl
                          have e3 := hk.size
                          have e4 : j1 + 1 ≤ atS s2 := HA2.out.1
                          have e5 := hk.le
                          have e6 := HJ1.out
                          show (cs.map (·.2)).flatten.length + 1 ≤ _
                          omega)
                        clear hk A4
                        simp only [Nd.cells] at J1
                        go_wp2_with (go_at_call 78; refine J1.out.mono ?_; rintro e v5 ⟨u2, rfl, hr2⟩; have HR3 := Lib.hid hr2; clear hr2)
                        go_ret
                        exact ⟨_, _, s5, rfl, ⟨HLD.out, (V4.out.below HR3.out.below).ps, (V4.out.below HR3.out.below).only, NdX.of_own (_w := w) HR3.out.row (by simp [join]) (fun b hb hx => by have := V4.out.only.size; omega), HLE2.out, HZ.out⟩⟩
              · obtain rfl : j = m := by omega
                have HLD : Hid (Leads L [.prim] [] (.ok j) [] [[]] (.bad j)) := Lib.hid (by
                  have h1 : kdS L (.ok j) = 0 := kd_end (show L.length ≤ j by omega)
                  have h2 : sgS L (.ok j) = [] := sg_end (show L.length ≤ j by omega)
                  exact prim_none (by rw [h1]; decide) (by rw [h1]; decide) (by rw [h1]; decide) (by rw [h2]; rfl))
                have z2 : (j : Int) ≥ (j : Int) := Int.le_refl _
                clear hlt hle hm hc
                go_upto_region 14 with fail
                go_quiet (fail)
                generalize hw2 : w5.drewN _ = w6
                have hb : Below w5.heap.size w5 w6 := hw2 ▸ bdN (Below.refl _ _) _
                clear hw2
                have H1 := Lib.hid (O5.out.below hb)
                have d2 := H1.out.ps.at.2.2
                have f2 := H1.out.free.2
                have H2 := Lib.hid (H1.out.call H1.out.ps.failed (Only.of_setCell _))
                clear hb c2 c0 c1
                go_upto_region 16 with fail
                generalize World.setCell _ _ _ = w7 at H2 ⊢
                clear d2 f2
                go_wp2
                go_ret
                exact ⟨_, [], .bad j, rfl, ⟨HLD.out, H2.out.ps, H2.out.only, NdX.nil _ _, Nat.le_refl _, ⟨fun _ _ => Nat.zero_le _, fun _ _ _ _ => Nat.zero_le _⟩⟩⟩
end Go.Proofs.YtemlceicmpcboaaGreatDoor.Pa
