/- Rows of branches of a call's own, a node above them; the walk of param; The walk of list; The walks of slices. No condition but those that each states. -/
import Derived.Test.YtmljjpdodcpohaaGreatDoorMgAY
namespace Go.Proofs.YtmljjpdodcpohaaGreatDoor.Pa
open Lib (hid)
set_option maxRecDepth 100000
set_option maxHeartbeats 1000000
open Go.RowKit Dk Lx Tr
def Kids (W : World) (X : Nat → Prop) (cs : List (Nat × List Nd)) : St → Prop
  | .ok _ => ∀ c ∈ cs, Br W X c.1 c.2
  | .bad _ => True
def Aft (s s' : St) : Prop := ∀ j, s' = .ok j → ∃ i, s = .ok i
theorem Leads.aft {L : List Tk} {A B : List Sy} {us ts : List (List Nd)} {s s' : St} (h : Leads L A us s B ts s') : Aft s s' := by
  intro j hj; subst hj; cases s with
  | ok i => exact ⟨i, rfl⟩
  | bad k => exact absurd h id
theorem Aft.trans {a b c : St} (h : Aft a b) (k : Aft b c) : Aft a c := fun j hj => by obtain ⟨i, hi⟩ := k j hj; exact h i hi
theorem Kids.aft {W : World} {X : Nat → Prop} {cs : List (Nat × List Nd)} {s s' : St} (h : Kids W X cs s) (ha : Aft s s') : Kids W X cs s' := by
  cases s' with
  | ok j => obtain ⟨i, rfl⟩ := ha j rfl; exact h
  | bad k => trivial
theorem Kids.only {F X : Nat → Prop} {W W' : World} {cs : List (Nat × List Nd)} {s : St} (h : Kids W X cs s) (ho : Only F W W') (hF : ∀ i, i < W.heap.size → F i → X i) : Kids W' X cs s := by
  cases s with
  | ok i => exact fun c hc => Br.only (h c hc) ho hF
  | bad k => trivial
theorem Kids.weaken {X Y : Nat → Prop} {W : World} {cs : List (Nat × List Nd)} {s : St} (h : Kids W X cs s) (hXY : ∀ i, i < W.heap.size → Y i → X i) : Kids W Y cs s := by
  cases s with
  | ok i => exact fun c hc => Br.weaken (h c hc) hXY
  | bad k => trivial
theorem Kids.nil (W : World) (X : Nat → Prop) (s : St) : Kids W X [] s := by cases s with | ok i => exact (fun c hc => by cases hc) | bad k => trivial
theorem Kids.add {W : World} {X : Nat → Prop} {cs : List (Nat × List Nd)} {b : Nat} {t : List Nd} {s : St} (h : Kids W X cs s) (hb : SB W X b t s) : Kids W X (cs ++ [(b, t)]) s := by
  cases s with
  | ok i =>
    intro c hc; rcases List.mem_append.1 hc with h1 | h1
    · exact h c h1
    · rw [List.mem_singleton.1 h1]; exact hb
  | bad k => trivial
structure LR (w W : World) (v : Value) (cs : List (Nat × List Nd)) (s : St) : Prop where
  row : W.ownsRow w.heap.size 128 1 v cs.length (bp (cs.map (·.1)))
  kids : Kids W (fun k => k < w.heap.size ∨ v.ownBlock = some k) cs s
theorem LR.nil (w W : World) (s : St) : LR w W (.slice none 0 0) [] s := ⟨World.ownsRow_nil _ _ _ _, Kids.nil _ _ _⟩
theorem LR.aft {w W : World} {v : Value} {cs : List (Nat × List Nd)} {s s' : St} (h : LR w W v cs s) (ha : Aft s s') : LR w W v cs s' := ⟨h.row, h.kids.aft ha⟩
theorem LR.only {w W W' : World} {v : Value} {cs : List (Nat × List Nd)} {s : St} {g : Nat} (h : LR w W v cs s) (ho : Only (fun k => k = g) W W') (hg : g < w.heap.size) : LR w W' v cs s :=
  ⟨ownsRow_block h.row (fun b hb => ho.block b (Tr.own_lo h.row b hb).2 (by have := (Tr.own_lo h.row b hb).1; omega)), h.kids.only ho (fun i _ hi => .inl (by omega))⟩
theorem LR.below {w W W' : World} {v : Value} {cs : List (Nat × List Nd)} {s : St} (h : LR w W v cs s) (hb : Below W.heap.size W W') : LR w W' v cs s :=
  ⟨ownsRow_block h.row (fun b hb' => hb.block b (Tr.own_lo h.row b hb').2), h.kids.only (Only.of_below (F := fun _ => False) hb) (fun _ _ h => h.elim)⟩
theorem LR.row' {w W : World} {v : Value} {cs : List (Nat × List Nd)} {s : St} (h : LR w W v cs s) : Row W (fun k => k < w.heap.size) v (cs.map (·.1)) := by
  have hl : (cs.map (·.1)).length = cs.length := by simp
  rcases h.row.2 with ⟨hv, h0⟩ | ⟨g, cap, cur, hv, hbg, hg, h3, h4, h5, h6⟩
  · exact ⟨none, 0, by rw [hv, hl, h0], by omega, .inl (by rw [List.eq_nil_of_length_eq_zero h0]; rfl)⟩
  · have hrow := h.row
    rw [hv] at hrow; refine ⟨_, cap, by rw [hv, hl], by omega, .inr ⟨g, 0, rfl, (Tr.own_lo h.row g (by rw [hv]; rfl)).2, by omega, ownsRow_range hrow⟩⟩
theorem sb_node {w W : World} {b : Nat} {x : Nd} {k : Int} {v : Value} {cs : List (Nat × List Nd)} {s : St} (h : BB W b x k v) (hb : w.heap.size ≤ b) (hr : LR w W v cs s) : SB W (fun k => k < w.heap.size) b (join x (cs.map (·.2))) s := by
  cases s with
  | ok i => exact .mk b x k v cs h.cells h.room h.lt (by omega) hr.row' (fun c hc => Br.weaken (hr.kids c hc) (fun _ _ h => .inl h))
  | bad k => exact ⟨h.lt, by omega, x.kind, h.cells 0 _ rfl⟩
theorem LR.push {w W W7 : World} {v : Value} {cs : List (Nat × List Nd)} {s : St} {b n : Nat} {t : List Nd} {g' cap : Nat} {o : Obj} (h : LR w W v cs s) (hn : n = cs.length) (hb : SB W (fun k => k < w.heap.size ∨ v.ownBlock = some k) b t s)
    (_hw : w.heap.size ≤ W.heap.size) (hrow : W7.ownsRow w.heap.size 128 1 (.slice (some ⟨g', 0, none⟩) (n + 1) cap) (n + 1) (bp (cs.map (·.1)) ++ [ptr b])) (hgr : (W.alloc o).grownBy W7 v.ownBlock)
    (hg : v.ownBlock = some g' ∨ g' = W.heap.size + 1) : LR w W7 (.slice (some ⟨g', 0, none⟩) (n + 1) cap) (cs ++ [(b, t)]) s ∧ Only (fun k => v.ownBlock = some k) W W7 := by
  subst hn; have ho : Only (fun k => v.ownBlock = some k) W W7 := ((Only.refl (fun k => v.ownBlock = some k) W).alloc o).trans (Only.of_grown (F := fun k => v.ownBlock = some k) hgr (fun _ h => h)) (fun _ _ h => h); refine ⟨⟨?_, ?_⟩, ho⟩
  · rw [List.length_append, List.map_append, bp_app]
    exact hrow
  · have h1 : Kids W (fun k => (k < w.heap.size ∨ v.ownBlock = some k) ∨ W.heap.size ≤ k) (cs ++ [(b, t)]) s := Kids.weaken (Kids.add h.kids hb) (fun i hi hx => hx.elim id (fun h => absurd h (by omega)))
    have h2 := Kids.only h1 ho (fun i _ hi => .inl (.inr hi)); refine Kids.weaken h2 (fun i _ hi => ?_); rcases hi with hi | hi
    · exact .inl (.inl hi)
    · have e : g' = i := by simpa [Value.ownBlock] using hi
      subst e; rcases hg with h | h
      · exact .inl (.inr h)
      · exact .inr (by omega)
theorem LR.one {w W : World} {s : St} {b : Nat} {t : List Nd} (hb : SB W (fun k => k < w.heap.size) b t s) (hw : w.heap.size ≤ W.heap.size) : LR w (W.alloc (.cells #[ptr b] 128)) (.slice (some ⟨W.heap.size, 0, none⟩) 1 1) [(b, t)] s := by
  refine ⟨World.ownsRow_lit W #[ptr b] 1 hw (by unfold maxLen; omega) rfl, ?_⟩
  have h1 : Kids W (fun k => k < w.heap.size) [(b, t)] s := Kids.add (cs := []) (Kids.nil _ _ _) hb; have h2 := Kids.weaken (Y := fun k => k < w.heap.size ∨ W.heap.size ≤ k) h1 (fun i hi hx => hx.elim id (fun h => absurd h (by omega))); refine Kids.weaken (Kids.only h2 (Only.of_below (F := fun _ => False) ((Below.refl _ _).alloc (Nat.le_refl _) _)) (fun _ _ h => h.elim)) (fun i _ hi => ?_); rcases hi with hi | hi
  · exact .inl hi
  · have e : W.heap.size = i := by simpa [Value.ownBlock] using hi
    exact .inr (by omega)
theorem Leads.mk {L : List Tk} (x : Nd) (ts : List (List Nd)) (m : Nat) (hm : m = ts.length) (s : St) : Leads L [.mk x m] ts s [] [join x ts] s := by
  subst hm; cases s with
  | bad k => exact rfl
  | ok i =>
    refine .yes (fun V => ?_); show (if ts.length ≤ (ts.reverse ++ V).length then some ([], join x ((ts.reverse ++ V).take ts.length).reverse :: (ts.reverse ++ V).drop ts.length, i) else none) = _
    rw [if_pos (by simp), List.take_append_of_le_length (by simp), List.take_of_length_le (by simp), List.drop_append_of_le_length (by simp), List.drop_of_length_le (by simp)]; simp
theorem need_lead {L : List Tk} (a : Sy) (k : Int) (us : List (List Nd)) (s : St) (B : Tk → List Sy) (ho : ∀ V i, one L a V i = need L k V i (B (L.getD i Tk.zero))) : Leads L [a] us s (B (nameV L k s)) us (needS L k s) := by
  cases s with
  | bad k => exact rfl
  | ok i =>
    show Leads L [a] us (.ok i) (B (if kd L i = k then L.getD i Tk.zero else Tk.zero)) us (if kd L i = k then .ok (i + 1) else .bad i)
    by_cases h : kd L i = k
    · rw [if_pos h, if_pos h]
      exact .yes (fun V => by rw [ho]; exact if_pos h)
    · rw [if_neg h, if_neg h]
      exact .no (fun V => by rw [ho]; exact if_neg h)
theorem tx_getD (L : List Tk) (i : Nat) : tx L i = (L.getD i Tk.zero).text := by
  unfold tx; cases h : L[i]? <;> simp [List.getD, h, Tk.zero]
theorem nm_getD (L : List Tk) (i : Nat) : nm L i = (L.getD i Tk.zero).n := by
  unfold nm; cases h : L[i]? <;> simp [List.getD, h, Tk.zero]
theorem need_le {L : List Tk} (k : Int) {s : St} (hs : nx L s ≤ L.length) : nx L s ≤ nx L (needS L k s) := by
  cases s with
  | bad j => exact Nat.le_refl _
  | ok i =>
    show i ≤ nx L (if kd L i = k then .ok (i + 1) else .bad i)
    split
    · exact Nat.le_succ _
    · exact hs
theorem mark_le {L : List Tk} (q : List UInt8) {s : St} (hs : nx L s ≤ L.length) : nx L s ≤ nx L (markS L q s) := by
  cases s with
  | bad j => exact Nat.le_refl _
  | ok i =>
    show i ≤ nx L (if sg L i = q then .ok (i + 1) else .bad i)
    split
    · exact Nat.le_succ _
    · exact hs
theorem param_rd (L : List Tk) (s : St) : Rd L 183 [.par] s := by
  intro g vt w h; have N := hid (name_rd h)
  have HL : Hid (Leads L [.par] [] s [] [join { nd 4 with name := (nameV L 1 s).text } []] (needS L 1 s)) := hid (by
    refine (need_lead .par 1 [] s (fun t => [.mk { nd 4 with name := t.text } 0]) (fun V i => by rw [← tx_getD]; rfl)).trans ?_
    exact Leads.mk _ [] 0 rfl _)
  have HLE := hid (need_le 1 h.le); generalize (nameV L 1 s).text = q at *; generalize needS L 1 s = s' at *; have H0 := hid (On.start h); have G := hid (fun W => grow_any ⟨4, 0, q, 0, []⟩ none 0 0 W); clear h; go_enter Tryz.func183, Tryz.ntmps183
  go_wp2_with fail
  refine N.out.mono ?_; rintro e w1 ⟨rfl, hp, ho⟩; have H1 := hid (H0.out.call hp ho); clear hp ho; go_wp2_with fail
  refine (G.out _).mono ?_; rintro e w2 ⟨b, rfl, hb, hB, hbel⟩; have H2 := hid (H1.out.below hbel); have HSB : Hid (SB w2 (fun k => k < w.heap.size) b (join { nd 4 with name := q } []) s') := hid (sb_node (cs := []) hB (by have := H1.out.only.size; omega) (LR.nil _ _ _))
  clear hbel hb hB; go_wp2; go_ret; exact ⟨b, _, s', rfl, HL.out, H2.out.ps, H2.out.only, HSB.out, HLE.out⟩
end Go.Proofs.YtmljjpdodcpohaaGreatDoor.Pa

namespace Go.Proofs.YtmljjpdodcpohaaGreatDoor.Pa
open Lib (hid)
set_option maxRecDepth 100000
set_option maxHeartbeats 4000000
open Go.RowKit Dk Lx Tr
def mu (L : List Tk) : St → Nat
  | .ok i => L.length - i + 1
  | .bad _ => 0
theorem mu_le {L : List Tk} {s s' : St} (ha : Aft s s') (h : nx L s ≤ nx L s') : mu L s' ≤ mu L s := by
  cases s' with
  | bad k => exact Nat.zero_le _
  | ok j =>
    obtain ⟨i, rfl⟩ := ha j rfl; show L.length - j + 1 ≤ L.length - i + 1
    have : i ≤ j := h; omega
structure LsOk (L : List Tk) (g : Nat) (vt : Value) (p : Bool) (s : St) (w : World) (e : Ending) (w' : World) (v : Value) (cs : List (Nat × List Nd)) (s' : St) : Prop where
  ret : e = .returned v
  on : On L g vt w w' s'
  lr : LR w w' v cs s'
  tail : ∀ x m, Leads L [.lF p x m] [] (markS L [40] s) [.lC p x (m + cs.length)] (cs.map (·.2)) s'
  far : nx L (markS L [40] s) ≤ nx L s'
  few : cs.length ≤ nx L s' + 1
  form : ∃ q c, v = .slice q cs.length c
  none : cs = [] → v = .slice none 0 0
theorem LsOk.leads {L : List Tk} {g : Nat} {vt : Value} {p : Bool} {s : St} {w : World} {e : Ending} {w' : World} {v : Value} {cs : List (Nat × List Nd)} {s' : St} (h : LsOk L g vt p s w e w' v cs s') : ∀ x m, Leads L [.mark [40], .lF p x m] [] s [.lC p x (m + cs.length)] (cs.map (·.2)) s' := fun x m => by
  have := (Leads.mark (L := L) [40] s).over [.lF p x m] []; exact (show Leads L [.mark [40], .lF p x m] [] s [.lF p x m] [] (markS L [40] s) from this).trans (h.tail x m)
theorem LsOk.le {L : List Tk} {g : Nat} {vt : Value} {p : Bool} {s : St} {w : World} {e : Ending} {w' : World} {v : Value} {cs : List (Nat × List Nd)} {s' : St} (h : LsOk L g vt p s w e w' v cs s') (hs : nx L s ≤ L.length) : nx L s ≤ nx L s' := Nat.le_trans (mark_le [40] hs) h.far
def LsAny (L : List Tk) (g : Nat) (vt : Value) (p : Bool) (s : St) (w : World) (e : Ending) (w' : World) : Prop := ∃ v cs s', LsOk L g vt p s w e w' v cs s'
def RdN (L : List Tk) (f : FuncId) (A : List Sy) (n : Nat) : Prop := ∀ s, mu L s < n → Rd L f A s
def elS (p : Bool) : Sy := if p then .par else .e 0
theorem lF_shut {L : List Tk} {p : Bool} {x : Nd} {m j : Nat} (us : List (List Nd)) (h : sg L j = [41]) : Leads L [.lF p x m] us (.ok j) [.lC p x m] us (.ok (j + 1)) := .yes (fun V => by
  show (if sg L j = [41] then _ else _) = _
  rw [if_pos h])
theorem lF_more {L : List Tk} {p : Bool} {x : Nd} {m : Nat} (us : List (List Nd)) {s : St} (h : sgS L s ≠ [41]) : Leads L [.lF p x m] us s [elS p, .lN p x (m + 1)] us s := by
  cases s with
  | bad k => exact rfl
  | ok j => exact .yes (fun V => by
      show (if sg L j = [41] then _ else some ([elS p, .lN p x (m + 1)], us.reverse ++ V, j)) = _
      exact if_neg h)
theorem lN_more {L : List Tk} {p : Bool} {x : Nd} {m j : Nat} (us : List (List Nd)) (h : sg L j = [44]) : Leads L [.lN p x m] us (.ok j) [elS p, .lN p x (m + 1)] us (.ok (j + 1)) := .yes (fun V => by
  show (if sg L j = [44] then some ([elS p, .lN p x (m + 1)], us.reverse ++ V, j + 1) else _) = _
  rw [if_pos h])
theorem lN_shut {L : List Tk} {p : Bool} {x : Nd} {m : Nat} (us : List (List Nd)) {s : St} (h : sgS L s ≠ [44]) : Leads L [.lN p x m] us s [.lC p x m] us (markS L [41] s) := by
  cases s with
  | bad k => exact rfl
  | ok j =>
    show Leads L [.lN p x m] us (.ok j) [.lC p x m] us (if sg L j = [41] then .ok (j + 1) else .bad j)
    by_cases hs : sg L j = [41]
    · rw [if_pos hs]
      exact .yes (fun V => by
        show (if sg L j = [44] then some ([elS p, .lN p x (m + 1)], us.reverse ++ V, j + 1) else if sg L j = [41] then some ([Sy.lC p x m], us.reverse ++ V, j + 1) else none) = _
        exact (if_neg h).trans (if_pos hs))
    · rw [if_neg hs]
      exact .no (fun V => by
        show (if sg L j = [44] then some ([elS p, .lN p x (m + 1)], us.reverse ++ V, j + 1) else if sg L j = [41] then some ([Sy.lC p x m], us.reverse ++ V, j + 1) else none) = _
        exact (if_neg h).trans (if_neg hs))
theorem ptr_info3 : (Tryz.prog.info? 128).map (fun i => (i.zero, i.size, i.bytes)) = some (some (.pointer none), 1, 8) := by kernel_rfl
def Enters (f : FuncId) : Prop := ∀ (a : Array Value) (W : World), (callFunc f a).run Tryz.prog W = .ok (.enter f a) W
theorem list_any (L : List Tk) (F : FuncId) (hF : Enters F) (p : Bool) (n : Nat) (hE : RdN L F [elS p] n) (s : St) (hs : mu L (markS L [40] s) < n) (g : Nat) (vt : Value) (w : World) (h : PS L g vt w s) :
    Calls Tryz.prog 182 #[ptr g, .func (.func F) #[ptr g] #[]] w (LsAny L g vt p s w) := by
  have HE := hid hE; have hcall := hF #[ptr g]; have X1 := hid (expect_any [40] h (by decide)); generalize hs1 : markS L [40] s = s1 at *; have HL1 : Hid (∀ x m, Leads L [.lF p x m] [] s1 [.lF p x m] [] s1) := hid (fun x m => Leads.refl _ _ _); have HLE1 := hid (Nat.le_refl (nx L s1)); have H0 := hid (On.start h); have HS1 := hid hs1; have HLT := hid h.lt; clear h hE hs1 hF; go_enter Tryz.func182, Tryz.ntmps182
  go_wp2_with fail
  refine X1.out.mono ?_; rintro e w1 ⟨rfl, hp, ho⟩; have H1 := hid (H0.out.call hp ho); clear hp ho; by_cases hq : sgS L s1 = [41]
  · obtain ⟨j, rfl⟩ : ∃ j, s1 = .ok j := by
      cases s1 with
      | ok j => exact ⟨j, rfl⟩
      | bad k => rw [sgS_bad] at hq; cases hq
    have A := hid (accept_yes [41] H1.out.ps (by decide) hq); have HL2 : Hid (∀ x m, Leads L [.lF p x m] [] (.ok j) [.lC p x m] [] (.ok (j + 1))) := hid (fun x m => (HL1.out x m).trans (lF_shut [] hq)); clear hq HL1; go_wp2_with fail
    refine A.out.mono ?_; rintro e w2 ⟨rfl, hp, ho⟩; have H2 := hid (H1.out.call hp ho); clear hp ho; go_wp2; go_ret; exact ⟨_, [], .ok (j + 1), rfl, H2.out, LR.nil _ _ _, by rw [HS1.out]; exact HL2.out, by rw [HS1.out]; exact Nat.le_trans HLE1.out (Nat.le_succ _), Nat.zero_le _, ⟨_, _, rfl⟩, fun _ => rfl⟩
  · have A := hid (accept_no [41] H1.out.ps hq)
    have E1 := hid (HE.out s1 hs); have HL2 : Hid (∀ x m, Leads L [.lF p x m] [] s1 [elS p, .lN p x (m + 1)] [] s1) := hid (fun x m => (HL1.out x m).trans (lF_more [] hq)); have HQ := hid hs; clear hq HL1 hs; go_wp2_with fail
    refine A.out.mono ?_; rintro e w2 ⟨rfl, hb⟩; have H2 := hid (H1.out.below hb); clear hb; go_wp2_with fail
    refine (E1.out g vt w2 H2.out.ps).mono ?_; rintro e w3 ⟨b, t, s2, hk⟩; obtain ⟨rfl, hl, hps, honly, hbr, hle⟩ := hk; have H3 := hid (H2.out.call hps honly)
    have HL3 : Hid (∀ x m, Leads L [.lF p x m] [] s1 [.lN p x (m + ([(b, t)] : List (Nat × List Nd)).length)] ([(b, t)].map (·.2)) s2) := hid (fun x m => (HL2.out x m).trans (by
      have := hl.over [.lN p x (m + 1)] []
      exact this))
    have HLE3 := hid (Nat.le_trans HLE1.out hle); have HR3 := hid (LR.one (w := w) (SB.weaken hbr (fun i _ hi => by have := H2.out.only.size; omega)) H3.out.only.size)
    have HM3 := hid (Nat.lt_of_le_of_lt (mu_le hl.aft hle) HQ.out); clear hl hps honly hbr hle HL2 HQ E1 A HLE1; have H4 := hid (H3.out.alloc (.cells #[ptr b] 128)); obtain ⟨i0, hi0, hy0, hy1, hy2⟩ := info_parts ptr_info3; have HFEW := hid H3.out.ps.few; go_wp2; go_loopg [5] (L.length - nx L s2) (fun k vl wr => ∃ (cs : List (Nat × List Nd)) (s2 : St) (q : Option Addr) (m c : Nat), vl = .slice q m c ∧ Hid (m = cs.length) ∧ Hid (LR w wr (.slice q m c) cs s2) ∧ Hid (On L g vt w wr s2) ∧ Hid (∀ x m, Leads L [.lF p x m] [] s1 [.lN p x (m + cs.length)] (cs.map (·.2)) s2) ∧ Hid (nx L s1 ≤ nx L s2) ∧ Hid (mu L s2 < n) ∧ Hid (cs.length ≤ nx L s2 + 1) ∧ Hid (k = L.length - nx L s2) ∧ Hid (cs ≠ []))
    case atStart => exact ⟨_, s2, _, 1, 1, rfl, hid rfl, HR3, H4, HL3, HLE3, HM3, hid (by simp), hid rfl, hid (by simp)⟩
    case round =>
      clear HR3 H4 HL3 HLE3 HM3 H3; obtain ⟨cs, s3, q, m, c, rfl, HM, HR, HO, HL, HLE, HMU, HC, HK, HNE⟩ := hrel; by_cases hq : sgS L s3 = [44]
      · obtain ⟨j, rfl⟩ : ∃ j, s3 = .ok j := by
          cases s3 with
          | ok j => exact ⟨j, rfl⟩
          | bad k => rw [sgS_bad] at hq; cases hq
        have hjl : j < L.length := sg_lt (by rw [show sg L j = [44] from hq]; simp)
        have A := hid (accept_yes [44] HO.out.ps (by decide) hq); have HL2 : Hid (∀ x m, Leads L [.lF p x m] [] s1 [elS p, .lN p x (m + cs.length + 1)] (cs.map (·.2)) (.ok (j + 1))) := hid (fun x m => (HL.out x m).trans (lN_more _ hq)); have hmu : mu L (.ok (j + 1)) < n := Nat.lt_of_le_of_lt (show L.length - (j + 1) + 1 ≤ L.length - j + 1 by omega) HMU.out; have E2 := hid (HE.out (.ok (j + 1)) hmu); have HLE4 : Hid (nx L s1 ≤ j + 1) := hid (Nat.le_trans HLE.out (Nat.le_succ _)); have HQ2 := hid hmu; have HJ := hid hjl; clear hq HL hmu hjl HLE; go_wp2_with fail
        refine A.out.mono ?_; rintro e v2 ⟨rfl, hp, ho⟩; have O2 := hid (HO.out.call hp ho); have R2 : Hid (LR w v2 (.slice q m c) cs (.ok (j + 1))) := hid ((HR.out.only ho HLT.out).aft (fun _ _ => ⟨j, rfl⟩)); clear hp ho HO HR A; go_wp2_with fail
        refine (E2.out g vt v2 O2.out.ps).mono ?_; rintro e v3 ⟨b', t', s4, hk⟩; obtain ⟨rfl, hl, hps, honly, hbr, hle⟩ := hk; have O3 := hid (O2.out.call hps honly); have R3 := hid ((R2.out.only honly HLT.out).aft hl.aft)
        have HL4 : Hid (∀ x m, Leads L [.lF p x m] [] s1 [.lN p x (m + (cs ++ [(b', t')]).length)] ((cs ++ [(b', t')]).map (·.2)) s4) := hid (fun x m => (HL2.out x m).trans (by
          have := hl.over [.lN p x (m + cs.length + 1)] (cs.map (·.2)); rw [List.append_nil] at this; rw [List.length_append, List.map_append, ← Nat.add_assoc]
          exact this))
        have HMU4 := hid (Nat.lt_of_le_of_lt (mu_le hl.aft hle) HQ2.out); have HLE5 : Hid (nx L s1 ≤ nx L s4 ∧ j + 1 ≤ nx L s4) := hid ⟨Nat.le_trans HLE4.out hle, hle⟩
        have HSB : Hid (SB v3 (fun k => k < w.heap.size ∨ (Value.slice q m c).ownBlock = some k) b' t' s4) := hid (SB.weaken hbr (fun i _ hi => by
          rcases hi with hi | hi
          · have := O2.out.only.size; omega
          · exact (Tr.own_lo R2.out.row i hi).2))
        have N1 := hid (news_at v3 #[ptr b'] 128); have hm1 : m ≤ 1000002 := by have := HM.out; have := HC.out; have := HFEW.out; have := HJ.out; have : nx L (.ok j) = j := rfl; omega
        have HSZ := hid O3.out.only.size; clear hl hps honly hbr hle HL2 E2 R2 O2 HLE4 HQ2; go_wp2_with (refine wpList_append_lies _ rfl (.tmp 15) (.tmp 18) 172 rfl w.heap.size 128 i0 (.pointer none) 1 8 Tryz.underlying172 hi0 hy0 hy1 hy2 rfl (by decide) _ m (bp (cs.map (·.1))) rfl (by have := R3.out.row.alloc (.cells #[ptr b'] 128); rw [← HM.out] at this; exact this) ⟨v3.heap.size, 0, none⟩ 1 1 [ptr b'] rfl rfl N1.out (by simp [Value.oneCell']) (by decide) (by unfold maxLen; omega) (by omega) (by have := HSZ.out; simp; omega) (v3.heap.size + 1) (by simp) ?_; intro g' cap v7 hrow hgr hgl hlt7; have HP := hid (R3.out.push HM.out HSB.out HSZ.out hrow hgr hgl); clear hrow hgr hgl hlt7)
        have O7 := hid (O3.out.own HP.out.2 (fun i hi => (Tr.own_lo R3.out.row i hi).1)); go_roundg (L.length - nx L s4)
        case rel => exact ⟨_, s4, _, _, _, rfl, hid (by rw [List.length_append, ← HM.out]; rfl), hid HP.out.1, O7, HL4, hid HLE5.out.1, HMU4, hid (by have := HC.out; have := HLE5.out.2; have e : nx L (.ok j) = j := rfl; rw [List.length_append]; simp; omega), hid rfl, hid (by simp)⟩
        case measure => have := HK.out; have := HLE5.out.2; have := HJ.out; have e : nx L (.ok j) = j := rfl; omega
      · have A := hid (accept_no [44] HO.out.ps hq)
        have HL2 : Hid (∀ x m, Leads L [.lF p x m] [] s1 [.lC p x (m + cs.length)] (cs.map (·.2)) (markS L [41] s3)) := hid (fun x m => (HL.out x m).trans (lN_shut _ hq)); have X2 := hid (fun W (hp : PS L g vt W s3) => expect_any [41] hp (by decide)); have HLE4 := hid (Nat.le_trans HLE.out (mark_le [41] HO.out.ps.le)); have HAF : Hid (Aft s3 (markS L [41] s3)) := hid (Leads.mark (L := L) [41] s3).aft; have HC4 := hid (Nat.le_trans HC.out (Nat.succ_le_succ (mark_le [41] HO.out.ps.le))); generalize markS L [41] s3 = s5 at *; clear hq HL; go_wp2_with fail
        refine A.out.mono ?_; rintro e v2 ⟨rfl, hb⟩; have O2 := hid (HO.out.below hb); have R2 := hid (HR.out.below hb); clear hb A; go_wp2_with fail
        refine (X2.out _ O2.out.ps).mono ?_; rintro e v3 ⟨rfl, hp, ho⟩; have O3 := hid (O2.out.call hp ho); have R3 := hid ((R2.out.only ho HLT.out).aft HAF.out); clear hp ho; go_wp2; go_ret; exact ⟨_, cs, s5, rfl, O3.out, R3.out, by rw [HS1.out]; exact HL2.out, by rw [HS1.out]; exact HLE4.out, HC4.out, ⟨q, c, by rw [HM.out]; rfl⟩, fun h => absurd h HNE.out⟩
end Go.Proofs.YtmljjpdodcpohaaGreatDoor.Pa

namespace Go.Proofs.YtmljjpdodcpohaaGreatDoor.Pa
open Lib (hid)
set_option maxRecDepth 100000
set_option maxHeartbeats 1000000
open Go.RowKit Dk Lx Tr
def strs (l : List (List UInt8)) : List Value := l.map fun x => .string (strOf x)
def IdxOk (l : List (List UInt8)) (q : List UInt8) (w : World) (e : Ending) (w' : World) : Prop := ∃ k : Int, e = .returned (.int .i64 k) ∧ (decide (0 ≤ k) = decide (q ∈ l)) ∧ w = w'
theorem index_any (l : List (List UInt8)) (q : List UInt8) (r n c : Nat) (w : World) (hn : n = l.length) (hl : n ≤ 100) (hr : w.rangeAt r 0 (strs l)) :
    Calls Tryz.prog 255 #[.slice (some ⟨r, 0, none⟩) n c, .string (strOf q)] w (IdxOk l q w) := by
  have HN := hid hn; have HR := hid hr; clear hn hr; go_enter Tryz.func255, Tryz.ntmps255
  go_wp2; go_loopw [8] (fun vi wr => ∃ i : Nat, i ≤ n ∧ vi = .int .i64 (i : Int) ∧ wr = w ∧ Hid (∀ j (h : j < l.length), j < i → l[j] ≠ q)) (fun vi _ => n - (intOf vi).toNat)
  case atStart => exact ⟨0, Nat.zero_le _, rfl, rfl, hid (fun j _ hj => absurd hj (Nat.not_lt_zero j))⟩
  case round =>
    obtain ⟨i, hi, rfl, rfl, hA⟩ := hrel; by_cases hlt : i < n
    · have hil : i < l.length := by rw [← HN.out]; exact hlt
      have z0 : (0 : Int) ≤ (i : Int) := by omega
      have z1 : (i : Int) < (n : Int) := by omega
      have c0 : wr.cell? ⟨r, i, none⟩ = some (.string (strOf l[i])) := by
        have := HR.out i (.string (strOf l[i])) (by simp [strs, hil]); rwa [Nat.zero_add] at this
      have HS : Hid (((strOf q).toList == (strOf l[i]).toList) = decide (q = l[i])) := hid (str_beq _ _); have HI : Hid (l[i] = q → q ∈ l) := hid (fun h => h ▸ List.getElem_mem hil)
      have HA2 : Hid (l[i] ≠ q → ∀ j (h : j < l.length), j < i + 1 → l[j] ≠ q) := hid (fun h j hj hji => by
        by_cases e : j = i
        · subst e; exact h
        · exact hA.out j hj (by omega))
      generalize l[i] = x at *; clear hA hil; by_cases hx : x = q
      · have z2 := HS.out.trans (decide_eq_true hx.symm)
        have HM := hid (HI.out hx); generalize strOf q = qq at *; generalize strOf x = xx at *; clear hx HI HS HA2; go_wp2; go_ret; exact ⟨_, rfl, by rw [decide_eq_true z0, decide_eq_true HM.out], rfl⟩
      · have z2 := HS.out.trans (decide_eq_false (Ne.symm hx))
        have HA3 := hid (HA2.out hx); generalize strOf q = qq at *; generalize strOf x = xx at *; clear hx HI HS HA2; go_wp2; go_roundw
        case rel => exact ⟨i + 1, by omega, by go_num, trivial, HA3⟩
        case measure => simp [intOf]; omega
    · obtain rfl : i = n := by omega
      have HM : Hid (q ∉ l) := hid (fun h => by
        obtain ⟨j, hj, e⟩ := List.getElem_of_mem h
        exact hA.out j hj (by rw [HN.out]; exact hj) e)
      clear hA; go_wp2; go_ret; exact ⟨_, rfl, by rw [decide_eq_false HM.out]; rfl, rfl⟩
theorem contains_any (l : List (List UInt8)) (q : List UInt8) (r n c : Nat) (w : World) (hn : n = l.length) (hl : n ≤ 100) (hr : w.rangeAt r 0 (strs l)) :
    Calls Tryz.prog 250 #[.slice (some ⟨r, 0, none⟩) n c, .string (strOf q)] w fun e w' => e = .returned (.bool (decide (q ∈ l))) ∧ w = w' := by
  have I := hid (index_any l q r n c w hn hl hr); clear hn hl hr; go_enter Tryz.func250, Tryz.ntmps250
  go_wp2_with fail
  refine I.out.mono ?_; rintro e w1 ⟨k, rfl, hk, rfl⟩; have HK := hid hk; clear hk I; go_wp2; go_ret; rw [← HK.out]; exact ⟨rfl, rfl⟩
end Go.Proofs.YtmljjpdodcpohaaGreatDoor.Pa

