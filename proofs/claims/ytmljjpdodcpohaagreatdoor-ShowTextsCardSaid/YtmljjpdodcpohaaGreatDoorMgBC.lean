/- A branch whose row grows; the walk of function; The walk of function; An append of a row that a call handed back; the walk of post. No condition but those that each states. -/
import Derived.Test.YtmljjpdodcpohaaGreatDoorMgBB
namespace Go.Proofs.YtmljjpdodcpohaaGreatDoor.Pa
open Go.RowKit Dk Lx Tr
theorem BB.only {F : Nat → Prop} {W W' : World} {b : Nat} {x : Nd} {k : Int} {v : Value} (h : BB W b x k v) (ho : Only F W W') (hF : ¬F b) : BB W' b x k v :=
  ⟨rangeAt_block h.cells (ho.block b h.lt hF), there_block h.room (ho.block b h.lt hF), Nat.lt_of_lt_of_le h.lt ho.size⟩
theorem BB.below {W W' : World} {b : Nat} {x : Nd} {k : Int} {v : Value} (h : BB W b x k v) (hb : Below W.heap.size W W') : BB W' b x k v := h.only (Only.of_below (F := fun _ => False) hb) id
theorem BB.at {W : World} {b : Nat} {x : Nd} {k : Int} {v : Value} (h : BB W b x k v) : W.cell? ⟨b, 0, none⟩ = some (.int .i64 x.kind) ∧ W.cell? ⟨b, 1, none⟩ = some (.int .i64 k) ∧ W.cell? ⟨b, 2, none⟩ = some (.string (strOf x.name)) ∧ W.cell? ⟨b, 3, none⟩ = some (.int .i64 x.n) ∧ W.cell? ⟨b, 4, none⟩ = some (.string (strOf x.text)) ∧ W.cell? ⟨b, 5, none⟩ = some v :=
  ⟨h.cells 0 _ rfl, h.cells 1 _ rfl, h.cells 2 _ rfl, h.cells 3 _ rfl, h.cells 4 _ rfl, h.cells 5 _ rfl⟩
theorem BB.free {W : World} {b : Nat} {x : Nd} {k : Int} {v : Value} (h : BB W b x k v) (j : Nat) (hj : j < 6) : W.frozen? ⟨b, j, none⟩ = false := by
  have := (h.room j hj).2; rwa [Nat.zero_add] at this
theorem BB.put {W : World} {b : Nat} {x x' : Nd} {k k' : Int} {v v' u : Value} (j : Nat) (h : BB W b x k v) (hj : j < 6) (hx : (bcells x k v).set j u = bcells x' k' v') : BB (W.setCell ⟨b, j, none⟩ u) b x' k' v' := by
  refine ⟨fun i y hi => ?_, there_setCell h.room _ _, by simpa using h.lt⟩; rw [Nat.zero_add]; rw [← hx] at hi; by_cases e : j = i
  · subst e
    have hc := h.cells j _ (List.getElem?_eq_getElem (show j < (bcells x k v).length from hj)); rw [Nat.zero_add] at hc; rw [World.cell?_setCell_same _ _ _ hc]; rw [List.getElem?_set_self (show j < (bcells x k v).length from hj)] at hi; exact hi
  · rw [World.cell?_setCell_other _ _ _ _ (by simp [])]
    rw [List.getElem?_set_ne e] at hi; have := h.cells i y hi; rwa [Nat.zero_add] at this
theorem BB.row {W : World} {b : Nat} {x : Nd} {k : Int} {v : Value} (h : BB W b x k v) (v' : Value) : BB (W.setCell ⟨b, 5, none⟩ v') b x k v' := h.put 5 (by decide) rfl
structure FB (w W : World) (b : Nat) (x : Nd) (k : Int) (v : Value) (cs : List (Nat × List Nd)) (s : St) : Prop where
  bb : BB W b x k v
  own : w.heap.size ≤ b
  row : W.ownsRow w.heap.size 128 1 v cs.length (bp (cs.map (·.1)))
  kids : Kids W (fun k => (k < w.heap.size ∨ v.ownBlock = some k) ∨ k = b) cs s
  ne : v.ownBlock ≠ some b
theorem FB.lr {w W : World} {b : Nat} {x : Nd} {k : Int} {v : Value} {cs : List (Nat × List Nd)} {s : St} (h : FB w W b x k v cs s) : LR w W v cs s := ⟨h.row, Kids.weaken h.kids (fun _ _ h => .inl h)⟩
theorem FB.sb {w W : World} {b : Nat} {x : Nd} {k : Int} {v : Value} {cs : List (Nat × List Nd)} {s : St} (h : FB w W b x k v cs s) : SB W (fun k => k < w.heap.size) b (join x (cs.map (·.2))) s := sb_node h.bb h.own h.lr
theorem FB.aft {w W : World} {b : Nat} {x : Nd} {k : Int} {v : Value} {cs : List (Nat × List Nd)} {s s' : St} (h : FB w W b x k v cs s) (ha : Aft s s') : FB w W b x k v cs s' := ⟨h.bb, h.own, h.row, h.kids.aft ha, h.ne⟩
theorem FB.call {w W W' : World} {b : Nat} {x : Nd} {k : Int} {v : Value} {cs : List (Nat × List Nd)} {s : St} {g : Nat} (h : FB w W b x k v cs s) (ho : Only (fun k => k = g) W W') (hg : g < w.heap.size) : FB w W' b x k v cs s :=
  ⟨h.bb.only ho (by have := h.own; omega), h.own, ownsRow_block h.row (fun i hi => ho.block i (Tr.own_lo h.row i hi).2 (by have := (Tr.own_lo h.row i hi).1; omega)), Kids.only h.kids ho (fun i _ hi => .inl (.inl (by omega))), h.ne⟩
theorem FB.below {w W W' : World} {b : Nat} {x : Nd} {k : Int} {v : Value} {cs : List (Nat × List Nd)} {s : St} (h : FB w W b x k v cs s) (hb : Below W.heap.size W W') : FB w W' b x k v cs s :=
  ⟨h.bb.below hb, h.own, ownsRow_block h.row (fun i hi => hb.block i (Tr.own_lo h.row i hi).2), Kids.only h.kids (Only.of_below (F := fun _ => False) hb) (fun _ _ h => h.elim), h.ne⟩
theorem FB.start {w W W' : World} {b : Nat} {x : Nd} {k : Int} {v : Value} {cs : List (Nat × List Nd)} {s : St} (h : LR w W v cs s) (hw : w.heap.size ≤ W.heap.size) (hb : W.heap.size ≤ b) (hB : BB W' b x k v) (hbel : Below W.heap.size W W') : FB w W' b x k v cs s := by
  refine ⟨hB, Nat.le_trans hw hb, ownsRow_block h.row (fun i hi => hbel.block i (Tr.own_lo h.row i hi).2), ?_, fun e => by have := (Tr.own_lo h.row b e).2; omega⟩
  have h1 := Kids.weaken (Y := fun k => (k < w.heap.size ∨ v.ownBlock = some k) ∨ W.heap.size ≤ k) h.kids (fun i hi hx => hx.elim id (fun h => absurd h (by omega))); exact Kids.weaken (Kids.only h1 (Only.of_below (F := fun _ => False) hbel) (fun _ _ h => h.elim)) (fun i _ hi => hi.elim .inl (fun e => .inr (by omega)))
theorem FB.put {w W : World} {b : Nat} {x x' : Nd} {k : Int} {v u : Value} {cs : List (Nat × List Nd)} {s : St} (j : Nat) (h : FB w W b x k v cs s) (hj : j < 6) (hx : (bcells x k v).set j u = bcells x' k v) : FB w (W.setCell ⟨b, j, none⟩ u) b x' k v cs s := by
  have ho : Only (fun k => k = b) W (W.setCell ⟨b, j, none⟩ u) := Only.of_setCell _; exact ⟨h.bb.put j hj hx, h.own, ownsRow_block h.row (fun i hi => ho.block i (Tr.own_lo h.row i hi).2 (fun e => h.ne (by rw [hi, e]))), Kids.only h.kids ho (fun i _ hi => .inr hi), h.ne⟩
theorem FB.app {w W Wa W7 : World} {b : Nat} {x : Nd} {k : Int} {v : Value} {cs : List (Nat × List Nd)} {s : St} (h : FB w W b x k v cs s) (hpre : Below W.heap.size W Wa) (hgr : Wa.grownBy W7 v.ownBlock) :
    BB W7 b x k v ∧ Only (fun k => v.ownBlock = some k) W W7 := by
  have ho : Only (fun k => v.ownBlock = some k) W W7 := (Only.of_below (F := fun k => v.ownBlock = some k) hpre).trans (Only.of_grown (F := fun k => v.ownBlock = some k) hgr (fun _ h => h)) (fun _ _ h => h); exact ⟨h.bb.only ho h.ne, ho⟩
theorem FB.push {w W Wa W7 : World} {b n g' cap : Nat} {x : Nd} {k : Int} {v : Value} {cs news : List (Nat × List Nd)} {s : St} (h : FB w W b x k v cs s) (hn : Kids W (fun k => (k < w.heap.size ∨ v.ownBlock = some k) ∨ k = b) news s) (hpre : Below W.heap.size W Wa)
    (hl : n = cs.length + news.length) (hrow : W7.ownsRow w.heap.size 128 1 (.slice (some ⟨g', 0, none⟩) n cap) n (bp (cs.map (·.1)) ++ bp (news.map (·.1)))) (hgr : Wa.grownBy W7 v.ownBlock) (hg : v.ownBlock = some g' ∨ g' = Wa.heap.size) :
    FB w (W7.setCell ⟨b, 5, none⟩ (.slice (some ⟨g', 0, none⟩) n cap)) b x k (.slice (some ⟨g', 0, none⟩) n cap) (cs ++ news) s ∧ Only (fun k => k = b ∨ v.ownBlock = some k) W (W7.setCell ⟨b, 5, none⟩ (.slice (some ⟨g', 0, none⟩) n cap)) := by
  subst hl; obtain ⟨h7, ho⟩ := h.app hpre hgr
  have hne : g' ≠ b := by
    rcases hg with e | e
    · exact fun e2 => h.ne (by rw [e, e2])
    · have := h.bb.lt; have := hpre.size; omega
  have ho8 : Only (fun k => k = b) W7 (W7.setCell ⟨b, 5, none⟩ (.slice (some ⟨g', 0, none⟩) (cs.length + news.length) cap)) := Only.of_setCell _; have hO : Only (fun k => k = b ∨ v.ownBlock = some k) W (W7.setCell ⟨b, 5, none⟩ (.slice (some ⟨g', 0, none⟩) (cs.length + news.length) cap)) := (ho.mono (fun i hi => .inr hi)).trans ho8 (fun i _ hi => .inl hi); refine ⟨⟨h7.row _, h.own, ?_, ?_, fun e => hne (by simpa [Value.ownBlock] using e)⟩, hO⟩
  · rw [List.length_append, List.map_append, bp_app]
    exact ownsRow_block hrow (fun i hi => ho8.block i (Tr.own_lo hrow i hi).2 (fun e => hne ((show g' = i by simpa [Value.ownBlock] using hi).trans e)))
  · have h0 : Kids W (fun k => (k < w.heap.size ∨ v.ownBlock = some k) ∨ k = b) (cs ++ news) s := by
      cases s with
      | bad k => trivial
      | ok i => exact fun c hc => (List.mem_append.1 hc).elim (h.kids c) (hn c)
    have h1 : Kids W (fun k => ((k < w.heap.size ∨ v.ownBlock = some k) ∨ k = b) ∨ W.heap.size ≤ k) (cs ++ news) s := Kids.weaken h0 (fun i hi hx => hx.elim id (fun h => absurd h (by omega))); refine Kids.weaken (Kids.only h1 hO (fun i _ hi => .inl (hi.elim .inr (fun e => .inl (.inr e))))) (fun i _ hi => ?_); rcases hi with (hi | hi) | hi
    · exact .inl (.inl (.inl hi))
    · have e : g' = i := by simpa [Value.ownBlock] using hi
      subst e; rcases hg with e | e
      · exact .inl (.inl (.inr e))
      · exact .inr (by have := hpre.size; omega)
    · exact .inl (.inr hi)
theorem FB.news {w W0 W : World} {b b' : Nat} {x : Nd} {k : Int} {v : Value} {cs : List (Nat × List Nd)} {s s' : St} {t : List Nd} (h : FB w W0 b x k v cs s') (hb : SB W (fun k => k < W0.heap.size) b' t s) (hw : w.heap.size ≤ W0.heap.size) : SB W (fun k => (k < w.heap.size ∨ v.ownBlock = some k) ∨ k = b) b' t s :=
  SB.weaken hb (fun i _ hi => by
    rcases hi with (hi | hi) | hi
    · omega
    · exact (Tr.own_lo h.row i hi).2
    · have := h.bb.lt; omega)
theorem On.fb {L : List Tk} {g : Nat} {vt : Value} {w W W' : World} {s s' : St} {b : Nat} {x : Nd} {k : Int} {v : Value} {cs : List (Nat × List Nd)} (h : On L g vt w W s) (hf : FB w W b x k v cs s') (ho : Only (fun k => k = b ∨ v.ownBlock = some k) W W') : On L g vt w W' s :=
  h.own ho (fun i hi => hi.elim (fun e => by have := hf.own; omega) (fun e => (Tr.own_lo hf.row i e).1))
end Go.Proofs.YtmljjpdodcpohaaGreatDoor.Pa

namespace Go.Proofs.YtmljjpdodcpohaaGreatDoor.Pa
open Lib (hid)
set_option maxRecDepth 100000
set_option maxHeartbeats 4000000
open Go.RowKit Dk Lx Tr
theorem fn_lead {L : List Tk} (x : Nd) (s : St) : Leads L [.fn x] [] s [.mark [40], .lF true x 0] [] s := by
  cases s with
  | bad k => exact rfl
  | ok j => exact .yes (fun V => rfl)
theorem lC_params {L : List Tk} {x : Nd} {m : Nat} (us : List (List Nd)) (s : St) : Leads L [.lC true x m] us s [.blk, .mk x (m + 1)] us s := by
  cases s with
  | bad k => exact rfl
  | ok j => exact .yes (fun V => rfl)
theorem param_all (L : List Tk) (n : Nat) : RdN L 183 [elS true] n := fun s _ => param_rd L s
structure Fn1 (L : List Tk) (g : Nat) (vt : Value) (x : Nd) (s : St) (w wx : World) (b : Nat) (q : Option Addr) (m c : Nat) (cs : List (Nat × List Nd)) (s1 : St) : Prop where
  on : On L g vt w wx s1
  fb : FB w wx b x x.kids (.slice q m c) cs s1
  hm : m = cs.length
  leads : Leads L [.fn x] [] s [.blk, .mk x (m + 1)] (cs.map (·.2)) s1
  le : nx L s ≤ nx L s1
  few : m ≤ 1000001
theorem five_only {W W' : World} {B g : Nat} {a0 a1 a2 a3 a4 : Value} (h : W.cell? ⟨B, 0, none⟩ = some a0 ∧ W.cell? ⟨B, 1, none⟩ = some a1 ∧ W.cell? ⟨B, 2, none⟩ = some a2 ∧ W.cell? ⟨B, 3, none⟩ = some a3 ∧ W.cell? ⟨B, 4, none⟩ = some a4) (ho : Only (fun k => k = g) W W') (hg : B ≠ g) (hB : B < W.heap.size) :
    W'.cell? ⟨B, 0, none⟩ = some a0 ∧ W'.cell? ⟨B, 1, none⟩ = some a1 ∧ W'.cell? ⟨B, 2, none⟩ = some a2 ∧ W'.cell? ⟨B, 3, none⟩ = some a3 ∧ W'.cell? ⟨B, 4, none⟩ = some a4 := by
  have q : ∀ j, W'.cell? ⟨B, j, none⟩ = W.cell? ⟨B, j, none⟩ := fun j => World.cell?_of_block (a := ⟨B, j, none⟩) (ho.block B hB hg)
  rw [q, q, q, q, q]; exact h
structure Fn2 (L : List Tk) (g : Nat) (vt : Value) (x : Nd) (s : St) (w wx : World) (b : Nat) (cs : List (Nat × List Nd)) (s1 : St) : Prop where
  on : On L g vt w wx s1
  sb : SB wx (fun k => k < w.heap.size) b (join x (cs.map (·.2))) s1
  leads : Leads L [.fn x] [] s [] [join x (cs.map (·.2))] s1
  le : nx L s ≤ nx L s1
theorem function_rd (L : List Tk) (n : Nat) (hB : RdN L 184 [.blk] n) (x : Nd) (s : St) (hs : mu L s < n) : FnRd L x s := by
  intro g vt w h; have HB := hid hB; have HMU := hid hs; have H0 := hid (On.start h); have LS := hid (fun W (hp : PS L g vt W s) => list_any L 183 enters_param true (mu L (markS L [40] s) + 1) (param_all L _) s (Nat.lt_succ_self _) g vt W hp); have HLT := hid h.lt; have HNX := hid h.le; have HNE : Hid (w.heap.size ≠ g) := hid (by have := h.lt; omega)
  have HFEW := hid h.few; have G := hid (fun p m c W => grow_any x p m c W); obtain ⟨xk, xd, xq, xz, xs⟩ := x; simp only [Nd.cells] at G ⊢; clear hB hs h; go_enter Tryz.func150, Tryz.ntmps150
  go_upto_region 1 with fail
  have d0 : (w.alloc (Obj.cells #[.int .i64 xk, .int .i64 xd, .string (strOf xq), .int .i64 xz, .string (strOf xs)] 58)).rangeAt w.heap.size 0 (Nd.cells ⟨xk, xd, xq, xz, xs⟩) := range_new w (Nd.cells ⟨xk, xd, xq, xz, xs⟩) _; have H1 := hid (H0.out.alloc (Obj.cells #[.int .i64 xk, .int .i64 xd, .string (strOf xq), .int .i64 xz, .string (strOf xs)] 58)); have hsz : w.heap.size < (w.alloc (Obj.cells #[.int .i64 xk, .int .i64 xd, .string (strOf xq), .int .i64 xz, .string (strOf xs)] 58)).heap.size := by simp
  generalize w.alloc (Obj.cells #[.int .i64 xk, .int .i64 xd, .string (strOf xq), .int .i64 xz, .string (strOf xs)] 58) = w1 at *; have HSZ := hid hsz; go_cut [5] (fun v5 wx => ∃ b q m c cs s1, v5 = ptr b ∧ Hid (Fn1 L g vt ⟨xk, xd, xq, xz, xs⟩ s w wx b q m c cs s1))
  case first =>
    have e0 : w1.cell? ⟨w.heap.size, 0, none⟩ = some (.int .i64 xk) := d0 0 _ rfl; have e1 : w1.cell? ⟨w.heap.size, 1, none⟩ = some (.int .i64 xd) := d0 1 _ rfl; have e2 : w1.cell? ⟨w.heap.size, 2, none⟩ = some (.string (strOf xq)) := d0 2 _ rfl; have e3 : w1.cell? ⟨w.heap.size, 3, none⟩ = some (.int .i64 xz) := d0 3 _ rfl; have e4 : w1.cell? ⟨w.heap.size, 4, none⟩ = some (.string (strOf xs)) := d0 4 _ rfl; have HS1 := And.intro e0 (And.intro e1 (And.intro e2 (And.intro e3 e4))); clear d0 hsz e0 e1 e2 e3 e4
    go_region_held3 (fun W => W.cell? ⟨w.heap.size, 0, none⟩ = some (.int .i64 xk) ∧ W.cell? ⟨w.heap.size, 1, none⟩ = some (.int .i64 xd) ∧ W.cell? ⟨w.heap.size, 2, none⟩ = some (.string (strOf xq)) ∧ W.cell? ⟨w.heap.size, 3, none⟩ = some (.int .i64 xz) ∧ W.cell? ⟨w.heap.size, 4, none⟩ = some (.string (strOf xs))) (first | exact HS1 | exact HS3 | exact HS4) (first
      | (go_at_call 182; refine (LS.out _ (H1.out.below (Below.refl _ _).drew).ps).mono ?_; rintro e w3 ⟨v, cs, s3, hk⟩; have hle := hk.leads; have hnx := hk.le HNX.out; obtain ⟨rfl, hon, hlr, -, -, hfew, ⟨q, c, rfl⟩, -⟩ := hk; have HK := hid (And.intro hon (And.intro hlr (And.intro hle (And.intro hnx hfew)))); clear hon hlr hle hnx hfew; have HS3 := five_only (B := w.heap.size) (g := g) HS1 ((Only.refl (fun k => k = g) w1).drew.trans HK.out.1.only (fun _ _ h => h)) HNE.out HSZ.out)
      | (go_at_call 145; refine (G.out _ _ _ _).mono ?_; rintro e w4 ⟨b, rfl, hb, hB, hbel⟩; have HG := hid (And.intro hb (And.intro hB hbel)); clear hb hB hbel; have HS4 := five_only (B := w.heap.size) (g := g) HS3 (Only.of_below HG.out.2.2) HNE.out (Nat.lt_of_lt_of_le HSZ.out HK.out.1.only.size)))
    go_wp2_with fail
    go_meet
    refine ⟨b, q, _, c, cs, s3, rfl, hid ⟨((H1.out.below (Below.refl _ _).drew).call HK.out.1.ps HK.out.1.only).below HG.out.2.2, FB.start (LR.base HK.out.2.1 (Nat.le_of_lt HSZ.out)) (Nat.le_trans (Nat.le_of_lt HSZ.out) HK.out.1.only.size) HG.out.1 HG.out.2.1 HG.out.2.2, rfl, ?_, HK.out.2.2.2.1, ?_⟩⟩
    · refine (fn_lead _ s).trans ((HK.out.2.2.1 _ 0).trans ?_)
      rw [Nat.zero_add]; exact lC_params _ _
    · have := HK.out.2.2.2.2
      have h2 := HK.out.1.ps.le; have := HFEW.out; omega
  case rest =>
    obtain ⟨b, q, m, c, cs, s1, rfl, HF⟩ := hcut; have HS1 : Hid (mu L s1 < n) := hid (Nat.lt_of_le_of_lt (mu_le HF.out.leads.aft HF.out.le) HMU.out); have B1 := hid (HB.out s1 HS1.out); obtain ⟨-, -, -, -, -, c5⟩ := HF.out.fb.bb.at; obtain ⟨i0, hi0, hy0, hy1, hy2⟩ := info_parts ptr_info3; have HM1 : Hid (m + 1 = cs.length + 1) := hid (by rw [HF.out.hm]); have HRW : Hid (∀ W s', FB w W b ⟨xk, xd, xq, xz, xs⟩ xd (.slice q m c) cs s' → ∀ b', (W.alloc (.cells #[ptr b'] 128)).ownsRow w.heap.size 128 1 (.slice q m c) m (bp (cs.map (·.1)))) := hid (fun W s' hf b' => by have := hf.row.alloc (.cells #[ptr b'] 128); rw [← HF.out.hm] at this; exact this)
    have HB1 : Hid (m + 1 ≤ maxLen) := hid (by have := HF.out.few; unfold maxLen; omega)
    have HB2 : Hid ((m + 1) * 8 ≤ 140737488355328) := hid (by have := HF.out.few; omega)
    have HB3 : Hid (∀ W s', On L g vt w W s' → ∀ b', w.heap.size ≤ (W.alloc (.cells #[ptr b'] 128)).heap.size) := hid (fun W s' ho b' => by have := ho.only.size; simp; omega)
    clear d0 hsz; generalize w1 = w1' at *; go_upto_region 2 with fail
    go_cut [] (fun wx => ∃ cs s1, Hid (Fn2 L g vt ⟨xk, xd, xq, xz, xs⟩ s w wx b cs s1))
    case first =>
      go_region_law (first
        | (go_simp; go_at_call 184; refine (B1.out g vt _ (HF.out.on.below (Below.refl _ _).drew).ps).mono ?_; rintro e w4 ⟨b', t', s4, hk⟩; obtain ⟨rfl, hl, hps, honly, hbr, hle⟩ := hk; have O4 := hid ((HF.out.on.below (Below.refl _ _).drew).call hps honly); have F4 := hid (FB.aft (FB.call (FB.below HF.out.fb (Below.refl _ _).drew) honly HLT.out) hl.aft); have N4 := hid (Kids.add (Kids.nil w4 (fun k => (k < w.heap.size ∨ (Value.slice q m c).ownBlock = some k) ∨ k = b) s4) (FB.news (FB.aft (FB.below HF.out.fb (Below.refl _ _).drew) hl.aft) hbr HF.out.on.only.size)); have K4 := hid (And.intro hl hle); obtain ⟨-, -, -, -, -, c5'⟩ := F4.out.bb.at; obtain ⟨-, -, -, -, -, c5a⟩ := (FB.below F4.out ((Below.refl _ _).alloc (Nat.le_refl _) (.cells #[ptr b'] 128))).bb.at; have N1 := hid (news_at w4 #[ptr b'] 128); clear hl hps honly hbr hle)
        | (refine step_append_lies _ (by rfl) (.tmp 16) (.tmp 19) 172 (by rfl) w.heap.size 128 i0 (.pointer none) 1 8 Tryz.underlying172 hi0 hy0 hy1 hy2 (by rfl) (by decide) _ m (bp (cs.map (·.1))) (by rfl) (HRW.out _ _ F4.out _) ⟨w4.heap.size, 0, none⟩ 1 1 [ptr b'] (by rfl) (by rfl) N1.out (by simp [Value.oneCell']) (by decide) HB1.out HB2.out (HB3.out _ _ O4.out _) (w4.heap.size + 1) (by simp) ?_; intro g' cap w7 hrow hgr hgl hlt7; have HA := hid (FB.app F4.out ((Below.refl _ _).alloc (Nat.le_refl _) (.cells #[ptr b'] 128)) hgr); have HP := hid (FB.push F4.out N4.out ((Below.refl _ _).alloc (Nat.le_refl _) (.cells #[ptr b'] 128)) HM1.out hrow hgr (hgl.imp id (fun e => e.trans (by simp)))); clear hrow hgr hgl hlt7; obtain ⟨-, -, -, -, -, c7⟩ := HA.out.1.at; have f7 := HA.out.1.free 5 (by decide)))
      all_goals
        go_wp2_with fail
        go_meet
        refine ⟨cs ++ [(b', t')], s4, hid ⟨On.fb O4.out F4.out HP.out.2, FB.sb HP.out.1, ?_, Nat.le_trans HF.out.le K4.out.2⟩⟩
        refine (HF.out.leads.trans (by
          have := K4.out.1.over [.mk ⟨xk, xd, xq, xz, xs⟩ (m + 1)] (cs.map (·.2)); rw [List.append_nil] at this
          exact this)).trans ?_
        rw [List.map_append]; exact Leads.mk _ _ _ (by rw [HF.out.hm]; simp) _
    case rest =>
      obtain ⟨cs5, s5, H5⟩ := hcut; go_wp2; go_ret; exact ⟨b, _, s5, rfl, H5.out.leads, H5.out.on.ps, H5.out.on.only, H5.out.sb, H5.out.le⟩
end Go.Proofs.YtmljjpdodcpohaaGreatDoor.Pa

namespace Go.Proofs.YtmljjpdodcpohaaGreatDoor.Pa
open Go.RowKit Dk Lx Tr
theorem append_nil {P : Program} {w : World} (base : Nat) (t ty e : TypeId) (i : TypeInfo) (size : Nat) (ht : P.underlying t = some (.slice e)) (hi : P.info? e = some i)
    (v : Value) (n : Nat) (xs : List Value) (hown : w.ownsRow base e size v n xs) :
    (Builtin.append_ #[t, t] ty #[v, .slice none 0 0]).run P w = .ok v w := by
  rcases hown.2 with ⟨rfl, rfl⟩ | ⟨g, cap, cur, rfl, _, _, hnc, _⟩
  · simp [Builtin.append_, run_underlying ht, sizeOf, typeInfo, hi, Builtin.lenOf, Builtin.firstCells]
  · simp [Builtin.append_, run_underlying ht, sizeOf, typeInfo, hi, Builtin.lenOf, Builtin.firstCells, hnc, storeCells, loadCells]
theorem grown_refl (w : World) (row : Option Nat) : w.grownBy w row := ⟨rfl, rfl, rfl, Nat.le_refl _, fun _ _ _ => rfl⟩
theorem run_append_ls {W : World} {base base2 : Nat} (t ty : TypeId) (i : TypeInfo) (ht : Tryz.prog.underlying t = some (.slice 128)) (hi : Tryz.prog.info? 128 = some i) (hz : i.zero = some (.pointer none)) (hsz : i.size = 1) (hby : i.bytes = 8)
    (v : Value) (n : Nat) (xs : List Value) (hown : W.ownsRow base 128 1 v n xs) (hn : 0 < n) (q : Option Addr) (m c : Nat) (ys : List Value) (hy : W.ownsRow base2 128 1 (.slice q m c) m ys) (hnil : m = 0 → q = none ∧ c = 0) (hone : ∀ u ∈ ys, u.oneCell' = true)
    (h63 : n + m ≤ maxLen) (hbytes : (n + m) * 8 ≤ 140737488355328) (hbase : base ≤ W.heap.size) :
    ∃ g cap W', (Builtin.append_ #[t, t] ty #[v, .slice q m c]).run Tryz.prog W = .ok (.slice (some ⟨g, 0, none⟩) (n + m) cap) W' ∧ W'.ownsRow base 128 1 (.slice (some ⟨g, 0, none⟩) (n + m) cap) (n + m) (xs ++ ys) ∧ W.grownBy W' v.ownBlock ∧ (v.ownBlock = some g ∨ g = W.heap.size) := by
  by_cases hm : m = 0
  · subst hm
    obtain ⟨rfl, rfl⟩ := hnil rfl; have hys : ys = [] := List.eq_nil_of_length_eq_zero (by have := hy.1; omega)
    subst hys; obtain ⟨g, cap, rfl⟩ := Tr.own_form hown hn; exact ⟨g, cap, W, append_nil base t ty _ i 1 ht hi _ n xs hown, by rw [List.append_nil]; exact hown, grown_refl _ _, .inl rfl⟩
  · obtain ⟨r, cr, hr⟩ := Tr.own_form hy (by omega)
    cases hr
    obtain ⟨g, cap, W', h1, h2, h3, h4, -⟩ := run_append_lies (P := Tryz.prog) W t ty base _ i (.pointer none) 1 8 ht hi hz hsz hby rfl (by decide) v n xs hown ⟨r, 0, none⟩ m c ys (by have := hy.1; omega) (fun j u hu => hy.cells (g := r) rfl j u hu) hone (by omega) h63 hbytes hbase _ rfl
    exact ⟨g, cap, W', h1, h2, h3, h4⟩
theorem step_append_ls {W : World} {ops : Array Oper} {o : Oper} {a : Act} {K : Act → World → Prop} {Q : Exit → Act → World → Prop} {E : Prop} (hgd : o.guard = none) (s x : Operand) (t : TypeId)
    (ho : o.op = .call { callee := .builtin .append, args := #[s, x], argTypes := #[t, t] }) {base base2 : Nat} (i : TypeInfo) (ht : Tryz.prog.underlying t = some (.slice 128)) (hi : Tryz.prog.info? 128 = some i) (hz : i.zero = some (.pointer none)) (hsz : i.size = 1) (hby : i.bytes = 8)
    (v : Value) (n : Nat) (xs : List Value) (hs : a.eval s = v) (hown : W.ownsRow base 128 1 v n xs) (hn : 0 < n) (q : Option Addr) (m c : Nat) (ys : List Value) (hx : a.eval x = .slice q m c) (hy : W.ownsRow base2 128 1 (.slice q m c) m ys) (hnil : m = 0 → q = none ∧ c = 0) (hone : ∀ u ∈ ys, u.oneCell' = true)
    (h63 : n + m ≤ maxLen) (hbytes : (n + m) * 8 ≤ 140737488355328) (hbase : base ≤ W.heap.size)
    (h : ∀ g cap w', w'.ownsRow base 128 1 (.slice (some ⟨g, 0, none⟩) (n + m) cap) (n + m) (xs ++ ys) → W.grownBy w' v.ownBlock → (v.ownBlock = some g ∨ g = W.heap.size) → K (a.put o.dst (.slice (some ⟨g, 0, none⟩) (n + m) cap)) w') :
    if Region.wanted o (yielded ops a.tmps) = true then Oper.wp Tryz.prog o a W K Q else E := by
  have hw : Region.wanted o (yielded ops a.tmps) = true := by simp [Region.wanted, hgd]
  rw [if_pos hw]; obtain ⟨g, cap, w', hr, h2, h3, h4⟩ := run_append_ls (W := W) t o.type i ht hi hz hsz hby v n xs hown hn q m c ys hy hnil hone h63 hbytes hbase; unfold Oper.wp execOp; simp only [ho, resolve, invoke, builtin, Sem.run_bind, Sem.run_pure, Result.andThen_ok, List.map_toArray, List.map_cons, List.map_nil, hs, hx, hr]; exact h g cap w' h2 h3 h4
theorem one_post (L : List Tk) (V : List (List Nd)) (i : Nat) : one L .post V i = if sg L i = [40] then some ([.lF false (nd 22) 1, .post], V, i + 1)
      else if sg L i = [91] then some ([.e 0, .mark [93], .mk (nd 26) 2, .post], V, i + 1)
      else some ([], V, i) := rfl
theorem post_call {L : List Tk} {j : Nat} (us : List (List Nd)) (h : sg L j = [40]) : Leads L [.post] us (.ok j) [.lF false (nd 22) 1, .post] us (.ok (j + 1)) := .yes (fun V => by rw [one_post, if_pos h])
theorem post_index {L : List Tk} {j : Nat} (us : List (List Nd)) (h : sg L j = [91]) : Leads L [.post] us (.ok j) [.e 0, .mark [93], .mk (nd 26) 2, .post] us (.ok (j + 1)) := .yes (fun V => by rw [one_post, if_neg (by rw [h]; decide), if_pos h])
theorem post_end {L : List Tk} (us : List (List Nd)) {s : St} (h1 : sgS L s ≠ [40]) (h2 : sgS L s ≠ [91]) : Leads L [.post] us s [] us s := by
  cases s with
  | bad k => exact rfl
  | ok j => exact .yes (fun V => by rw [one_post, if_neg (show ¬sg L j = _ from h1), if_neg (show ¬sg L j = _ from h2)])
theorem FB.newsK {w W0 W : World} {b : Nat} {x : Nd} {k : Int} {v : Value} {cs ds : List (Nat × List Nd)} {s s' : St} {Y : Nat → Prop} (h : FB w W0 b x k v cs s') (hb : Kids W (fun k => k < W0.heap.size ∨ Y k) ds s) (hw : w.heap.size ≤ W0.heap.size) : Kids W (fun k => (k < w.heap.size ∨ v.ownBlock = some k) ∨ k = b) ds s :=
  Kids.weaken hb (fun i _ hi => .inl (by
    rcases hi with (hi | hi) | hi
    · omega
    · exact (Tr.own_lo h.row i hi).2
    · have := h.bb.lt; omega))
end Go.Proofs.YtmljjpdodcpohaaGreatDoor.Pa

