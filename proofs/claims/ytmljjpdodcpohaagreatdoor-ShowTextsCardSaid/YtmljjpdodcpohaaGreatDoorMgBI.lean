/- The printer beside the row of tokens that it adds to; the walks of the closure that adds, of next, signs, name, number; The walks of the printer's signs, name, number. No condition but those that each states. -/
import Derived.Test.YtmljjpdodcpohaaGreatDoorMgAN
import Derived.Test.YtmljjpdodcpohaaGreatDoorMgAX
import Derived.Test.YtmljjpdodcpohaaGreatDoorMgBH
namespace Go.Proofs.YtmljjpdodcpohaaGreatDoor.Sw
open Lib (hid)
set_option maxRecDepth 100000
set_option maxHeartbeats 4000000
open Go.RowKit Dk Lx Tr Pa
def addV (h : Nat) : Value := .func (.func 55) #[] #[.pointer (some ⟨h, 0, none⟩)]
def ownT (W : World) (h : Nat) : Option Nat := (W.cell? ⟨h, 0, none⟩).bind (·.ownBlock)
structure Step (g h : Nat) (W W' : World) : Prop where
  only : Only (fun k => k = g ∨ k = h ∨ ownT W h = some k) W W'
  own : ∀ k, ownT W' h = some k → ownT W h = some k ∨ W.heap.size ≤ k
theorem Step.refl (g h : Nat) (W : World) : Step g h W W := ⟨Only.refl _ _, fun _ h => .inl h⟩
theorem Step.trans {g h : Nat} {W W1 W2 : World} (a : Step g h W W1) (b : Step g h W1 W2) : Step g h W W2 := by
  refine ⟨a.only.trans b.only (fun i hi hf => ?_), fun k hk => ?_⟩
  · rcases hf with hf | hf | hf
    · exact .inl hf
    · exact .inr (.inl hf)
    · rcases a.own i hf with h1 | h1
      · exact .inr (.inr h1)
      · omega
  · rcases b.own k hk with h1 | h1
    · exact a.own k h1
    · exact .inr (Nat.le_trans a.only.size h1)
theorem Step.below {g h : Nat} {W W' : World} (hh : h < W.heap.size) (hb : Below W.heap.size W W') : Step g h W W' := by
  refine ⟨Only.of_below (F := fun _ => _) hb, fun k hk => .inl ?_⟩; unfold ownT at hk ⊢; rwa [World.cell?_of_block (a := ⟨h, 0, none⟩) (hb.block h hh)] at hk
structure PW (w0 : World) (g h B : Nat) (W : World) (l : List Nd) (ts : List Tk) : Prop where
  below : Below w0.heap.size w0 W
  hg : w0.heap.size ≤ g ∧ g < B
  hh : w0.heap.size ≤ h ∧ h < B
  ne : g ≠ h
  hB : B ≤ W.heap.size
  pr : ∃ v, W.rangeAt g 0 [v, addV h] ∧ Nds w0 v l
  room : W.there g 0 2
  tk : ∃ v, W.rangeAt h 0 [v] ∧ W.ownsRow B 73 4 v ts.length (tcells ts)
  troom : W.there h 0 1
  few : ts.length ≤ 100000000
theorem PW.low {w0 : World} {g h B : Nat} {W : World} {l : List Nd} {ts : List Tk} (p : PW w0 g h B W l ts) : g < W.heap.size ∧ h < W.heap.size := ⟨Nat.lt_of_lt_of_le p.hg.2 p.hB, Nat.lt_of_lt_of_le p.hh.2 p.hB⟩
theorem PW.later {w0 : World} {g h B : Nat} {W W' : World} {l : List Nd} {ts : List Tk} (p : PW w0 g h B W l ts) (hb : Below W.heap.size W W') : PW w0 g h B W' l ts := by
  obtain ⟨l1, l2⟩ := p.low; obtain ⟨v, h1, h2⟩ := p.pr; obtain ⟨u, h3, h4⟩ := p.tk; exact ⟨chain2 p.below hb, p.hg, p.hh, p.ne, Nat.le_trans p.hB hb.size, ⟨v, rangeAt_block h1 (hb.block g l1), h2⟩, there_block p.room (hb.block g l1), ⟨u, rangeAt_block h3 (hb.block h l2), ownsRow_block h4 (fun b hb' => hb.block b (Tr.own_lo h4 b hb').2)⟩, there_block p.troom (hb.block h l2), p.few⟩
theorem PW.step {w0 : World} {g h B : Nat} {W W' : World} {l : List Nd} {ts : List Tk} (p : PW w0 g h B W l ts) (hb : Below W.heap.size W W') : Step g h W W' := Step.below p.low.2 hb
structure LB (g h : Nat) (W : World) (b : Nat) (x : Nd) : Prop where
  nb : NB W b x
  ng : b ≠ g
  nh : b ≠ h
  nt : ownT W h ≠ some b
theorem LB.step {g h : Nat} {W W' : World} {b : Nat} {x : Nd} (p : LB g h W b x) (s : Step g h W W') : LB g h W' b x :=
  ⟨p.nb.of_block (s.only.block b p.nb.lt (fun hf => hf.elim p.ng (fun hf => hf.elim p.nh p.nt))) s.only.size, p.ng, p.nh, fun e => (s.own b e).elim p.nt (fun h1 => by have := p.nb.lt; omega)⟩
theorem own_lt {w0 : World} {g h B : Nat} {W : World} {l : List Nd} {ts : List Tk} (p : PW w0 g h B W l ts) {k : Nat} (hk : ownT W h = some k) : B ≤ k ∧ k < W.heap.size := by
  obtain ⟨u, h3, h4⟩ := p.tk; unfold ownT at hk; rw [h3 0 _ rfl] at hk; exact Tr.own_lo h4 k hk
theorem LB.start {w0 : World} {g h B : Nat} {W : World} {l : List Nd} {ts : List Tk} (p : PW w0 g h B W l ts) (x : Nd) : LB g h ((W.alloc (.cells #[.int .i64 0, .int .i64 0, .string ⟨#[]⟩, .int .i64 0, .string ⟨#[]⟩] 58)).setCells W.heap.size 0 x.cells.toArray.toList) W.heap.size x := by
  obtain ⟨h1, h2⟩ := nb_put W x; obtain ⟨l1, l2⟩ := p.low; refine ⟨h1, by omega, by omega, fun e => ?_⟩; rcases (p.step h2).own _ e with h3 | h3
  · have := (own_lt p h3).2; omega
  · unfold ownT at e
    rw [World.cell?_of_block (a := ⟨h, 0, none⟩) (h2.block h l2)] at e; have := (own_lt p (show ownT W h = some W.heap.size from e)).2; omega
def PrOk (w0 : World) (g h B : Nat) (W : World) (l' : List Nd) (ts' : List Tk) (e : Ending) (W' : World) : Prop := e = .returned (.tuple #[]) ∧ PW w0 g h B W' l' ts' ∧ Step g h W W'
theorem PW.push {w0 : World} {g h B : Nat} {W W2 W7 : World} {l : List Nd} {ts : List Tk} {v : Value} {g' cap : Nat} {t : Tk} (p : PW w0 g h B W l ts) (hv : W.cell? ⟨h, 0, none⟩ = some v) (hb : Below W.heap.size W W2) (hf : ts.length ≤ 99999999)
    (hrow : W7.ownsRow B 73 4 (.slice (some ⟨g', 0, none⟩) (ts.length + 1) cap) (ts.length + 1) (tcells ts ++ t.cells)) (hgr : W2.grownBy W7 v.ownBlock) (hgl : v.ownBlock = some g' ∨ W.heap.size ≤ g') :
    PW w0 g h B (W7.setCell ⟨h, 0, none⟩ (.slice (some ⟨g', 0, none⟩) (ts.length + 1) cap)) l (ts ++ [t]) ∧ Step g h W (W7.setCell ⟨h, 0, none⟩ (.slice (some ⟨g', 0, none⟩) (ts.length + 1) cap)) := by
  obtain ⟨l1, l2⟩ := p.low; have ho : ownT W h = v.ownBlock := by unfold ownT; rw [hv]; rfl
  have o1 : Only (fun k => v.ownBlock = some k) W W7 := (Only.of_below (F := fun k => v.ownBlock = some k) hb).trans (Only.of_grown (F := fun k => v.ownBlock = some k) hgr (fun _ h => h)) (fun _ _ h => h); have hbo : ∀ k, v.ownBlock = some k → B ≤ k := fun k hk => (own_lt p (by rw [ho]; exact hk)).1
  have hg' : B ≤ g' ∧ g' < W7.heap.size := Tr.own_lo hrow g' rfl; have ng : ¬v.ownBlock = some g := fun e => by have := hbo g e; have := p.hg.2; omega
  have nh : ¬v.ownBlock = some h := fun e => by have := hbo h e; have := p.hh.2; omega
  have o2 : Only (fun k => k = h) W7 (W7.setCell ⟨h, 0, none⟩ (.slice (some ⟨g', 0, none⟩) (ts.length + 1) cap)) := Only.of_setCell _
  have o3 : Only (fun k => k = g ∨ k = h ∨ ownT W h = some k) W (W7.setCell ⟨h, 0, none⟩ (.slice (some ⟨g', 0, none⟩) (ts.length + 1) cap)) :=
    (o1.mono (fun k hk => .inr (.inr (by rw [ho]; exact hk)))).trans o2 (fun i _ hi => .inr (.inl hi))
  have hu7 : W7.rangeAt h 0 [v] := rangeAt_block (fun j u hj => by
    cases j with
    | zero => cases hj; exact hv
    | succ j => cases hj) (o1.block h l2 nh)
  have hroom7 : W7.there h 0 1 := there_block p.troom (o1.block h l2 nh); have hcell : (W7.setCell ⟨h, 0, none⟩ (.slice (some ⟨g', 0, none⟩) (ts.length + 1) cap)).cell? ⟨h, 0, none⟩ = some (.slice (some ⟨g', 0, none⟩) (ts.length + 1) cap) := World.cell?_setCell_same _ _ _ (hu7 0 _ rfl); obtain ⟨nv, n1, n2⟩ := p.pr; have s7 : W.heap.size ≤ W7.heap.size := o1.size; refine ⟨⟨?_, p.hg, p.hh, p.ne, ?_, ⟨nv, ?_, n2⟩, ?_, ⟨.slice (some ⟨g', 0, none⟩) (ts.length + 1) cap, fun j u hj => ?_, ?_⟩, there_setCell hroom7 _ _, ?_⟩, o3, fun k hk => ?_⟩
  · exact o3.below p.below (fun i hi => by
      rcases hi with hi | hi | hi
      · rw [hi]; exact p.hg.1
      · rw [hi]; exact p.hh.1
      · have := (own_lt p hi).1; have := p.hg.1; have := p.hg.2; omega) (Nat.le_refl _)
  · have := p.hB; simp; omega
  · exact rangeAt_block (rangeAt_block n1 (o1.block g l1 ng)) (o2.block g (by omega) (fun e => p.ne e))
  · exact there_block (there_block p.room (o1.block g l1 ng)) (o2.block g (by omega) (fun e => p.ne e))
  · cases j with
    | zero => cases hj; exact hcell
    | succ j => cases hj
  · rw [List.length_append, tcells_app]
    have e : tcells [t] = t.cells := by simp [tcells]
    rw [e]; exact ownsRow_block hrow (fun b hb' => o2.block b (Tr.own_lo hrow b hb').2 (fun e => by have := (Tr.own_lo hrow b hb').1; have := p.hh.2; omega))
  · rw [List.length_append, List.length_singleton]; omega
  · unfold ownT at hk
    rw [hcell] at hk; have hk' : g' = k := by simpa [Value.ownBlock] using hk
    subst hk'; rcases hgl with h1 | h1
    · exact .inl (by rw [ho]; exact h1)
    · exact .inr h1
theorem PW.still {w0 : World} {g h B : Nat} {W W2 W7 : World} {l : List Nd} {ts : List Tk} {v : Value} (p : PW w0 g h B W l ts) (hv : W.cell? ⟨h, 0, none⟩ = some v) (hb : Below W.heap.size W W2) (hgr : W2.grownBy W7 v.ownBlock) : W7.cell? ⟨h, 0, none⟩ = some v ∧ W7.frozen? ⟨h, 0, none⟩ = false := by
  have ho : ownT W h = v.ownBlock := by unfold ownT; rw [hv]; rfl
  have o1 : Only (fun k => v.ownBlock = some k) W W7 := (Only.of_below (F := fun k => v.ownBlock = some k) hb).trans (Only.of_grown (F := fun k => v.ownBlock = some k) hgr (fun _ h => h)) (fun _ _ h => h); have nh : ¬v.ownBlock = some h := fun e => by have := (own_lt p (by rw [ho]; exact e)).1; have := p.hh.2; omega
  have hbl := o1.block h p.low.2 nh; refine ⟨(World.cell?_of_block (a := ⟨h, 0, none⟩) hbl).trans hv, ?_⟩; have := ((there_block p.troom hbl) 0 (by decide)).2; exact this
theorem add_any {w0 : World} {g h B : Nat} {W : World} {l : List Nd} {ts : List Tk} (t : Tk) (p : PW w0 g h B W l ts) (hf : ts.length ≤ 99999999) :
    Calls Tryz.prog 55 #[.agg t.cells.toArray, .pointer (some ⟨h, 0, none⟩)] W fun e W' => PrOk w0 g h B W l (ts ++ [t]) e W' := by
  obtain ⟨v, hv, hrow⟩ := p.tk; have hc : W.cell? ⟨h, 0, none⟩ = some v := hv 0 _ rfl; have hfz : W.frozen? ⟨h, 0, none⟩ = false := by have := (p.troom 0 (by decide)).2; exact this
  obtain ⟨q1, c1, rfl⟩ : ∃ q c, v = .slice q ts.length c := by
    rcases hrow.2 with ⟨hv', h0⟩ | ⟨g', cap, cur, hv', -⟩
    · exact ⟨none, 0, by rw [hv', h0]⟩
    · exact ⟨_, _, hv'⟩
  have HP := hid p; obtain ⟨i0, hi0, hy0, hy1, hy2⟩ := info_parts t_info3; have HI := hid (t_info t); have HONE := hid (t_one t); obtain ⟨W1, hW1⟩ : ∃ W1, W1 = W.alloc (.cells t.cells.toArray 73) := ⟨_, rfl⟩; have HB1 : Hid (Below W.heap.size W W1) := hid (by rw [hW1]; exact (Below.refl _ _).alloc (Nat.le_refl _) _)
  have HS1 : Hid (W1.heap.size = W.heap.size + 1) := hid (by rw [hW1]; simp)
  have HR1 : Hid (W1.rangeAt W.heap.size 0 t.cells) := hid (by rw [hW1]; exact range_new W t.cells _)
  have hc1 : W1.cell? ⟨h, 0, none⟩ = some (.slice q1 ts.length c1) := (World.cell?_of_block (a := ⟨h, 0, none⟩) (HB1.out.block h p.low.2)).trans hc; have HW1 := hid hW1; obtain ⟨n, hn⟩ : ∃ n, n = ts.length := ⟨_, rfl⟩; have HN := hid hn; rw [← hn] at hrow hc1 hf hc; have HC := hid hc; have HROW := hid (ownsRow_block (w' := W1) hrow (fun b hb' => HB1.out.block b (Tr.own_lo hrow b hb').2)); have HNEW := hid (news_at W1 t.cells.toArray 73); have HBB := hid p.hB; clear hrow hv hc hW1 hn p; obtain ⟨k, q, z, a⟩ := t; simp only [Tk.cells] at *; go_enter Tryz.func55, Tryz.ntmps55
  go_upto_region 1 with fail
  rw [← HW1.out]
  go_wp2_with (first
    | (refine wpList_load_mid rfl 73 (.tmp 2) rfl W.heap.size 0 rfl [.int .i64 k, .string (strOf q), .int .i64 z, .int .i64 a] _ HR1.out Tryz.underlying73 rfl HI.out ?_)
    | (refine wpList_append_lies _ rfl (.tmp 3) (.tmp 5) 25 rfl B 73 i0 _ 4 40 Tryz.underlying25 hi0 hy0 hy1 hy2 rfl (by decide) _ n (tcells ts) rfl (HROW.out.alloc _) ⟨W1.heap.size, 0, none⟩ 1 1 [.int .i64 k, .string (strOf q), .int .i64 z, .int .i64 a] rfl rfl HNEW.out HONE.out (by decide) (by unfold maxLen; omega) (by omega) (by have := HS1.out; have := HBB.out; simp; omega) (W1.heap.size + 1) (by simp) ?_; intro g' cap W7 hrow hgr hgl hlt7; have HPS := hid (PW.push (t := ⟨k, q, z, a⟩) (cap := cap) HP.out HC.out (HB1.out.alloc (by have := HS1.out; omega) (.cells #[.int .i64 k, .string (strOf q), .int .i64 z, .int .i64 a] 73)) (by rw [← HN.out]; exact hf) (by rw [← HN.out]; exact hrow) hgr ((show (Value.slice q1 n c1).ownBlock = some g' ∨ g' = W1.heap.size + 1 from hgl).imp id (fun e => by have := HS1.out; omega))); obtain ⟨c7, f7⟩ := HP.out.still HC.out (HB1.out.alloc (by have := HS1.out; omega) (.cells #[.int .i64 k, .string (strOf q), .int .i64 z, .int .i64 a] 73)) hgr; clear hrow hgr hgl hlt7))
  refine bodyPost_end (results_none rfl _ _ _) rfl ?_; exact ⟨rfl, by rw [HN.out]; exact HPS.out⟩
theorem nds_next {w0 : World} {v : Value} {x : Nd} {l : List Nd} (h : Nds w0 v (x :: l)) : ∃ b o c p' c', v = .slice (some ⟨b, o, none⟩) (l.length + 1) c ∧ l.length + 1 ≤ c ∧ b < w0.heap.size ∧ w0.rangeAt b o x.cells ∧ Nds w0 (.slice p' l.length c') l ∧
    ∀ W : World, (Instr.slice 22 (.slice (some ⟨b, o, none⟩) (l.length + 1) c) (some (.int .i64 1)) none none).run Tryz.prog W = .ok (.slice p' l.length c') W := by
  obtain ⟨p, c, rfl, hc, hf, h0 | ⟨b, o, rfl, hb, hr⟩⟩ := h
  · cases h0
  · rw [ncells_cons] at hr
    have h1 := rangeAt_left hr; have h2 := rangeAt_right hr (show x.cells.length = 5 from rfl); have hc' : l.length + 1 ≤ c := hc; refine ⟨b, o, c, (if c = 1 then some ⟨b, o, none⟩ else some ⟨b, o + 5, none⟩), c - 1, rfl, hc', hb, h1, ⟨_, _, rfl, by omega, (fun y hy => hf y (List.mem_cons_of_mem _ hy)), ?_⟩, fun W => ?_⟩
    · by_cases h3 : c = 1
      · exact .inl (List.eq_nil_of_length_eq_zero (by omega))
      · rw [if_neg h3]; exact .inr ⟨b, o + 5, rfl, hb, h2⟩
    · rw [run_slice_l W 22 _ (l.length + 1) c (by kernel_rfl) .i64 1 (by omega) (by omega), nd_size]
      show Result.ok (sliced _ (1 : Int).toNat (l.length + 1) c 5) W = _
      unfold sliced; simp [Addr.add_mid]
theorem PW.pop {w0 : World} {g h B : Nat} {W : World} {x : Nd} {l : List Nd} {ts : List Tk} {v : Value} (p : PW w0 g h B W (x :: l) ts) (hn : Nds w0 v l) : PW w0 g h B (W.setCell ⟨g, 0, none⟩ v) l ts ∧ Step g h W (W.setCell ⟨g, 0, none⟩ v) := by
  obtain ⟨l1, l2⟩ := p.low; obtain ⟨nv, n1, n2⟩ := p.pr; obtain ⟨u, u1, u2⟩ := p.tk; have o2 : Only (fun k => k = g) W (W.setCell ⟨g, 0, none⟩ v) := Only.of_setCell _; have hbo : ∀ k, u.ownBlock = some k → B ≤ k := fun k hk => (Tr.own_lo u2 k hk).1
  have hh : (W.setCell ⟨g, 0, none⟩ v).heap[h]? = W.heap[h]? := o2.block h l2 (fun e => p.ne e.symm); have hcell : (W.setCell ⟨g, 0, none⟩ v).cell? ⟨h, 0, none⟩ = W.cell? ⟨h, 0, none⟩ := World.cell?_of_block (a := ⟨h, 0, none⟩) hh; refine ⟨⟨?_, p.hg, p.hh, p.ne, by have := p.hB; simpa using this, ⟨v, fun j y hj => ?_, hn⟩, there_setCell p.room _ _, ⟨u, rangeAt_block u1 hh, ?_⟩, there_block p.troom hh, p.few⟩, o2.mono (fun k hk => .inl hk), fun k hk => .inl ?_⟩
  · exact o2.below p.below (fun i hi => by rw [hi]; exact p.hg.1) (Nat.le_refl _)
  · rcases (show j = 0 ∨ j = 1 by have := (List.getElem?_eq_some_iff.1 hj).1; simp at this; omega) with rfl | rfl
    · cases hj; exact World.cell?_setCell_same _ _ _ (n1 0 _ rfl)
    · rw [World.cell?_setCell_other _ _ _ _ (by simp)]; exact n1 1 y hj
  · exact ownsRow_block u2 (fun b hb' => o2.block b (Tr.own_lo u2 b hb').2 (fun e => by have := (Tr.own_lo u2 b hb').1; have := p.hg.2; omega))
  · unfold ownT at hk ⊢
    rwa [hcell] at hk
theorem PW.fresh {w0 : World} {g h B : Nat} {W W5 : World} {l : List Nd} {ts : List Tk} (p : PW w0 g h B W5 l ts) (s : Step g h W W5) (q : Nat) (hB : B ≤ W.heap.size) (hq : W.heap.size ≤ q) (hn : ownT W5 h ≠ some q) (vs : List Value) : PW w0 g h B (W5.setCells q 0 vs) l ts ∧ Step g h W (W5.setCells q 0 vs) := by
  obtain ⟨l1, l2⟩ := p.low; obtain ⟨nv, n1, n2⟩ := p.pr; obtain ⟨u, u1, u2⟩ := p.tk; have hg := p.hg; have hhh := p.hh; have o2 : Only (fun k => k = q) W5 (W5.setCells q 0 vs) := Only.setCells (F := fun k => k = q) q rfl vs 0 W5 (Only.refl _ _); have bg := o2.block g l1 (by omega); have bh := o2.block h l2 (by omega); have hu : ownT W5 h = u.ownBlock := by unfold ownT; rw [u1 0 _ rfl]; rfl
  have hcell : (W5.setCells q 0 vs).cell? ⟨h, 0, none⟩ = W5.cell? ⟨h, 0, none⟩ := World.cell?_of_block (a := ⟨h, 0, none⟩) bh; refine ⟨⟨?_, p.hg, p.hh, p.ne, Nat.le_trans p.hB o2.size, ⟨nv, rangeAt_block n1 bg, n2⟩, there_block p.room bg, ⟨u, rangeAt_block u1 bh, ?_⟩, there_block p.troom bh, p.few⟩, ?_, fun k hk => s.own k ?_⟩
  · exact o2.below p.below (fun i hi => by omega) (Nat.le_refl _)
  · exact ownsRow_block u2 (fun b hb' => o2.block b (Tr.own_lo u2 b hb').2 (fun e => hn (by rw [hu, hb', e])))
  · exact s.only.trans o2 (fun i hi e => absurd hi (by omega))
  · unfold ownT at hk ⊢
    rwa [hcell] at hk
theorem next_any {w0 : World} {g h B : Nat} {W : World} {x : Nd} {l : List Nd} {ts : List Tk} (p : PW w0 g h B W (x :: l) ts) :
    Calls Tryz.prog 56 #[ptr g] W fun e W' => e = .returned (.agg x.cells.toArray) ∧ PW w0 g h B W' l ts ∧ Step g h W W' := by
  obtain ⟨v, h1, h2⟩ := p.pr; obtain ⟨b, o, c, p', c', rfl, hc, hb, hr, hn, hsl⟩ := nds_next h2; have HP := hid p; have HN := hid hn; have HZ0 := hid (nb_zero W); obtain ⟨W1, hW1⟩ : ∃ W1, W1 = W.alloc (.cells #[.int .i64 0, .int .i64 0, .string ⟨#[]⟩, .int .i64 0, .string ⟨#[]⟩] 58) := ⟨_, rfl⟩; have HB1 : Hid (Below W.heap.size W W1) := hid (by rw [hW1]; exact (Below.refl _ _).alloc (Nat.le_refl _) _)
  have HW1 := hid hW1; have HS1 : Hid (W1.heap.size = W.heap.size + 1) := hid (by rw [hW1]; simp)
  rw [← hW1] at HZ0; have P1 := hid (p.later HB1.out)
  have hc1 : W1.cell? ⟨g, 0, none⟩ = some (.slice (some ⟨b, o, none⟩) (l.length + 1) c) := by
    rw [World.cell?_of_block (a := ⟨g, 0, none⟩) (HB1.out.block g p.low.1)]; exact h1 0 _ rfl
  have HR1 : Hid (W1.rangeAt b o x.cells) := hid (rangeAt_block hr (P1.out.below.block b hb)); have HZ1 := hid (nb_zero W1); have HP1 := hid (nb_put W1 x); obtain ⟨n, hnn⟩ : ∃ n, n = l.length := ⟨_, rfl⟩; rw [← hnn] at hc1 hsl HN hc; have z1 : (0 : Int) < ((n + 1 : Nat) : Int) := by omega
  obtain ⟨hia, hla⟩ : (Tryz.prog.info? 58).map (·.size) = some x.cells.toArray.size ∧ x.cells.toArray.all (·.oneCell') = true := ⟨n_infoA x, n_all x⟩; have HI := hid (n_info x)
  have HST : Hid (∀ W3 W5, Below W1.heap.size W1 W3 → NB W3 W1.heap.size x → W5 = W3.setCell ⟨g, 0, none⟩ (.slice p' n c') → PW w0 g h B W5 l ts ∧ Step g h W W5 ∧ W5.rangeAt W1.heap.size 0 x.cells ∧ (W5.there W.heap.size 0 5) ∧ ownT W5 h ≠ some W.heap.size) := hid (fun W3 W5 hb3 hnb e => by
    have q1 := P1.out.later hb3; obtain ⟨q2, q3⟩ := q1.pop HN.out; rw [← e] at q2 q3; have hsz : g < W1.heap.size := P1.out.low.1; refine ⟨q2, (p.step (chain2 HB1.out hb3)).trans q3, ?_, ?_, fun e5 => ?_⟩
    · rw [e]; exact rangeAt_block hnb.cells (Below.heap_setCell _ _ _ _ (by simp; omega))
    · rw [e]
      have h5 := HZ0.out.room; exact there_block (there_block h5 (hb3.block _ (by have := HS1.out; omega))) (Below.heap_setCell _ _ _ _ (by have := p.low.1; simp; omega))
    · rcases ((P1.out.step hb3).trans q3).own _ e5 with h5 | h5
      · rcases (p.step HB1.out).own _ h5 with h6 | h6
        · have := (own_lt p h6).2; omega
        · have h7 : ownT W h = some W.heap.size := by
            unfold ownT at h5 ⊢; rwa [World.cell?_of_block (a := ⟨h, 0, none⟩) (HB1.out.block h p.low.2)] at h5
          have := (own_lt p h7).2; omega
      · have := HS1.out; omega)
  have HG : Hid (g < W.heap.size) := hid p.low.1
  have HGR : Hid (∀ W3, Below W1.heap.size W1 W3 → W3.cell? ⟨g, 0, none⟩ = some (.slice (some ⟨b, o, none⟩) (n + 1) c) ∧ W3.frozen? ⟨g, 0, none⟩ = false) := hid (fun W3 hb3 => by
    have q1 := P1.out.later hb3; refine ⟨(World.cell?_of_block (a := ⟨g, 0, none⟩) (hb3.block g P1.out.low.1)).trans hc1, ?_⟩; have := (q1.room 0 (by decide)).2
    exact this)
  clear hW1 hr hn h1 h2 p hb hnn hc; go_enter Tryz.func56, Tryz.ntmps56
  go_upto_region 1 with fail
  rw [← HW1.out]
  go_upto_region 2 with (first
    | (refine wpList_load_mid rfl 58 (.tmp 8) rfl b o rfl x.cells _ HR1.out Tryz.underlying58 rfl HI.out ?_)
    | (refine wpList_store_mid rfl 58 (.tmp 3) (.tmp 9) rfl W1.heap.size 0 x.cells.toArray rfl rfl HZ1.out.room hia hla ?_; generalize World.setCells _ _ _ _ = W3 at HP1 ⊢)
    | fail)
  obtain ⟨hc3, hf3⟩ := HGR.out W3 HP1.out.2; have HS := hid (HST.out W3 _ HP1.out.2 HP1.out.1 rfl); clear HST HGR hc1; go_upto_region 3 with fail
  generalize World.setCell _ _ _ = W5 at HS ⊢; clear hc3 hf3; have HF := hid (HS.out.1.fresh HS.out.2.1 W.heap.size HP.out.hB (Nat.le_refl _) HS.out.2.2.2.2 x.cells.toArray.toList); have HRR : Hid ((W5.setCells W.heap.size 0 x.cells.toArray.toList).rangeAt W.heap.size 0 x.cells) := hid (World.rangeAt_setCells_same W5 W.heap.size 0 x.cells HS.out.2.2.2.1)
  go_wp2_with (first
    | (refine wpList_load_mid rfl 58 (.tmp 3) rfl W1.heap.size 0 rfl x.cells _ HS.out.2.2.1 Tryz.underlying58 rfl HI.out ?_)
    | (refine wpList_store_mid rfl 58 (.tmp 2) (.tmp 18) rfl W.heap.size 0 x.cells.toArray rfl rfl HS.out.2.2.2.1 hia hla ?_; generalize World.setCells _ _ _ _ = W6 at HF HRR ⊢))
  refine bodyPost_ret (results_cell1 rfl _ _ rfl HRR.out Tryz.underlying58 rfl HI.out) rfl ?_; exact ⟨rfl, HF.out.1, HF.out.2⟩
end Go.Proofs.YtmljjpdodcpohaaGreatDoor.Sw

namespace Go.Proofs.YtmljjpdodcpohaaGreatDoor.Sw
open Lib (hid)
set_option maxRecDepth 100000
set_option maxHeartbeats 4000000
open Go.RowKit Dk Lx Tr Pa
theorem PW.cells {w0 : World} {g h B : Nat} {W : World} {l : List Nd} {ts : List Tk} (p : PW w0 g h B W l ts) : W.cell? ⟨g, 1, none⟩ = some (.func (.func 55) #[] #[.pointer (some ⟨h, 0, none⟩)]) := by
  obtain ⟨v, h1, -⟩ := p.pr; exact h1 1 _ rfl
theorem Step.keep {g h : Nat} {W W' : World} (s : Step g h W W') {b : Nat} (hb : b < W.heap.size) (h1 : b ≠ g) (h2 : b ≠ h) (h3 : ownT W h ≠ some b) : W'.heap[b]? = W.heap[b]? := s.only.block b hb (fun hf => hf.elim h1 (fun hf => hf.elim h2 h3))
def strCells (T : List (List UInt8)) : List Value := T.map fun q => Value.string (strOf q)
theorem signs_at {w0 : World} {g h B : Nat} {W : World} {l : List Nd} {ts : List Tk} (qs : List (List UInt8)) (b : Nat) (p : PW w0 g h B W l ts) (hf : ts.length + qs.length ≤ 99999999) (hr : W.rangeAt b 0 (strCells qs)) (hb : b < W.heap.size) (h1 : b ≠ g) (h2 : b ≠ h) (h3 : ownT W h ≠ some b) :
    Calls Tryz.prog 57 #[ptr g, .slice (some ⟨b, 0, none⟩) qs.length qs.length] W fun e W' => PrOk w0 g h B W l (ts ++ qs.map sgn) e W' := by
  have HP := hid p
  have HCL : Hid (∀ W', Step g h W W' → ∀ i (hi : i < qs.length), W'.cell? ⟨b, i, none⟩ = some (.string (strOf qs[i]))) := hid (fun W' s i hi => by
    have := (rangeAt_block hr (s.keep hb h1 h2 h3)) i (.string (strOf qs[i])) (by unfold strCells; rw [List.getElem?_map, List.getElem?_eq_getElem hi]; rfl)
    rwa [Nat.zero_add] at this)
  obtain ⟨n, hn⟩ : ∃ n, n = qs.length := ⟨_, rfl⟩; have HN := hid hn; have HF := hid hf; rw [← hn] at hf ⊢; have hn9 : n ≤ 99999999 := by omega
  clear p hr hb h1 h2 h3 hn hf; go_enter Tryz.func57, Tryz.ntmps57
  go_wp2; go_loopw [9] (fun vi wr => ∃ i : Nat, i ≤ n ∧ vi = .int .i64 (i : Int) ∧ Hid (PW w0 g h B wr l (ts ++ (qs.take i).map sgn)) ∧ Hid (Step g h W wr)) (fun vi _ => n - (intOf vi).toNat)
  case atStart => exact ⟨0, Nat.zero_le _, rfl, hid (by simpa using HP.out), hid (Step.refl _ _ _)⟩
  case round =>
    obtain ⟨i, hi, rfl, HPW, HS⟩ := hrel; by_cases hlt : i < n
    · have hil : i < qs.length := by rw [← HN.out]; exact hlt
      have c1 := HCL.out wr HS.out i hil; have hpc := HPW.out.cells
      have HTK : Hid (ts ++ (qs.take (i + 1)).map sgn = (ts ++ (qs.take i).map sgn) ++ [sgn qs[i]]) := hid (by
        have e : qs.take (i + 1) = qs.take i ++ [qs[i]] := by rw [List.take_add_one, List.getElem?_eq_getElem hil]; rfl
        rw [e, List.map_append, ← List.append_assoc]; rfl)
      have HAD := hid (fun W1 (hp1 : PW w0 g h B W1 l (ts ++ (qs.take i).map sgn)) => add_any (sgn qs[i]) hp1 (by have := HF.out; rw [List.length_append, List.length_map, List.length_take]; omega))
      have HKY := hid (key_any qs[i] wr); unfold sgn at HAD; generalize qs[i] = q at *; have z0 : (0 : Int) ≤ (i : Int) := by omega
      have z1 : (i : Int) < (n : Int) := by omega
      clear hil; cases hk : isKey q with
      | true =>
        rw [hk] at HKY HAD; simp only [Tk.cells, if_true] at HAD; have HSQ : Hid (sgn q = ⟨5, q, 0, 0⟩) := hid (by unfold sgn; rw [hk]; rfl)
        clear hk; go_wp2_with fail
        refine HKY.out.mono ?_; rintro e w1 ⟨rfl, rfl⟩; go_wp2_with fail
        refine (HAD.out _ HPW.out).mono ?_; rintro e w2 ⟨rfl, hp2, hs2⟩; have HP2 := hid hp2; have HS2 := hid (HS.out.trans hs2); clear hp2 hs2 hpc c1 HAD HKY; go_wp2; go_roundw
        case rel => exact ⟨i + 1, by omega, by go_num, hid (by rw [HTK.out, HSQ.out]; exact HP2.out), HS2⟩
        case measure => simp [intOf]; omega
      | false =>
        rw [hk] at HKY HAD; simp only [Tk.cells, Bool.false_eq_true, if_false] at HAD; have HSQ : Hid (sgn q = ⟨4, q, 0, 0⟩) := hid (by unfold sgn; rw [hk]; rfl)
        clear hk; go_wp2_with fail
        refine HKY.out.mono ?_; rintro e w1 ⟨rfl, rfl⟩; go_wp2_with fail
        refine (HAD.out _ HPW.out).mono ?_; rintro e w2 ⟨rfl, hp2, hs2⟩; have HP2 := hid hp2; have HS2 := hid (HS.out.trans hs2); clear hp2 hs2 hpc c1 HAD HKY; go_wp2; go_roundw
        case rel => exact ⟨i + 1, by omega, by go_num, hid (by rw [HTK.out, HSQ.out]; exact HP2.out), HS2⟩
        case measure => simp [intOf]; omega
    · obtain rfl : i = n := by omega
      have HE : Hid (PW w0 g h B wr l (ts ++ qs.map sgn)) := hid (by have := HPW.out; rw [HN.out, List.take_length] at this; exact this)
      clear hlt hi; go_wp2; refine bodyPost_end (results_none rfl _ _ _) rfl ?_; exact ⟨rfl, HE.out, HS.out⟩
theorem signs_lit {w0 : World} {g h B : Nat} {W : World} {l : List Nd} {ts : List Tk} (qs : List (List UInt8)) (p : PW w0 g h B W l ts) (hf : ts.length + qs.length ≤ 99999999) :
    Calls Tryz.prog 57 #[ptr g, .slice (some ⟨W.heap.size, 0, none⟩) qs.length qs.length] (W.alloc (.cells (strCells qs).toArray 9)) fun e W' => PrOk w0 g h B W l (ts ++ qs.map sgn) e W' := by
  have hb : Below W.heap.size W (W.alloc (.cells (strCells qs).toArray 9)) := (Below.refl _ _).alloc (Nat.le_refl _) _; have s1 := p.step hb; obtain ⟨l1, l2⟩ := p.low; refine (signs_at qs W.heap.size (p.later hb) hf (range_new W (strCells qs) _) (by simp) (by omega) (by omega) (fun e => ?_)).mono fun e W' ⟨h1, h2, h3⟩ => ⟨h1, h2, s1.trans h3⟩
  have e' : ownT W h = some W.heap.size := by
    unfold ownT at e ⊢; rwa [World.cell?_of_block (a := ⟨h, 0, none⟩) (hb.block h l2)] at e
  have := (own_lt p e').2; omega
theorem pname_any {w0 : World} {g h B : Nat} {W : World} {l : List Nd} {ts : List Tk} (q : List UInt8) (p : PW w0 g h B W l ts) (hf : ts.length ≤ 99999999) :
    Calls Tryz.prog 58 #[ptr g, .string (strOf q)] W fun e W' => PrOk w0 g h B W l (ts ++ [nmT q]) e W' := by
  have hpc := p.cells; have HAD := hid (add_any (nmT q) p hf); have HAD2 := hid HAD.out; unfold nmT at HAD2; simp only [Tk.cells] at HAD2; have HNQ : Hid (nmT q = ⟨1, q, 0, 0⟩) := hid rfl; clear HAD p hf; go_enter Tryz.func58, Tryz.ntmps58
  go_wp2_with fail
  refine HAD2.out.mono ?_; rintro e w2 ⟨rfl, hp2, hs2⟩; have HP2 := hid hp2; have HS2 := hid hs2; clear hp2 hs2 hpc HAD2; go_wp2; refine bodyPost_end (results_none rfl _ _ _) rfl ?_; exact ⟨rfl, by rw [HNQ.out]; exact HP2.out, HS2.out⟩
theorem pnumber_any {w0 : World} {g h B : Nat} {W : World} {l : List Nd} {ts : List Tk} (n : Int) (h0 : -9223372036854775808 ≤ n) (h1 : n < 9223372036854775808) (HT : HasT w0) (p : PW w0 g h B W l ts) (hf : ts.length ≤ 99999999) :
    Calls Tryz.prog 59 #[ptr g, .int .i64 n] W fun e W' => PrOk w0 g h B W l (ts ++ [inT n]) e W' := by
  have hpc := p.cells; have HP := hid p; have F1 := hid (fun W1 (hb : Below W.heap.size W W1) => format_any n h0 h1 W1 (HT.later (chain2 p.below hb))); have HAD := hid (fun W1 (hp1 : PW w0 g h B W1 l ts) => add_any (inT n) hp1 hf); unfold inT at HAD; simp only [Tk.cells] at HAD; have HNQ : Hid (inT n = ⟨2, Lib.itoa n, n, 0⟩) := hid rfl; have HST : Hid ((⟨(Lib.itoa n).toArray⟩ : ByteArray) = strOf (Lib.itoa n)) := hid rfl; have hb0 := hid (Below.refl W.heap.size W).drew; clear p hf h0 h1 HT; rw [HST.out] at F1; generalize Lib.itoa n = q at *; go_enter Tryz.func59, Tryz.ntmps59
  go_region_law (first
    | (go_simp; go_at_call 100; refine (F1.out _ (Below.refl W.heap.size W).drew).mono ?_; rintro e w1 ⟨rfl, hb1⟩; have P1 := hid (HP.out.later (chain2 (Below.refl W.heap.size W).drew hb1)); have S1 := hid (HP.out.step (chain2 (Below.refl W.heap.size W).drew hb1)); have hpc1 := P1.out.cells; clear hb1)
    | (go_simp; go_at_call 55; refine (HAD.out _ P1.out).mono ?_; rintro e w2 ⟨rfl, hp2, hs2⟩; have HP2 := hid hp2; have HS2 := hid (S1.out.trans hs2); clear hp2 hs2))
  all_goals
    go_wp2; refine bodyPost_end (results_none rfl _ _ _) rfl ?_; exact ⟨rfl, by rw [HNQ.out]; exact HP2.out, HS2.out⟩
end Go.Proofs.YtmljjpdodcpohaaGreatDoor.Sw

