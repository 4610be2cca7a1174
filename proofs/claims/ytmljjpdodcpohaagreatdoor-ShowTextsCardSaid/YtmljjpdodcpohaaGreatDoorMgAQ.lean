/- The document's printer; The document's printer; The document's printer. No condition but those that each states. -/
import Derived.Test.YtmljjpdodcpohaaGreatDoorMgAP
import Derived.Test.YtmljjpdodcpohaaGreatDoorMgAD
import Derived.Test.YtmljjpdodcpohaaGreatDoorMgAO
import Derived.Test.YtmljjpdodcpohaaGreatDoorMgAJ
import Derived.Laws.AppendOwnNone
import Derived.Deep.Cut
import Derived.Deep.CutRange
import Derived.Deep.DeepCutAuto
import Derived.Deep.CutBlock
import Derived.Deep.RegionHeld3
import Derived.Deep.AppendLies
import Derived.Deep.RegionLaw
import Derived.IntWalk
import Derived.Lib.AppendZeros
namespace Go.Proofs.YtmljjpdodcpohaaGreatDoor.Sw
open Lib (hid)
set_option maxRecDepth 100000
set_option maxHeartbeats 1000000
open Go.RowKit Dk Lx Tr
def ofT (q : List UInt8) : Tk := ⟨if isKey q then 5 else if isName q then 1 else 4, q, 0, 0⟩
theorem results_cell1 {P : Program} {fn : Func} {t : Tmp} {ty : TypeId} {d : TypeDesc} {cs : List Value} {b : Nat} (h : fn.results = #[.cell t ty]) (tmps : Array Value) (w : World) (ht : tmps.getD t undef = .pointer (some ⟨b, 0, none⟩)) (hc : w.rangeAt b 0 cs)
    (hu : P.underlying ty = some d) (hd : d.isRow = true) (hi : (P.info? ty).map (·.size) = some cs.length) : (results fn tmps).run P w = .ok (.agg cs.toArray) w := by
  have hl := run_loadVar_mid (P := P) w b 0 ty cs d hc hu hd hi; simp only [Array.getD_eq_getD_getElem?] at ht; simp [results, h, ht, hl, asAddr]
theorem of_any (q : List UInt8) (hq : q.length ≤ 2 ^ 40) (w : World) :
    Calls Tryz.prog 69 #[.string (strOf q)] w fun e w' => e = .returned (.agg (ofT q).cells.toArray) ∧ Below w.heap.size w w' := by
  have K := hid (fun W => rkey_any q W); have N := hid (fun W => rname_any q W hq); have HZ0 := hid (tb_zero w); obtain ⟨W1, hW1⟩ : ∃ W1, W1 = w.alloc (.cells #[.int .i64 0, .string ⟨#[]⟩, .int .i64 0, .int .i64 0] 73) := ⟨_, rfl⟩; have HW1 := hid hW1; have HB1 : Hid (Below w.heap.size w W1) := hid (by rw [hW1]; exact (Below.refl _ _).alloc (Nat.le_refl _) _)
  rw [← hW1] at HZ0; have HT : Hid (ofT q = ⟨if isKey q then 5 else if isName q then 1 else 4, q, 0, 0⟩) := hid rfl; clear hW1
  have HP : Hid (∀ W2 : World, Below W1.heap.size W1 W2 → ∀ t : Tk, TB W2 w.heap.size Tk.zero ∧ (W2.setCells w.heap.size 0 t.cells.toArray.toList).rangeAt w.heap.size 0 t.cells ∧ Below w.heap.size w (W2.setCells w.heap.size 0 t.cells.toArray.toList)) := hid (fun W2 hb t => by
    have h1 := HZ0.out.later hb; have h2 := chain2 HB1.out hb
    exact ⟨h1, (h1.set t).cells, below_setCells h2 _ (Nat.le_refl _) _ _ _ h2⟩)
  cases hk : isKey q with
  | true =>
    rw [hk] at K HT; generalize ofT q = T at *; go_enter Tryz.func69, Tryz.ntmps69
    go_upto_region 1 with fail
    rw [← HW1.out]; go_wp2_with fail
    refine (K.out W1).mono ?_; rintro e w2 ⟨rfl, hb⟩; have HQ := hid (HP.out w2 hb ⟨5, q, 0, 0⟩); clear hb HP K N; go_wp2_with (refine wpList_store_mid rfl 73 (.tmp 2) (.tmp 7) rfl w.heap.size 0 (Tk.mk 5 q 0 0).cells.toArray rfl rfl HQ.out.1.room (t_infoA _) (t_all _) ?_; generalize World.setCells _ _ _ _ = W8 at HQ ⊢)
    refine bodyPost_ret (results_cell1 rfl _ _ rfl HQ.out.2.1 Tryz.underlying73 rfl (t_info _)) rfl ?_; exact ⟨by rw [HT.out]; rfl, HQ.out.2.2⟩
  | false =>
    rw [hk] at K HT; generalize ofT q = T at *; cases hn : isName q with
    | true =>
      rw [hn] at N HT; go_enter Tryz.func69, Tryz.ntmps69
      go_upto_region 1 with fail
      rw [← HW1.out]; go_wp2_with fail
      refine (K.out W1).mono ?_; rintro e w2 ⟨rfl, hb⟩; have HB2 := hid hb; clear hb; go_wp2_with fail
      refine (N.out w2).mono ?_; rintro e w3 ⟨rfl, hb⟩; have HQ := hid (HP.out w3 (chain2 HB2.out hb) ⟨1, q, 0, 0⟩); clear hb HP K N; go_wp2_with (refine wpList_store_mid rfl 73 (.tmp 2) (.tmp 12) rfl w.heap.size 0 (Tk.mk 1 q 0 0).cells.toArray rfl rfl HQ.out.1.room (t_infoA _) (t_all _) ?_; generalize World.setCells _ _ _ _ = W8 at HQ ⊢)
      refine bodyPost_ret (results_cell1 rfl _ _ rfl HQ.out.2.1 Tryz.underlying73 rfl (t_info _)) rfl ?_; exact ⟨by rw [HT.out]; rfl, HQ.out.2.2⟩
    | false =>
      rw [hn] at N HT; go_enter Tryz.func69, Tryz.ntmps69
      go_upto_region 1 with fail
      rw [← HW1.out]; go_wp2_with fail
      refine (K.out W1).mono ?_; rintro e w2 ⟨rfl, hb⟩; have HB2 := hid hb; clear hb; go_wp2_with fail
      refine (N.out w2).mono ?_; rintro e w3 ⟨rfl, hb⟩; have HQ := hid (HP.out w3 (chain2 HB2.out hb) ⟨4, q, 0, 0⟩); clear hb HP K N; go_wp2_with (refine wpList_store_mid rfl 73 (.tmp 2) (.tmp 14) rfl w.heap.size 0 (Tk.mk 4 q 0 0).cells.toArray rfl rfl HQ.out.1.room (t_infoA _) (t_all _) ?_; generalize World.setCells _ _ _ _ = W8 at HQ ⊢)
      refine bodyPost_ret (results_cell1 rfl _ _ rfl HQ.out.2.1 Tryz.underlying73 rfl (t_info _)) rfl ?_; exact ⟨by rw [HT.out]; rfl, HQ.out.2.2⟩
end Go.Proofs.YtmljjpdodcpohaaGreatDoor.Sw

namespace Go.Proofs.YtmljjpdodcpohaaGreatDoor.Sw
open Lib (hid)
set_option maxRecDepth 100000
set_option maxHeartbeats 2000000
open Go.RowKit Dk Lx Tr
def sCells (qs : List (List UInt8)) : List Value := qs.map fun q => Value.string (strOf q)
def Strs (W : World) (v : Value) (qs : List (List UInt8)) : Prop := ∃ p c, v = .slice p qs.length c ∧ qs.length ≤ c ∧ (qs = [] ∨ ∃ b, p = some ⟨b, 0, none⟩ ∧ b < W.heap.size ∧ W.rangeAt b 0 (sCells qs))
theorem Strs.later {W W' : World} {v : Value} {qs : List (List UInt8)} (h : Strs W v qs) (k : Below W.heap.size W W') : Strs W' v qs := by
  obtain ⟨p, c, rfl, hc, h | ⟨b, rfl, hb, hr⟩⟩ := h
  · exact ⟨p, c, rfl, hc, .inl h⟩
  · exact ⟨_, c, rfl, hc, .inr ⟨b, rfl, Nat.lt_of_lt_of_le hb k.size, rangeAt_block hr (k.block b hb)⟩⟩
theorem strs_none (W : World) : Strs W (.slice none 0 0) [] := ⟨none, 0, rfl, Nat.le_refl _, .inl rfl⟩
theorem Strs.lit (W : World) (qs : List (List UInt8)) (ty : TypeId) (n : Nat) (hn : n = qs.length) : Strs (W.alloc (.cells (sCells qs).toArray ty)) (.slice (some ⟨W.heap.size, 0, none⟩) n n) qs := by
  subst hn; exact ⟨_, _, rfl, Nat.le_refl _, .inr ⟨W.heap.size, rfl, by simp, range_new W (sCells qs) ty⟩⟩
theorem tr_more {w W W7 : World} {v : Value} {l m : List Tk} {g cap n k : Nat} (hn : n = l.length) (hk : k = m.length) (h : TR w W v l) (hr : W7.ownsRow w.heap.size 73 4 (.slice (some ⟨g, 0, none⟩) (n + k) cap) (n + k) (tcells l ++ tcells m)) (hgr : W.grownBy W7 v.ownBlock) :
    TR w W7 (.slice (some ⟨g, 0, none⟩) (n + k) cap) (l ++ m) := by
  subst hn hk; exact ⟨by rw [List.length_append, tcells_app]; exact hr, Lx.below_grown hgr h.below (fun k hk => (Lx.own_lo h.row k hk).1) h.below.size (Nat.le_refl _)⟩
theorem all_any (qs : List (List UInt8)) (sv : Value) (w : World) (hs : Strs w sv qs) (hq : ∀ q ∈ qs, q.length ≤ 2 ^ 40) (hn : qs.length ≤ 1000) :
    Calls Tryz.prog 107 #[sv] w fun e w' => ∃ u, e = .returned u ∧ TR w w' u (qs.map ofT) ∧ (qs = [] → u = .slice none 0 0) := by
  obtain ⟨i0, hi0, hz0, hz1, hz2⟩ := info_parts t_info3; have HS := hid hs; obtain ⟨p, c, rfl, -, -⟩ := hs; obtain ⟨n, hnn⟩ : ∃ n, n = qs.length := ⟨_, rfl⟩; rw [← hnn] at HS hn ⊢; have HN := hid hnn; have HQ := hid hq; clear hnn hq; go_enter Tryz.func107, Tryz.ntmps107
  go_wp2; go_loopw [3, 4] (fun v3 vi wr => ∃ i : Nat, i ≤ n ∧ vi = .int .i64 (i : Int) ∧ Hid (TR w wr v3 ((qs.take i).map ofT)) ∧ Hid (i = 0 → v3 = .slice none 0 0)) (fun _ vi _ => n - (intOf vi).toNat)
  case atStart => exact ⟨0, Nat.zero_le _, rfl, hid (TR.first w), hid (fun _ => rfl)⟩
  case round =>
    obtain ⟨i, hi, rfl, HT, HF⟩ := hrel; by_cases hlt : i < n
    · have hil : i < qs.length := by rw [← HN.out]; exact hlt
      have HO := hid (fun W => of_any qs[i] (HQ.out _ (List.getElem_mem hil)) W); obtain ⟨p', c', he, -, h0 | ⟨b, hp, hb, hr⟩⟩ := HS.out
      · have := HN.out; rw [h0] at this; simp at this; omega
      simp only [Value.slice.injEq] at he; obtain ⟨rfl, -, rfl⟩ := he; subst hp
      have hc : wr.cell? ⟨b, i, none⟩ = some (.string (strOf qs[i])) := by
        rw [World.cell?_of_block (a := ⟨b, i, none⟩) (HT.out.below.block b hb)]; have := hr i (.string (strOf qs[i])) (by unfold sCells; rw [List.getElem?_map, List.getElem?_eq_getElem hil]; rfl)
        rwa [Nat.zero_add] at this
      have hm : (qs.take (i + 1)).map ofT = (qs.take i).map ofT ++ [ofT qs[i]] := by rw [List.take_succ_eq_append_getElem hil, List.map_append]; rfl
      have hlen : ((qs.take i).map ofT).length = i := by rw [List.length_map, List.length_take]; omega
      obtain ⟨p3, c3, hv3, -, -⟩ := Tr.own_form0 HT.out.row; rw [hlen] at hv3; subst hv3; obtain ⟨T, hT⟩ : ∃ T, T = ofT qs[i] := ⟨_, rfl⟩; rw [← hT] at HO hm; have HM := hid hm; have HLEN := hid hlen; generalize strOf qs[i] = sq at *; have HR := hid hr; have z0 : (0 : Int) ≤ (i : Int) := by omega
      have z1 : (i : Int) < (n : Int) := by omega
      obtain ⟨k, s, z, a⟩ := T; have H1 := hid (t_one ⟨k, s, z, a⟩); simp only [Tk.cells] at HO H1; clear hr hm hlen hT hil; go_wp2_with fail
      refine (HO.out wr).mono ?_; rintro e W2 ⟨rfl, hb2⟩; have HT2 := hid (HT.out.later hb2); have HRW : Hid (W2.ownsRow w.heap.size 73 4 (.slice p3 i c3) i (tcells ((qs.take i).map ofT))) := hid (by have := HT2.out.row; rw [HLEN.out] at this; exact this)
      have HSZ := hid HT2.out.below.size; clear hb2 HT hc; go_wp2_with (refine wpList_append_lies _ rfl _ _ 25 rfl w.heap.size 73 i0 _ 4 40 Tryz.underlying25 hi0 hz0 hz1 hz2 rfl (by decide) _ i (tcells ((qs.take i).map ofT)) rfl (HRW.out.alloc _) ⟨W2.heap.size, 0, none⟩ 1 1 [.int .i64 k, .string (strOf s), .int .i64 z, .int .i64 a] rfl rfl (news_at W2 #[.int .i64 k, .string (strOf s), .int .i64 z, .int .i64 a] 73) H1.out (by decide) (by unfold maxLen; omega) (by omega) (by have := HSZ.out; simp; omega) (W2.heap.size + 1) (by simp) ?_; intro g' cap W7 hrow hgr hgl hlt7)
      have HX := hid (TR.push (e := ⟨k, s, z, a⟩) HT2.out (by rw [HLEN.out]; exact hrow) hgr)
      rw [HLEN.out, ← HM.out] at HX; clear hrow hgr hgl hlt7 HT2 HRW; go_roundw
      case rel => exact ⟨i + 1, by omega, by go_num, HX, hid (fun h => by omega)⟩
      case measure => simp [intOf]; omega
    · have hin : i = n := by omega
      have HI := hid hin; have z2 : ¬(i : Int) < (n : Int) := by omega
      have HX : Hid (TR w wr _ (qs.map ofT) ∧ (qs = [] → _ = Value.slice none 0 0)) := hid ⟨by have := HT.out; rw [List.take_of_length_le (by rw [HI.out, HN.out]; exact Nat.le_refl _)] at this; exact this, fun h => HF.out (by rw [HI.out, HN.out, h]; rfl)⟩
      clear hlt hi hin HT HF; go_wp2; go_ret; exact ⟨_, rfl, HX.out⟩
def NodR (l : List Nd) (v : Value) (w0 : World) (N : Nat) : Prop := ∀ (i : Nat) (c : Cat) (o : List Tk) (l' : List Nd) (W : World), (l.drop i).length < N → Prn [.nd c] (l.drop i) o l' → Below w0.heap.size w0 W → Calls Tryz.prog 31 #[v, .int .i64 (i : Int)] W fun e W' => ∃ u, e = .returned u ∧ TR W W' u o
theorem prn_pos1 : ∀ (N : Nat) {c : Cat} {l l' : List Nd} {o : List Tk}, l.length < N → Prn [.nd c] l o l' → 0 < o.length
  | 0, _, _, _, _, h, _ => absurd h (Nat.not_lt_zero _)
  | N + 1, c, l, l', o, hl, h => by
    obtain ⟨x, r, rfl, hc, hk, hf, hp⟩ := h.nd_inv
    have hT : ∀ {t : Tk} {A : List PSy}, Prn (.tok t :: A) r o l' → 0 < o.length := fun h => by
      obtain ⟨o', rfl, -⟩ := h.tok_inv; exact Nat.succ_pos _
    have hE : ∀ {c : Cat} {A : List PSy}, Prn (.nd c :: A) r o l' → 0 < o.length := fun h => by
      obtain ⟨o1, o2, l1, rfl, h1, -⟩ := h.nd_cons; have := prn_pos1 N (by simpa using hl) h1; rw [List.length_append]; omega
    obtain ⟨k, d, q, z, s⟩ := x
    have hkk : k = 1 ∨ k = 2 ∨ k = 3 ∨ k = 4 ∨ k = 5 ∨ k = 6 ∨ k = 7 ∨ k = 8 ∨ k = 9 ∨ k = 10 ∨ k = 11 ∨ k = 12 ∨ k = 13 ∨ k = 14 ∨ k = 15 ∨ k = 16 ∨ k = 17 ∨ k = 18 ∨ k = 19 ∨ k = 20 ∨ k = 21 ∨ k = 22 ∨ k = 23 ∨ k = 24 ∨ k = 25 ∨ k = 26 ∨ k = 27 ∨ k = 28 ∨ k = 29 ∨ k = 30 := by
      have h' := kind_in hc; simp only at h'; omega
    clear hk hf hc h; rcases hkk with rfl | rfl | rfl | rfl | rfl | rfl | rfl | rfl | rfl | rfl | rfl | rfl | rfl | rfl | rfl | rfl | rfl | rfl | rfl | rfl | rfl | rfl | rfl | rfl | rfl | rfl | rfl | rfl | rfl | rfl
    all_goals first | exact hT hp | exact hE hp
theorem tr_news {w W : World} {v : Value} {m : List Tk} (h : TR w W v m) (hm : 0 < m.length) : ∃ g o c, v = .slice (some ⟨g, o, none⟩) m.length c ∧ ∀ j u, (tcells m)[j]? = some u → W.cell? ((⟨g, o, none⟩ : Addr).add j) = some u := by
  obtain ⟨p, c, rfl, -, h0 | ⟨g, o, rfl, -, hr⟩⟩ := h.toks
  · rw [h0] at hm; simp at hm
  · exact ⟨g, o, c, rfl, fun j u hu => by rw [WideShapes.add_plain]; exact hr j u hu⟩
theorem around_any {l : List Nd} {v : Value} {w0 : World} {N : Nat} (hN : NodR l v w0 N) (qa qb : List (List UInt8)) (va vb : Value) (i : Nat) (c : Cat) (o : List Tk) (l' : List Nd) (w : World) (hi : (l.drop i).length < N) (hp : Prn [.nd c] (l.drop i) o l') (hw : Below w0.heap.size w0 w)
    (ha : Strs w va qa) (hb : Strs w vb qb) (hqa : ∀ q ∈ qa, q.length ≤ 2 ^ 40) (hqb : ∀ q ∈ qb, q.length ≤ 2 ^ 40) (hna : qa.length ≤ 1000) (hnb : qb.length ≤ 1000) (hb0 : qb = [] → vb = .slice none 0 0) (ho : o.length ≤ 100000) :
    Calls Tryz.prog 106 #[va, v, .int .i64 (i : Int), vb] w fun e w' => ∃ u, e = .returned u ∧ TR w w' u (qa.map ofT ++ o ++ qb.map ofT) := by
  obtain ⟨i0, hi0, hz0, hz1, hz2⟩ := info_parts t_info3; have HA := hid (all_any qa va w ha hqa hna); have HB := hid (fun (W : World) (h : Below w.heap.size w W) => all_any qb vb W (hb.later h) hqb hnb); have HC := hid (fun (W : World) (h : Below w.heap.size w W) => hN i c o l' W hi hp (chain2 hw h)); have hpos := prn_pos1 _ (Nat.lt_succ_self _) hp; obtain ⟨A, hA⟩ : ∃ A, A = qa.map ofT := ⟨_, rfl⟩; obtain ⟨B, hB⟩ : ∃ B, B = qb.map ofT := ⟨_, rfl⟩; have hAl : A.length ≤ 1000 := by rw [hA, List.length_map]; exact hna
  have hBl : B.length ≤ 1000 := by rw [hB, List.length_map]; exact hnb
  have HBE : Hid (B = [] → qb = []) := hid (fun h => by rw [hB] at h; exact List.map_eq_nil_iff.1 h)
  rw [← hA] at HA ⊢; rw [← hB] at HB ⊢; obtain ⟨pa, ca, rfl, -, -⟩ := ha; obtain ⟨pb, cb, rfl, -, -⟩ := hb; obtain ⟨na, hna'⟩ : ∃ n, n = A.length := ⟨_, rfl⟩; obtain ⟨no, hno⟩ : ∃ n, n = o.length := ⟨_, rfl⟩; obtain ⟨nb, hnb'⟩ : ∃ n, n = B.length := ⟨_, rfl⟩; rw [← hno] at ho hpos; rw [← hna'] at hAl; rw [← hnb'] at hBl; have HNA := hid hna'; have HNO := hid hno; have HNB := hid hnb'; have HOA := hid (tcells_ones o); have HOB := hid (tcells_ones B); generalize qa.length = n1 at *; generalize qb.length = n2 at *; clear hA hB hna' hno hnb' hp hi hw hqa hqb hna hnb hN; go_enter Tryz.func106, Tryz.ntmps106
  go_wp2_with fail
  refine HA.out.mono ?_; rintro e w1 ⟨u1, rfl, hr1, -⟩; have HR1 := hid hr1; clear hr1 HA; go_wp2_with fail
  refine (HC.out _ HR1.out.below).mono ?_; rintro e w2 ⟨u2, rfl, hr2⟩; obtain ⟨g2, o2, c2, hv2, hnew⟩ := tr_news hr2 (by rw [← HNO.out]; exact hpos)
  rw [← HNO.out] at hv2; subst hv2; have HNEW := hid hnew; have HR2 := hid (HR1.out.later hr2.below); have HO1 : Hid (w2.ownsRow w.heap.size 73 4 u1 na (tcells A)) := hid (by have := HR2.out.row; rw [← HNA.out] at this; exact this)
  have hsz := HR2.out.below.size; clear hr2 hnew HC HR1; go_wp2_with (refine wpList_append_lies _ rfl _ _ 25 rfl w.heap.size 73 i0 _ 4 40 Tryz.underlying25 hi0 hz0 hz1 hz2 rfl (by decide) _ na (tcells A) rfl HO1.out ⟨g2, o2, none⟩ no c2 (tcells o) rfl (by rw [tcells_length, HNO.out]) HNEW.out HOA.out hpos (by unfold maxLen; omega) (by omega) hsz _ rfl ?_; intro g' cap W7 hrow hgr hgl hlt7; have HR3 := hid (tr_more HNA.out HNO.out HR2.out hrow hgr); clear hrow hgr hgl hlt7 HR2 HO1 HNEW)
  refine (HB.out _ HR3.out.below).mono ?_; rintro e w3 ⟨u3, rfl, hr3, h03⟩; have HR4 := hid (HR3.out.later hr3.below); have HO2 : Hid (w3.ownsRow w.heap.size 73 4 (.slice (some ⟨g', 0, none⟩) (na + no) cap) (na + no) (tcells (A ++ o))) := hid (by have := HR4.out.row; rw [List.length_append, ← HNA.out, ← HNO.out] at this; exact this)
  have hsz3 := HR4.out.below.size; have HAO : Hid (na + no = (A ++ o).length) := hid (by rw [List.length_append, ← HNA.out, ← HNO.out]); by_cases hbe : nb = 0
  · have hB0 : B = [] := List.eq_nil_of_length_eq_zero (by rw [← HNB.out]; exact hbe)
    have hu3 := h03 (HBE.out hB0); subst hu3; have HB0 := hid hB0; clear hbe hB0 h03 hr3 HB HR3; go_wp2_with (refine wpList_append_own_none rfl _ _ 25 rfl w.heap.size 73 i0 4 Tryz.underlying25 hi0 _ (na + no) (tcells (A ++ o)) rfl HO2.out rfl ?_)
    go_ret; exact ⟨_, rfl, by rw [HB0.out, List.append_nil]; exact HR4.out⟩
  · obtain ⟨g5, o5, c5, hv5, hnew⟩ := tr_news hr3 (by rw [← HNB.out]; omega)
    rw [← HNB.out] at hv5; subst hv5; have HNEW := hid hnew; have hpos3 : 0 < nb := by omega
    clear hr3 hnew HB h03 HR3 hbe; go_wp2_with (refine wpList_append_lies _ rfl _ _ 25 rfl w.heap.size 73 i0 _ 4 40 Tryz.underlying25 hi0 hz0 hz1 hz2 rfl (by decide) _ (na + no) (tcells (A ++ o)) rfl HO2.out ⟨g5, o5, none⟩ nb c5 (tcells B) rfl (by rw [tcells_length, HNB.out]) HNEW.out HOB.out hpos3 (by unfold maxLen; omega) (by omega) hsz3 _ rfl ?_; intro g8 cap8 W8 hrow hgr hgl hlt7; have HR5 := hid (tr_more HAO.out HNB.out HR4.out hrow hgr); clear hrow hgr hgl hlt7 HR4 HO2 HNEW)
    go_ret; exact ⟨_, rfl, HR5.out⟩
end Go.Proofs.YtmljjpdodcpohaaGreatDoor.Sw

namespace Go.Proofs.YtmljjpdodcpohaaGreatDoor.Sw
open Lib (hid)
set_option maxRecDepth 100000
set_option maxHeartbeats 4000000
open Go.RowKit Dk Lx Tr
structure TS (w W : World) (p : Option Addr) (n c : Nat) (L : List Tk) : Prop where
  row : W.ownsRow w.heap.size 73 4 (.slice p n c) n (tcells L)
  len : n = L.length
  below : Below w.heap.size w W
theorem TS.tr {w W : World} {p : Option Addr} {n c : Nat} {L : List Tk} (h : TS w W p n c L) : TR w W (.slice p n c) L := ⟨by have := h.row; rw [h.len] at this ⊢; exact this, h.below⟩
theorem TS.later {w W W' : World} {p : Option Addr} {n c : Nat} {L : List Tk} (h : TS w W p n c L) (k : Below W.heap.size W W') : TS w W' p n c L :=
  ⟨ownsRow_block h.row (fun b hb' => k.block b (Tr.own_lo h.row b hb').2), h.len, chain2 h.below k⟩
theorem tr_ts {w W : World} {v : Value} {L : List Tk} (h : TR w W v L) : ∃ p n c, v = .slice p n c ∧ TS w W p n c L := by
  obtain ⟨p, c, hv, -, -⟩ := Tr.own_form0 h.row; subst hv; exact ⟨p, _, c, rfl, h.row, rfl, h.below⟩
theorem ts_first (w : World) : TS w w none 0 0 [] := ⟨World.ownsRow_nil _ _ _ _, rfl, Below.refl _ _⟩
theorem ts_append {w W : World} {p : Option Addr} {n c : Nat} {L : List Tk} (h : TS w W p n c L) (M : List Tk) (m c2 : Nat) (ad : Addr) (hM : m = M.length) (hm : 0 < m) (hnews : ∀ j u, (tcells M)[j]? = some u → W.cell? (ad.add j) = some u) (hb : n + m ≤ 10000000) :
    ∃ g cap W', (Builtin.append_ #[25, 25] 25 #[.slice p n c, .slice (some ad) m c2]).run Tryz.prog W = .ok (.slice (some ⟨g, 0, none⟩) (n + m) cap) W' ∧ TS w W' (some ⟨g, 0, none⟩) (n + m) cap (L ++ M) := by
  obtain ⟨i0, hi0, hz0, hz1, hz2⟩ := info_parts t_info3; obtain ⟨g, cap, W', hr, hrow, hgr, -, -⟩ := run_append_lies (P := Tryz.prog) (w := W) 25 25 w.heap.size 73 i0 _ 4 40 Tryz.underlying25 hi0 hz0 hz1 hz2 rfl (by decide) _ n (tcells L) h.row ad m c2 (tcells M) (by rw [tcells_length, hM]) hnews (tcells_ones M) hm (by unfold maxLen; omega) (by omega) h.below.size _ rfl
  have := tr_more h.len hM h.tr hrow hgr; exact ⟨g, cap, W', hr, by have q := this.row; rw [List.length_append, ← h.len, ← hM] at q; exact q, by rw [List.length_append, ← h.len, ← hM], this.below⟩
theorem ts_one {w W : World} {p : Option Addr} {n c : Nat} {L : List Tk} (h : TS w W p n c L) (k z a : Int) (s : List UInt8) (hb : n ≤ 9000000) :
    ∃ g cap W', (Builtin.append_ #[25, 25] 25 #[.slice p n c, .slice (some ⟨W.heap.size, 0, none⟩) 1 1]).run Tryz.prog (W.alloc (.cells #[.int .i64 k, .string (strOf s), .int .i64 z, .int .i64 a] 73)) = .ok (.slice (some ⟨g, 0, none⟩) (n + 1) cap) W' ∧ TS w W' (some ⟨g, 0, none⟩) (n + 1) cap (L ++ [⟨k, s, z, a⟩]) :=
  ts_append (h.later ((Below.refl _ _).alloc (Nat.le_refl _) _)) [⟨k, s, z, a⟩] 1 1 ⟨W.heap.size, 0, none⟩ rfl (by decide) (news_at W #[.int .i64 k, .string (strOf s), .int .i64 z, .int .i64 a] 73) (by omega)
theorem ts_row {w W W2 : World} {p : Option Addr} {n c : Nat} {L M : List Tk} {u : Value} (h : TS w W p n c L) (hu : TR W W2 u M) (hm : 0 < M.length) (hb : n + M.length ≤ 10000000) :
    ∃ g o c2 cap W' m g', u = .slice (some ⟨g, o, none⟩) m c2 ∧ (Builtin.append_ #[25, 25] 25 #[.slice p n c, .slice (some ⟨g, o, none⟩) m c2]).run Tryz.prog W2 = .ok (.slice (some ⟨g', 0, none⟩) (n + m) cap) W' ∧ TS w W' (some ⟨g', 0, none⟩) (n + m) cap (L ++ M) := by
  obtain ⟨g, o, c2, hv, hnew⟩ := tr_news hu hm; obtain ⟨g', cap, W', hr, ht⟩ := ts_append (h.later hu.below) M M.length c2 ⟨g, o, none⟩ rfl hm hnew hb; exact ⟨g, o, c2, cap, W', _, g', hv, hr, ht⟩
theorem tr_from {w w1 w' : World} {u : Value} {o : List Tk} (h : TR w1 w' u o) (hb : Below w.heap.size w w1) : TR w w' u o :=
  ⟨⟨h.row.1, h.row.2.imp id (fun ⟨g, cap, cur, e, hbg, r⟩ => ⟨g, cap, cur, e, Nat.le_trans hb.size hbg, r⟩)⟩, chain2 hb h.below⟩
theorem prn_step {l l' : List Nd} {c : Cat} {o : List Tk} {a j : Nat} (h : Prn [.nd c] (l.drop (pos (kidsOf l) a j)) o l') : l' = l.drop (pos (kidsOf l) a (j + 1)) := by
  obtain ⟨n, h1, h2⟩ := h.ends; change endW 1 _ = some n at h1; rw [show kidsOf (l.drop (pos (kidsOf l) a j)) = (kidsOf l).drop (pos (kidsOf l) a j) by simp [kidsOf, List.map_drop]] at h1; rw [h2, List.drop_drop, pos_succ]; unfold sz; rw [h1]; rfl
theorem pos_ge (ks : List Int) (a : Nat) : ∀ j, a ≤ pos ks a j
  | 0 => Nat.le_refl _
  | j + 1 => Nat.le_trans (pos_ge ks a j) (Nat.le_add_right _ _)
theorem drop_less {l : List Nd} {a b N : Nat} (h : a ≤ b) (hl : (l.drop a).length < N) : (l.drop b).length < N := by
  rw [List.length_drop] at hl ⊢; omega
def PosI (l : List Nd) (a b n : Nat) : List Int := (List.range n).map fun i => ((pos (kidsOf l) a (b + i) : Nat) : Int)
theorem posI_len (l : List Nd) (a b n : Nat) : (PosI l a b n).length = n := by simp [PosI]
theorem posI_at {l : List Nd} {a b n i : Nat} (h : i < (PosI l a b n).length) : (PosI l a b n)[i] = ((pos (kidsOf l) a (b + i) : Nat) : Int) := by simp [PosI]
def remT (c : Cat) (n i : Nat) : List PSy := if i = 0 then (match n with
  | 0 => [sg [41]]
  | m + 1 => .nd c :: (sepX c m ++ [sg [41]])) else sepX c (n - i) ++ [sg [41]]
theorem of_one (q : List UInt8) (k : Int) (hq : q.length ≤ 2 ^ 40) (hk : (ofT q).kind = k) (w : World) :
    Calls Tryz.prog 69 #[.string (strOf q)] w fun e w' => e = .returned (.agg #[.int .i64 k, .string (strOf q), .int .i64 0, .int .i64 0]) ∧ Below w.heap.size w w' := by
  subst hk; exact of_any q hq w
theorem row_any {l : List Nd} {v : Value} {w0 : World} {N : Nat} (hN : NodR l v w0 N) (a b n : Nat) (c : Cat) (kv : Value) (o : List Tk) (l' : List Nd) (w : World) (hk : Ins w kv (PosI l a b n)) (hp : Prn (lstX c n) (l.drop (pos (kidsOf l) a b)) o l') (hl : (l.drop a).length < N) (hw : Below w0.heap.size w0 w) (ho : o.length ≤ 1000000) (hn6 : n ≤ 1000000) :
    Calls Tryz.prog 108 #[v, kv] w fun e w' => ∃ u, e = .returned u ∧ TR w w' u o := by
  have HN := hid hN; have HW := hid hw; have HL := hid hl; have HK := hid hk; obtain ⟨p, c1, rfl, -, -⟩ := hk; rw [posI_len] at HK ⊢
  have hopen : ∃ o', o = sgn [40] :: o' ∧ Prn (remT c n 0) (l.drop (pos (kidsOf l) a (b + 0))) o' l' := by
    cases n with
    | zero => exact (show Prn (sg [40] :: [sg [41]]) _ o l' from hp).tok_inv
    | succ m => exact (show Prn (sg [40] :: (.nd c :: (sepX c m ++ [sg [41]]))) _ o l' from hp).tok_inv
  obtain ⟨o', he, hp0⟩ := hopen; have HP0 := hid hp0; have HO := hid he; have HLO := hid ho; have A1 : Hid (Calls Tryz.prog 107 #[.slice (some ⟨w.heap.size, 0, none⟩) 1 1] (w.alloc (.cells #[.string ⟨#[40]⟩] 9)) fun e w' => ∃ u, e = .returned u ∧ TR w w' u [sgn [40]]) := hid ((all_any [[40]] _ _ (Strs.lit w [[40]] 9 1 rfl) (by decide) (by decide)).mono fun e w' ⟨u, h1, h2, _⟩ => ⟨u, h1, tr_from h2 ((Below.refl _ _).alloc (Nat.le_refl _) _)⟩); have OC := hid (fun W => of_one [44] 4 (by decide) (by decide) W); have OE := hid (fun W => of_one [41] 4 (by decide) (by decide) W); clear hp hp0 he hl hw hN ho; go_enter Tryz.func108, Tryz.ntmps108
  go_wp2_with fail
  refine A1.out.mono ?_; rintro e w1 ⟨u1, rfl, hr1⟩; have HR1 := hid hr1; clear hr1 A1; go_wp2; go_loopw [5, 6] (fun v5 vi wr => ∃ (i : Nat) (ta oi : List Tk), i ≤ n ∧ vi = .int .i64 (i : Int) ∧ Hid (TR w wr v5 ta) ∧ Hid (Prn (remT c n i) (l.drop (pos (kidsOf l) a (b + i))) oi l') ∧ Hid (o = ta ++ oi)) (fun _ vi _ => n - (intOf vi).toNat)
  case atStart => exact ⟨0, [sgn [40]], o', Nat.zero_le _, rfl, HR1, HP0, HO⟩
  case round =>
    clear HR1 HP0 HO; obtain ⟨i, ta, oi, hi, rfl, HT, HP, HEQ⟩ := hrel; have HBL : Hid (ta.length + oi.length ≤ 1000000) := hid (by have h1 := HLO.out; rw [HEQ.out, List.length_append] at h1; exact h1)
    obtain ⟨p5, n5, c5, hv5, hts⟩ := tr_ts HT.out; subst hv5; have HTS := hid hts; clear hts; by_cases hlt : i < n
    · obtain ⟨g1, o1x, hp1, hg1, hcw⟩ := HK.out.int i (by rw [posI_len]; exact hlt)
      rw [posI_at] at hcw; subst hp1; have hc1 := (World.cell?_of_block (a := ⟨g1, o1x + i, none⟩) (HT.out.below.block g1 hg1)).trans hcw; have HCW := hid hcw; clear hcw; have z0 : (0 : Int) ≤ (i : Int) := by omega
      have z1 : (i : Int) < (n : Int) := by omega
      by_cases h0 : i = 0
      · have z2 : ¬(i : Int) > 0 := by omega
        have hq := HP.out; rw [show remT c n i = .nd c :: (sepX c (n - 1) ++ [sg [41]]) by unfold remT; rw [if_pos h0]; obtain ⟨m, rfl⟩ : ∃ m, n = m + 1 := ⟨n - 1, by omega⟩; rfl] at hq
        obtain ⟨o1, o2, l1, he, hq1, hq2⟩ := hq.nd_cons; have HE := hid he; have HL1 := hid (prn_step hq1); have HPOS := hid (prn_pos1 _ (Nat.lt_succ_self _) hq1); have HQ1 := hid hq1; have HQ2 : Hid (Prn (remT c n (i + 1)) (l.drop (pos (kidsOf l) a (b + (i + 1)))) o2 l') := hid (by unfold remT; rw [if_neg (by omega), h0]; have := hq2; rw [prn_step hq1, h0] at this; exact this)
        have HBND : Hid (n5 + o1.length ≤ 10000000) := hid (by have h1 := HBL.out; have h2 := HTS.out.len; rw [he, List.length_append] at h1; omega)
        have HEQ2 : Hid (o = (ta ++ o1) ++ o2) := hid (by rw [HEQ.out, he, List.append_assoc]); have HBwr := hid HT.out.below; clear hq he hq1 hq2 h0 hlt HP HEQ; have X := hid (HN.out _ c o1 l1 wr (drop_less (pos_ge _ _ _) HL.out) HQ1.out (chain2 HW.out HBwr.out)); go_wp2_with fail
        refine X.out.mono ?_; rintro e w5 ⟨u5, rfl, hu5⟩; obtain ⟨g6, o6, c6, cap6, w6, m6, g7, hv6, hr6, HT6⟩ := ts_row HTS.out hu5 HPOS.out HBND.out; subst hv6; have HT7 := hid HT6; clear hu5 HT6 X HTS; go_wp2_with (at_builtin; refine Lib.wpList_append_run _ rfl _ _ _ _ rfl _ _ rfl rfl _ _ hr6 ?_)
        clear hr6; go_roundw
        case rel => exact ⟨i + 1, ta ++ o1, o2, by omega, by go_num, hid HT7.out.tr, HQ2, HEQ2⟩
        case measure => simp [intOf]; omega
      · have z2 : (i : Int) > 0 := by omega
        have hq := HP.out; rw [show remT c n i = sg [44] :: .nd c :: (sepX c (n - (i + 1)) ++ [sg [41]]) by unfold remT; rw [if_neg h0, show n - i = (n - (i + 1)) + 1 by omega]; rfl] at hq
        obtain ⟨o0, he0, hq⟩ := hq.tok_inv; obtain ⟨o1, o2, l1, he, hq1, hq2⟩ := hq.nd_cons; have HL1 := hid (prn_step hq1); have HPOS := hid (prn_pos1 _ (Nat.lt_succ_self _) hq1); have HQ1 := hid hq1; have HQ2 : Hid (Prn (remT c n (i + 1)) (l.drop (pos (kidsOf l) a (b + (i + 1)))) o2 l') := hid (by unfold remT; rw [if_neg (by omega)]; have := hq2; rw [prn_step hq1] at this; exact this)
        have HBND5 : Hid (n5 ≤ 9000000) := hid (by have h1 := HBL.out; have h2 := HTS.out.len; omega)
        have HBND : Hid (n5 + 1 + o1.length ≤ 10000000) := hid (by have h1 := HBL.out; have h2 := HTS.out.len; rw [he0, he, List.length_cons, List.length_append] at h1; omega)
        have HEQ2 : Hid (o = (ta ++ [sgn [44]] ++ o1) ++ o2) := hid (by rw [HEQ.out, he0, he]; simp)
        clear hq he0 he hq1 hq2 h0 hlt HP HEQ; go_wp2_with fail
        refine (OC.out _).mono ?_; rintro e w3 ⟨rfl, hb3⟩; obtain ⟨g4, cap4, w4, hr4, HT4⟩ := ts_one (HTS.out.later hb3) 4 0 0 [44] HBND5.out; have HTX := hid HT4; have hc4 := (World.cell?_of_block (a := ⟨g1, o1x + i, none⟩) (HT4.below.block g1 hg1)).trans HCW.out; clear HTS hb3 HT4 HT hc1; have X := hid (HN.out _ c o1 l1 w4 (drop_less (pos_ge _ _ _) HL.out) HQ1.out (chain2 HW.out HTX.out.below)); go_wp2_with (at_builtin; refine Lib.wpList_append_run _ rfl _ _ _ _ rfl _ _ rfl rfl _ _ hr4 ?_)
        clear hr4; refine X.out.mono ?_; rintro e w5 ⟨u5, rfl, hu5⟩; obtain ⟨g6, o6, c6, cap6, w6, m6, g7, hv6, hr6, HT6⟩ := ts_row HTX.out hu5 HPOS.out HBND.out; subst hv6; have HT7 := hid HT6; clear hu5 HT6 X HTX; go_wp2_with (at_builtin; refine Lib.wpList_append_run _ rfl _ _ _ _ rfl _ _ rfl rfl _ _ hr6 ?_)
        clear hr6; go_roundw
        case rel => exact ⟨i + 1, _, o2, by omega, by go_num, hid HT7.out.tr, HQ2, HEQ2⟩
        case measure => simp [intOf]; omega
    · have hin : i = n := by omega
      have z2 : ¬(i : Int) < (n : Int) := by omega
      have hq := HP.out
      rw [show remT c n i = [sg [41]] by
        unfold remT; by_cases h0 : i = 0
        · rw [if_pos h0, ← hin, h0]
        · rw [if_neg h0, hin, Nat.sub_self]; rfl] at hq
      obtain ⟨o0, he0, hq⟩ := hq.tok_inv; cases hq
      have HBND5 : Hid (n5 ≤ 9000000) := hid (by have h1 := HBL.out; have h2 := HTS.out.len; omega)
      have HE := hid he0; clear hin hlt hi he0 HP; go_wp2_with fail
      refine (OE.out _).mono ?_; rintro e w3 ⟨rfl, hb3⟩; obtain ⟨g4, cap4, w4, hr4, HT4⟩ := ts_one (HTS.out.later hb3) 4 0 0 [41] HBND5.out; have HTX := hid HT4; clear HTS hb3 HT4 HT; go_wp2_with (at_builtin; refine Lib.wpList_append_run _ rfl _ _ _ _ rfl _ _ rfl rfl _ _ hr4 ?_)
      clear hr4; go_ret; exact ⟨_, rfl, by rw [HEQ.out, HE.out]; exact HTX.out.tr⟩
end Go.Proofs.YtmljjpdodcpohaaGreatDoor.Sw

