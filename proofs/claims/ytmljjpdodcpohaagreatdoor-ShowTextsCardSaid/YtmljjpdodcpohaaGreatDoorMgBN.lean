/- preorder, and the walk of Tree; All of the printer's readers together; the walks of module and collect; The walks of show's Tokens and Text. No condition but those that each states. -/
import Derived.Test.YtmljjpdodcpohaaGreatDoorMgBM
import Derived.Test.YtmljjpdodcpohaaGreatDoorMgBH
import Derived.Test.YtmljjpdodcpohaaGreatDoorMgAO
import Derived.Test.YtmljjpdodcpohaaGreatDoorMgAJ
import Derived.Test.YtmljjpdodcpohaaGreatDoorMgBL
namespace Go.Proofs.YtmljjpdodcpohaaGreatDoor.Pa
open Lib (hid)
open Go.RowKit Go.Shelf Dk Lx Tr
theorem preorder_any (b0 p0 : Nat) (T : List Nd) (w : World) (hT : T.length ≤ 1000000) (hb0 : b0 ≤ w.heap.size) (hb : Br w (fun k => k < b0) p0 T) :
    Calls Tryz.prog 87 #[ptr p0] w fun e w' => ∃ v, e = .returned v ∧ w'.ownsRow w.heap.size 58 5 v T.length (ncells T) ∧ Only (fun k => b0 ≤ k) w w' :=
  (callsIn_wide (n := 3)).1 (preorder_in Fence.wide 3 trivial trivial trivial rfl (by omega) b0 p0 T w hT hb0 hb)
def ToksW (W : World) (v : Value) (ts : List Tk) : Prop := ∃ p c, v = .slice p ts.length c ∧ ts.length ≤ c ∧ (ts = [] ∨ ∃ r o, p = some ⟨r, o, none⟩ ∧ r < W.heap.size ∧ W.rangeAt r o (tcells ts))
theorem lies_new (W : World) (Z : Array Value) (u : TypeId) : (W.alloc (.cells Z u)).rangeAt W.heap.size 0 Z.toList ∧ (W.alloc (.cells Z u)).there W.heap.size 0 Z.size := by
  refine ⟨fun j x hx => ?_, fun j hj => ?_⟩
  · rw [Nat.zero_add, cell_of_row _ _ _ Z u (0, 0) (heap_alloc_new W _), ← Array.getElem?_toList]
    exact hx
  · rw [Nat.zero_add]
    refine ⟨?_, frozen_of_row _ _ _ Z u (heap_alloc_new W _)⟩; rw [cell_of_row _ _ _ Z u (0, 0) (heap_alloc_new W _), Array.getElem?_eq_getElem hj]; rfl
theorem br_fit {W : World} {X : Nat → Prop} {b : Nat} {t : List Nd} (h : Br W X b t) : ∀ x ∈ t, x.kids ≤ (t.length : Int) := by
  induction h with
  | mk b x k v cs hcs ht hb hX hr hs ih =>
    intro y hy; simp only [join, List.mem_cons, List.mem_flatten, List.mem_map] at hy; rcases hy with rfl | ⟨l, ⟨c, hc, rfl⟩, hy⟩
    · have := kids_few cs (fun c hc => br_pos (hs c hc))
      simp only [join, List.length_cons, List.length_map]; omega
    · have h1 := ih c hc y hy
      have h2 : c.2.length ≤ ((cs.map (·.2)).flatten).length := List.Sublist.length_le (List.sublist_flatten_of_mem (List.mem_map_of_mem hc)); simp only [join, List.length_cons]; omega
theorem own_nds {w : World} {base : Nat} {v : Value} {l : List Nd} (h : w.ownsRow base 58 5 v l.length (ncells l)) (hf : Fit l) : Nds w v l := by
  rcases h.2 with ⟨hv, h0⟩ | ⟨g, cap, cur, hv, hbg, hg, h3, h4, h5, h6⟩
  · exact ⟨none, 0, by rw [hv, h0], by omega, hf, .inl (List.eq_nil_of_length_eq_zero h0)⟩
  · rw [hv] at h
    exact ⟨_, cap, hv, h3, hf, .inr ⟨g, 0, rfl, (Array.getElem?_eq_some_iff.1 hg).1, ownsRow_range h⟩⟩
def TreeOk (L : List Tk) (w : World) (e : Ending) (w' : World) (t : List Nd) : St → Prop
  | .bad k => e = .returned (.tuple #[.slice none 0 0, .int .i64 10, .int .i64 (offK L k)])
  | .ok _ => if (checkL t).1 = 0 then ∃ v, e = .returned (.tuple #[v, .int .i64 0, .int .i64 0]) ∧ w'.ownsRow w.heap.size 58 5 v t.length (ncells t) ∧ Fit t
      else e = .returned (.tuple #[.slice none 0 0, .int .i64 (checkL t).1, .int .i64 0])
set_option maxRecDepth 100000 in
theorem tree_any (L : List Tk) (v : Value) (w : World) (h : ToksW w v L) (hL : L.length ≤ 1000000) (hp : Places L) (hS : TkS 9000 L) :
    Calls Tryz.prog 47 #[v] w fun e w' => ∃ t s', ModRun L t s' ∧ Below w.heap.size w w' ∧ TreeOk L w e w' t s' := by
  obtain ⟨p, c, rfl, hc, hx⟩ := h; have hl := lies_new w #[.slice p L.length c, .int .i64 0, .bool false, .int .i64 0] 127
  have hps : PS L w.heap.size (.slice p L.length c) (w.alloc (.cells #[.slice p L.length c, .int .i64 0, .bool false, .int .i64 0] 127)) (.ok 0) := by
    refine ⟨hl.1, hl.2, by simp, ⟨p, c, rfl, hc, hx.imp id ?_⟩, Nat.zero_le _, by omega, hp⟩; rintro ⟨r, o, hp', hr, hq⟩; exact ⟨r, o, hp', by simp; omega, by omega, rangeAt_block hq (Below.heap_alloc w _ r hr)⟩
  have HM := hid (module_rd L w.heap.size _ _ hps); clear hps hl hx; go_enter Tryz.func47, Tryz.ntmps47
  go_wp2_with (go_at_call 86; refine HM.out.mono ?_; rintro e w1 ⟨b, t, s', ⟨rfl, hps, hon, hsb, hrun⟩⟩; obtain ⟨q0, q1, q2, q3⟩ := hps.at)
  · have hb : isBad s' = true := by assumption
    have hB1 : Below w.heap.size w w1.drew := hon.drew.below ((Below.refl _ w).alloc (Nat.le_refl _) _) (fun i e => by omega) (Nat.le_refl _); cases s' with
    | ok i => cases hb
    | bad k =>
      have HR := hid hrun; have HB := hid hB1; clear hrun hB1; simp only [isBad, foff] at *; go_wp2_with go_region
      go_ret3; exact ⟨t, .bad k, HR.out, HB.out, rfl⟩
  · have hb : isBad s' = false := by first | assumption | (simpa using (by assumption : ¬isBad s' = true))
    cases s' with
    | bad k => cases hb
    | ok i =>
      have hlen : t.length ≤ L.length := mod_few hrun; have htok : Tok 9000 t := mod_tok hS hrun; have hbr : Br w1 (fun k => k < w.heap.size + 1) b t := by simpa using (show Br w1 _ b t from hsb)
      have hs1 : w.heap.size + 1 ≤ w1.heap.size := by have := hon.size; simpa using this
      have HPr := hid (preorder_any (w.heap.size + 1) b t w1 (by omega) hs1 hbr); have hfit : Fit t := fun x hx => by have := br_fit hbr x hx; omega
      have HCh : ∀ (v : Value) (w2 : World), w2.ownsRow w1.heap.size 58 5 v t.length (ncells t) → Calls Tryz.prog 27 #[v] w2 fun e w' => e = .returned (.tuple #[.int .i64 (checkL t).1, .int .i64 (checkL t).2]) ∧ Below w2.heap.size w2 w' := fun v w2 h => check_any t v w2 (own_nds h hfit) (by omega) (fun x hx => (htok.nodes x hx).2)
      have HCH := hid HCh; clear HCh
      go_wp2_with (first
        | (go_at_call 87; refine HPr.out.mono ?_; rintro e w2 ⟨v2, rfl, hrow2, hon2⟩)
        | (go_at_call 27; refine (HCH.out _ _ (by assumption)).mono ?_; rintro e w3 ⟨rfl, hb3⟩))
      all_goals have hB1 : Below w.heap.size w w1 := hon.below ((Below.refl _ w).alloc (Nat.le_refl _) _) (fun i e => by omega) (Nat.le_refl _)
      all_goals have hB2 : Below w.heap.size w w2 := hon2.below hB1 (fun i e => by omega) (Nat.le_refl _)
      all_goals have hB3 : Below w.heap.size w w3 := chain2 hB2 hb3
      · go_ret3
        refine ⟨t, .ok i, hrun, hB3, ?_⟩; show if (checkL t).1 = 0 then _ else _
        rw [if_neg (by first | assumption | simp_all)]; rfl
      · go_ret3
        refine ⟨t, .ok i, hrun, hB3, ?_⟩; show if (checkL t).1 = 0 then _ else _
        rw [if_pos (by first | assumption | simp_all)]; refine ⟨v2, rfl, ?_⟩; have h3 := ownsRow_block hrow2 (fun q hq => hb3.block q (Tr.own_lo hrow2 q hq).2); exact ⟨⟨h3.1, h3.2.imp id (fun ⟨g, cap, cur, e, hb, r⟩ => ⟨g, cap, cur, e, by omega, r⟩)⟩, hfit⟩
end Go.Proofs.YtmljjpdodcpohaaGreatDoor.Pa

namespace Go.Proofs.YtmljjpdodcpohaaGreatDoor.Sw
open Lib (hid)
set_option maxRecDepth 100000
set_option maxHeartbeats 4000000
open Go.RowKit Dk Lx Tr Pa
structure AllP (w0 : World) (g h B N : Nat) : Prop where
  ex : Prt w0 g h B 50 #[ptr g] [.nd .ex] N
  st : Prt w0 g h B 186 #[ptr g] [.nd .st] N
  bl : Prt w0 g h B 155 #[ptr g] [.nd .blk] N
theorem all_prt {w0 : World} {g h B : Nat} (HT : HasT w0) : ∀ N, N ≤ 100000 → AllP w0 g h B N
  | 0, _ => ⟨(fun W l l' ts o hl => absurd hl (Nat.not_lt_zero _)), (fun W l l' ts o hl => absurd hl (Nat.not_lt_zero _)), (fun W l l' ts o hl => absurd hl (Nat.not_lt_zero _))⟩
  | N + 1, hN => by
    refine ⟨?_, ?_, block_prt (all_prt HT N (by omega)).st (by omega)⟩
    · intro W l l' ts o hl hp hn hf p
      obtain ⟨x, r, rfl, hc, hk, hfx, h1⟩ := hp.nd_inv; clear hp; have hr : r.length < N := by rw [List.length_cons] at hl; omega
      have hnr : FitN r := fun y hy => hn y (List.mem_cons_of_mem _ hy)
      obtain ⟨k, d, q, z, s⟩ := x; have hz : -9223372036854775808 ≤ z ∧ z < 9223372036854775808 := hn _ (List.mem_cons_self ..)
      have hkk : k = 18 ∨ k = 19 ∨ k = 20 ∨ k = 21 ∨ k = 22 ∨ k = 23 ∨ k = 24 ∨ k = 25 ∨ k = 26 ∨ k = 27 ∨ k = 28 ∨ k = 29 ∨ k = 30 := by
        have h' := hc; unfold catP isExpr at h'; simp at h'; omega
      rcases hkk with rfl | rfl | rfl | rfl | rfl | rfl | rfl | rfl | rfl | rfl | rfl | rfl | rfl
      · change d = 0 at hk; subst hk; exact expr_18 q z s hr (show Prn [sg [110, 105, 108]] r o l' from h1) hnr hf p
      · change d = 0 at hk; subst hk; exact expr_19 q z s HT hz hr (show Prn [it z] r o l' from h1) hnr hf p
      · change d = 0 at hk; subst hk; exact expr_20 q z s hr (show Prn [.tok (txT s)] r o l' from h1) hnr hf p
      · change d = 0 at hk; subst hk; exact expr_21 q z s hr (show Prn [nm q] r o l' from h1) hnr hf p
      · change Prn (.nd .ex :: lstX .ex (d.toNat - 1)) r o l' at h1
        change d = ((((cats (lstX .ex (d.toNat - 1))).length + 1 : Nat)) : Int) at hk; have hls := h1.less; change l'.length + ((cats (lstX .ex (d.toNat - 1))).length + 1) ≤ r.length at hls; rw [cats_lst, List.length_replicate] at hk hls; obtain ⟨n, hn1⟩ : ∃ n, n = d.toNat - 1 := ⟨_, rfl⟩; rw [← hn1] at hk hls h1; subst hk; exact expr_22 q z s (all_prt HT N (by omega)).ex n (by omega) hr h1 hnr hf p
      · change Prn ([nm q, sg [46], nm s] ++ lstX .ex d.toNat) r o l' at h1
        change d = (((cats ([nm q, sg [46], nm s] ++ lstX .ex d.toNat)).length : Nat) : Int) at hk; have hls := h1.less; rw [cats_app, cats_lst, List.length_append, List.length_replicate] at hk hls; obtain ⟨n, hn1⟩ : ∃ n, n = d.toNat := ⟨_, rfl⟩; rw [← hn1] at hk hls h1; have hk2 : d = (n : Int) := by have : (cats [nm q, sg [46], nm s]).length = 0 := rfl; omega
        subst hk2; exact expr_23 q z s (all_prt HT N (by omega)).ex n (by omega) hr h1 hnr hf p
      · change Prn (sg [102, 110] :: fnX d.toNat) r o l' at h1
        change d = (((cats (fnX d.toNat)).length : Nat) : Int) at hk; have hls := h1.less; change l'.length + (cats (fnX d.toNat)).length ≤ r.length at hls; rw [cats_fn, List.length_append, List.length_replicate] at hk hls; exact expr_24 q z s (all_prt HT N (by omega)).bl d (by simp at hk hls; omega) hr h1 hnr hf p
      · change d = 0 at hk; subst hk; exact expr_25 q z s hr (show Prn [sg [123], sg [125]] r o l' from h1) hnr hf p
      · change d = 2 at hk; subst hk; exact expr_26 q z s (all_prt HT N (by omega)).ex hr (show Prn [.nd .ex, sg [91], .nd .ex, sg [93]] r o l' from h1) hnr hf p
      · change d = 2 at hk; subst hk; exact expr_27 q z s (all_prt HT N (by omega)).ex hr (show Prn [sg [40], .nd .ex, sg s, .nd .ex, sg [41]] r o l' from h1) hnr hf p
      · change d = 1 at hk; subst hk; exact expr_28 q z s (all_prt HT N (by omega)).ex hr (show Prn [sg [40], sg s, .nd .ex, sg [41]] r o l' from h1) hnr hf p
      · change d = 0 at hk; subst hk; exact expr_29 q z s hr (show Prn [sg [115, 116, 97, 116, 101]] r o l' from h1) hnr hf p
      · change d = 1 at hk; subst hk; exact expr_30 q z s (all_prt HT N (by omega)).ex hr (show Prn [sg [40], sg [115, 112, 97, 119, 110], .nd .ex, sg [41]] r o l' from h1) hnr hf p
    · intro W l l' ts o hl hp hn hf p
      obtain ⟨x, r, rfl, hc, hk, hfx, h1⟩ := hp.nd_inv; clear hp; have hr : r.length < N := by rw [List.length_cons] at hl; omega
      have hnr : FitN r := fun y hy => hn y (List.mem_cons_of_mem _ hy)
      obtain ⟨k, d, q, z, s⟩ := x; have hz : -9223372036854775808 ≤ z ∧ z < 9223372036854775808 := hn _ (List.mem_cons_self ..)
      have hkk : k = 6 ∨ k = 7 ∨ k = 8 ∨ k = 9 ∨ k = 10 ∨ k = 11 ∨ k = 12 ∨ k = 13 ∨ k = 14 ∨ k = 15 ∨ k = 16 ∨ k = 17 := by
        have h' := hc; unfold catP isStmt at h'; simp at h'; omega
      rcases hkk with rfl | rfl | rfl | rfl | rfl | rfl | rfl | rfl | rfl | rfl | rfl | rfl
      · change d = 1 at hk; subst hk; exact stmt_6 (all_prt HT N (by omega)).ex q z s hr (show Prn [sg [108, 101, 116], nm q, sg [61], .nd .ex, sg [59]] r o l' from h1) hnr hf p
      · change d = 1 at hk; subst hk; exact stmt_7 (all_prt HT N (by omega)).ex q z s hr (show Prn [nm q, sg [61], .nd .ex, sg [59]] r o l' from h1) hnr hf p
      · change d = 3 at hk; subst hk; exact stmt_8 (all_prt HT N (by omega)).ex q z s hr (show Prn [.nd .ex, sg [91], .nd .ex, sg [93], sg [61], .nd .ex, sg [59]] r o l' from h1) hnr hf p
      · change Prn ([sg [105, 102], .nd .ex, .nd .blk] ++ (if 2 < d then [sg [101, 108, 115, 101], .nd .blk] else [])) r o l' at h1
        change d = (((cats ([sg [105, 102], .nd .ex, .nd .blk] ++ (if 2 < d then [sg [101, 108, 115, 101], .nd .blk] else []))).length : Nat) : Int) at hk; by_cases h2d : 2 < d
        · rw [if_pos h2d] at h1 hk
          change d = 3 at hk; subst hk; exact stmt_9_3 (all_prt HT N (by omega)).ex (all_prt HT N (by omega)).bl q z s hr h1 hnr hf p
        · rw [if_neg h2d] at h1 hk
          change d = 2 at hk; subst hk; exact stmt_9_2 (all_prt HT N (by omega)).ex (all_prt HT N (by omega)).bl q z s hr h1 hnr hf p
      · change d = 2 at hk; subst hk; exact stmt_10_2 (all_prt HT N (by omega)).ex (all_prt HT N (by omega)).bl q z s hr (show Prn [sg [119, 104, 105, 108, 101], .nd .ex, .nd .blk] r o l' from h1) hnr hf p
      · change d = 0 at hk; subst hk; exact stmt_11 (all_prt HT N (by omega)).ex q z s hr (show Prn [sg [98, 114, 101, 97, 107], sg [59]] r o l' from h1) hnr hf p
      · change d = 0 at hk; subst hk; exact stmt_12 (all_prt HT N (by omega)).ex q z s hr (show Prn [sg [99, 111, 110, 116, 105, 110, 117, 101], sg [59]] r o l' from h1) hnr hf p
      · change d = 1 at hk; subst hk; exact stmt_13 (all_prt HT N (by omega)).ex q z s hr (show Prn [sg [114, 101, 116, 117, 114, 110], .nd .ex, sg [59]] r o l' from h1) hnr hf p
      · change d = 1 at hk; subst hk; exact stmt_14 (all_prt HT N (by omega)).ex q z s hr (show Prn [sg [112, 117, 116], .nd .ex, sg [59]] r o l' from h1) hnr hf p
      · change d = 1 at hk; subst hk; exact stmt_15 (all_prt HT N (by omega)).ex q z s hr (show Prn [sg [101, 109, 105, 116], .nd .ex, sg [59]] r o l' from h1) hnr hf p
      · change d = 0 at hk; subst hk; exact stmt_16 (all_prt HT N (by omega)).ex q z s hr (show Prn [sg [121, 105, 101, 108, 100], sg [59]] r o l' from h1) hnr hf p
      · change d = 1 at hk; subst hk; exact stmt_17 (all_prt HT N (by omega)).ex q z s hr (show Prn [.nd .ex, sg [59]] r o l' from h1) hnr hf p
theorem part_prt {w0 : World} {g h B : Nat} (HT : HasT w0) (N : Nat) (hN : N ≤ 100000) : Prt w0 g h B 60 #[ptr g] [.nd .part] N := by
  intro W l l' ts o hl hp hn hf p; obtain ⟨x, r, rfl, hc, hk, hfx, h1⟩ := hp.nd_inv; clear hp; have hr : r.length < N := by rw [List.length_cons] at hl; omega
  have hnr : FitN r := fun y hy => hn y (List.mem_cons_of_mem _ hy)
  obtain ⟨k, d, q, z, s⟩ := x; have hz : -9223372036854775808 ≤ z ∧ z < 9223372036854775808 := hn _ (List.mem_cons_self ..)
  have hkk : k = 2 ∨ k = 3 := by
    have h' : (k == 2 || k == 3) = true := hc; rwa [Bool.or_eq_true, beq_iff_eq, beq_iff_eq] at h'
  rcases hkk with rfl | rfl
  · change d = 0 at hk; subst hk
    exact part_2 q z s HT hz hr (show Prn [sg [117, 115, 101], nm q, sg [46], nm s, sg [47], it z, sg [59]] r o l' from h1) hnr hf p
  · change Prn (sg [102, 110] :: nm q :: fnX d.toNat) r o l' at h1
    change d = (((cats (fnX d.toNat)).length : Nat) : Int) at hk; have hls := h1.less; change l'.length + (cats (fnX d.toNat)).length ≤ r.length at hls; rw [cats_fn, List.length_append, List.length_replicate] at hk hls; exact part_3 q z s (all_prt HT N hN).bl d (by simp at hk hls; omega) hr h1 hnr hf p
theorem module_prt {w0 : World} {g h B : Nat} (hT : HasT w0) {W : World} {l l' : List Nd} {ts o : List Tk} (hl : l.length < 100000) (hp : Prn [.nd .mod] l o l') (hn0 : FitN l) (hf : ts.length + o.length ≤ 99999990) (p : PW w0 g h B W l ts) : Calls Tryz.prog 29 #[ptr g] W fun e W' => PrOk w0 g h B W l' (ts ++ o) e W' := by
  have HPA := hid (part_prt (g := g) (h := h) (B := B) hT 100000 (Nat.le_refl _)); have HT := hid hT; obtain ⟨x, r, rfl, hc, hkx, hfx, hq0⟩ := hp.nd_inv; clear hp; have hlr : r.length < 100000 := by rw [List.length_cons] at hl; omega
  have hn : FitN r := fun y hy => hn0 y (List.mem_cons_of_mem _ hy)
  obtain ⟨k, d, q, z, s⟩ := x; have HZ := hid (hn0 _ (List.mem_cons_self ..)); obtain rfl : k = 1 := eq_of_beq (show (k == 1) = true from hc); change Prn ([sg [109, 111, 100, 117, 108, 101], nm q, it z, sg [59]] ++ List.replicate d.toNat (.nd .part)) r o l' at hq0; have hless := hq0.less; change d = (((cats ([sg [109, 111, 100, 117, 108, 101], nm q, it z, sg [59]] ++ List.replicate d.toNat (.nd .part))).length : Nat) : Int) at hkx; rw [cats_app, cats_rep, List.length_append, List.length_replicate] at hkx hless; have h00 : (cats [sg [109, 111, 100, 117, 108, 101], nm q, it z, sg [59]]).length = 0 := rfl; obtain ⟨n, rfl⟩ : ∃ n : Nat, d = (n : Int) := ⟨d.toNat, by omega⟩; rw [Int.toNat_natCast] at hq0 hless; have hn6 : n ≤ 1000000 := by omega
  obtain ⟨o1, rfl, hq1⟩ := Prn.tok_inv (A := nm q :: it z :: sg [59] :: List.replicate n (.nd .part)) hq0; obtain ⟨o2, rfl, hq2⟩ := hq1.tok_inv; obtain ⟨o3, rfl, hq3⟩ := hq2.tok_inv; obtain ⟨o', rfl, hq4⟩ := hq3.tok_inv; have HQ := hid hq4; have HLN := hid (And.intro hlr hn); clear hless hkx hq0 hq1 hq2 hq3 hq4 hc hfx h00; have P0 := hid p; have S0 := hid (Step.refl g h W); have HF := hid hf; have HB := hid p.hB; clear p hf hl hn hlr hn0 hT; have HI : Hid ((Tryz.prog.info? 58).map (·.size) = some [Value.int .i64 1, .int .i64 (n : Int), .string (strOf q), .int .i64 z, .string (strOf s)].length) := hid (n_info ⟨1, (n : Int), q, z, s⟩); have HIA : Hid ((Tryz.prog.info? 58).map (·.size) = some (Nd.cells ⟨1, (n : Int), q, z, s⟩).toArray.size) := hid (n_infoA _); have HLA : Hid ((Nd.cells ⟨1, (n : Int), q, z, s⟩).toArray.all (·.oneCell') = true) := hid (n_all _); go_enter Tryz.func29, Tryz.ntmps29
  have X := hid (next_any P0.out); go_wp2_with fail
  refine X.out.mono ?_; rintro e w1 ⟨rfl, hp', hs'⟩; have P1 := hid hp'; have S1 := hid (S0.out.trans hs'); clear hp' hs' P0 S0 X; simp only [Nd.cells]; have HZN := hid (nb_zero w1); have HPN := hid (nb_put w1 ⟨1, (n : Int), q, z, s⟩); have BN := hid (LB.start P1.out ⟨1, (n : Int), q, z, s⟩)
  go_upto_region 1 with (first
    | (refine wpList_store_mid rfl 58 (.tmp 2) (.tmp 4) rfl w1.heap.size 0 (Nd.cells ⟨1, (n : Int), q, z, s⟩).toArray rfl rfl HZN.out.room HIA.out HLA.out ?_; generalize World.setCells _ _ _ _ = w2 at HPN BN ⊢)
    | fail)
  have P2 := hid (P1.out.later HPN.out.2); have S2 := hid (S1.out.trans (P1.out.step HPN.out.2)); obtain ⟨b, hb⟩ : ∃ b, b = w1.heap.size := ⟨_, rfl⟩; rw [← hb] at BN ⊢; have B2 := hid BN.out; obtain ⟨c0, c1, c2, c3, c4⟩ := B2.out.nb.at; clear HZN HPN BN hb P1 S1; simp only at c0 c1 c2 c3 c4; have X := hid (signs1 [109, 111, 100, 117, 108, 101] P2.out (by have := HF.out; simp at this ⊢; omega))
  go_wp2_with fail
  refine X.out.mono ?_; rintro e w3 ⟨rfl, hp', hs'⟩; have P3 := hid hp'; have S3 := hid (S2.out.trans hs'); have B3 := hid (B2.out.step hs'); clear c0 c1 c2 c3 c4; obtain ⟨c0, c1, c2, c3, c4⟩ := B3.out.nb.at; clear hp' hs' P2 S2 B2 X; simp only at c0 c1 c2 c3 c4; have X := hid (pname_any q P3.out (by have := HF.out; simp at this ⊢; omega))
  go_wp2_with fail
  refine X.out.mono ?_; rintro e w4 ⟨rfl, hp', hs'⟩; have P4 := hid hp'; have S4 := hid (S3.out.trans hs'); have B4 := hid (B3.out.step hs'); clear c0 c1 c2 c3 c4; obtain ⟨c0, c1, c2, c3, c4⟩ := B4.out.nb.at; clear hp' hs' P3 S3 B3 X; simp only at c0 c1 c2 c3 c4; have X := hid (pnumber_any z HZ.out.1 HZ.out.2 HT.out P4.out (by have := HF.out; simp at this ⊢; omega))
  go_wp2_with fail
  refine X.out.mono ?_; rintro e w5 ⟨rfl, hp', hs'⟩; have P5 := hid hp'; have S5 := hid (S4.out.trans hs'); have B5 := hid (B4.out.step hs'); clear c0 c1 c2 c3 c4; obtain ⟨c0, c1, c2, c3, c4⟩ := B5.out.nb.at; clear hp' hs' P4 S4 B4 X; simp only at c0 c1 c2 c3 c4; have X := hid (signs1 [59] P5.out (by have := HF.out; simp at this ⊢; omega))
  go_wp2_with fail
  refine X.out.mono ?_; rintro e w6 ⟨rfl, hp', hs'⟩; have P6 := hid hp'; have S6 := hid (S5.out.trans hs'); have B6 := hid (B5.out.step hs'); clear c0 c1 c2 c3 c4; obtain ⟨c0, c1, c2, c3, c4⟩ := B6.out.nb.at; clear hp' hs' P5 S5 B5 X; simp only at c0 c1 c2 c3 c4; go_wp2; go_loopw [21] (fun vi wr => ∃ (i : Nat) (li : List Nd) (ti oi : List Tk), i ≤ n ∧ vi = .int .i64 (i : Int) ∧ Hid (PW w0 g h B wr li ti) ∧ Hid (Step g h W wr) ∧ Hid (Prn (List.replicate (n - i) (.nd .part)) li oi l') ∧ Hid (ts ++ sgn [109, 111, 100, 117, 108, 101] :: nmT q :: inT z :: sgn [59] :: o' = ti ++ oi) ∧ Hid (li.length < 100000 ∧ FitN li)) (fun vi _ => n - (intOf vi).toNat)
  case atStart => exact ⟨0, r, _, o', Nat.zero_le _, rfl, P6, S6, HQ, hid (by simp), HLN⟩
  case round =>
    clear P6 S6 HQ HLN B6 c0 c1 c2 c3 c4; obtain ⟨i, li, ti, oi, hi, rfl, P2, S2, HP2, HEQ, HLN⟩ := hrel; have HBD : Hid (ti.length + oi.length ≤ 99999990) := hid (by have h1 := HF.out; have h2 := congrArg List.length HEQ.out; simp only [List.length_append, List.length_cons] at h1 h2; omega)
    by_cases hlt : i < n
    · have z1 : (i : Int) < (n : Int) := by omega
      have hq := HP2.out; rw [show n - i = (n - (i + 1)) + 1 by omega, List.replicate_succ] at hq; obtain ⟨o1, o2, l1, he, hp1, hp2⟩ := hq.nd_cons; have HO := hid he; have X := hid (HPA.out _ _ _ ti _ HLN.out.1 hp1 HLN.out.2 (by have := HBD.out; rw [he, List.length_append] at this; omega) P2.out)
      have HP3 := hid hp2; have HL3 := hid (fit_len hp1 HLN.out.1 HLN.out.2); clear he hp1 hp2 hq; go_wp2_with fail
      refine X.out.mono ?_; rintro e w3 ⟨rfl, hp', hs'⟩; have P3 := hid hp'; have S3 := hid (S2.out.trans hs'); clear hp' hs' X; go_wp2; go_roundw
      case rel => exact ⟨i + 1, l1, _, o2, by omega, by go_num, P3, S3, HP3, hid (by rw [HEQ.out, HO.out, List.append_assoc]), HL3⟩
      case measure => simp [intOf]; omega
    · obtain rfl : i = n := by omega
      have hq := HP2.out; rw [Nat.sub_self] at hq; cases hq
      have HE : Hid (PW w0 g h B wr l' (ts ++ sgn [109, 111, 100, 117, 108, 101] :: nmT q :: inT z :: sgn [59] :: o')) := hid (by rw [HEQ.out, List.append_nil]; exact P2.out)
      clear hlt hi; go_wp2; refine bodyPost_end (results_none rfl _ _ _) rfl ?_; exact ⟨rfl, HE.out, S2.out⟩
theorem collect_any (l : List Nd) (o : List Tk) (v : Value) (w : World) (hv : Nds w v l) (hp : Prn [.nd .mod] l o []) (hn : FitN l) (hl : l.length ≤ 2000) (ho : o.length ≤ 20000) (HT : HasT w) :
    Calls Tryz.prog 28 #[v, .func (.func 29) #[] #[]] w fun e w' => ∃ u, e = .returned u ∧ TR w w' u o := by
  obtain ⟨p, c, hvv, -⟩ := id hv; subst hvv
  have HW : Hid (PW w (w.heap.size + 1) w.heap.size (w.heap.size + 2) ((w.alloc (.cells #[.slice none 0 0] 25)).alloc (.cells #[.slice p l.length c, addV w.heap.size] 102)) l []) := hid (by
    have hb1 : Below w.heap.size w (w.alloc (.cells #[.slice none 0 0] 25)) := (Below.refl _ _).alloc (Nat.le_refl _) _; have hs1 : (w.alloc (.cells #[.slice none 0 0] 25)).heap.size = w.heap.size + 1 := by simp
    have hb2 := (Below.refl (w.alloc (.cells #[.slice none 0 0] 25)).heap.size (w.alloc (.cells #[.slice none 0 0] 25))).alloc (Nat.le_refl _) (.cells #[.slice p l.length c, addV w.heap.size] 102); have r1 := lies_new w #[.slice none 0 0] 25; have r2 := lies_new (w.alloc (.cells #[.slice none 0 0] 25)) #[.slice p l.length c, addV w.heap.size] 102; rw [hs1] at r2
    refine ⟨chain2 hb1 hb2, ⟨by omega, by omega⟩, ⟨Nat.le_refl _, by omega⟩, by omega, by simp, ⟨_, r2.1, hv⟩, r2.2, ⟨.slice none 0 0, rangeAt_block r1.1 (hb2.block _ (by rw [hs1]; omega)), World.ownsRow_nil _ _ _ _⟩, there_block r1.2 (hb2.block _ (by rw [hs1]; omega)), Nat.zero_le _⟩)
  have HM := hid (module_prt HT (by omega) hp hn (by simp; omega) HW.out)
  unfold addV at HM; have HV := hid hv; clear hv hp hn hl HT; generalize l.length = n at *; go_enter Tryz.func28, Tryz.ntmps28
  go_wp2_with fail
  refine HM.out.mono ?_; rintro e w3 ⟨rfl, hp', hs'⟩; obtain ⟨u, hu, hrow⟩ := hp'.tk; have hcu : w3.cell? ⟨w.heap.size, 0, none⟩ = some u := hu 0 _ rfl
  have HR : Hid (TR w w3 u o) := hid (by
    rw [List.nil_append] at hrow
    exact ⟨⟨hrow.1, hrow.2.imp id (fun ⟨g, cap, cur, e, hb, r⟩ => ⟨g, cap, cur, e, by omega, r⟩)⟩, hp'.below⟩)
  clear hp' hs' hu hrow HM; go_wp2; go_ret; exact ⟨u, rfl, HR.out⟩
end Go.Proofs.YtmljjpdodcpohaaGreatDoor.Sw

namespace Go.Proofs.YtmljjpdodcpohaaGreatDoor.Sw
open Lib (hid)
set_option maxRecDepth 100000
open Go.RowKit Go.Shelf Dk Lx Tr Pa
theorem tokens_no (l : List Nd) (v : Value) (w : World) (hv : Nds w v l) (hs : Short l) (hl : l.length ≤ 1000000) (hc : (checkL l).1 ≠ 0) :
    Calls Tryz.prog 11 #[v] w fun e w' => e = .returned (.tuple #[.slice none 0 0, .int .i64 (checkL l).1, .int .i64 (checkL l).2]) ∧ Below w.heap.size w w' := by
  have HC := hid (check_any l v w hv hl hs); generalize hk : checkL l = r at *; obtain ⟨k, a⟩ := r; replace hc : ¬ k = 0 := hc; obtain ⟨p, c, rfl, -⟩ := hv; generalize l.length = n at *; clear hs hl hk; go_enter Tryz.func11, Tryz.ntmps11
  go_wp2_with (go_at_call 27; refine HC.out.mono ?_; rintro e w1 ⟨rfl, hb⟩; unfold pairV)
  go_ret3; exact ⟨rfl, hb⟩
theorem tr_base {w w1 w' : World} {u : Value} {o : List Tk} (h : TR w1 w' u o) (hb : Below w.heap.size w w1) : TR w w' u o :=
  ⟨⟨h.row.1, h.row.2.imp id (fun ⟨g, cap, cur, e, hbg, r⟩ => ⟨g, cap, cur, e, Nat.le_trans hb.size hbg, r⟩)⟩, chain2 hb h.below⟩
theorem tokens_yes (l : List Nd) (o : List Tk) (v : Value) (w : World) (hv : Nds w v l) (hs : Short l) (hc : (checkL l).1 = 0) (hp : Prn [.nd .mod] l o []) (hn : FitN l) (HT : HasT w) :
    Calls Tryz.prog 11 #[v] w fun e w' => ∃ u, e = .returned (.tuple #[u, .int .i64 0, .int .i64 0]) ∧ TR w w' u o := by
  obtain ⟨h1, h2, -⟩ := check_ok hc; obtain ⟨-, ho, -, -⟩ := written_ok hp hn h1; have HC := hid (check_any l v w hv (by omega) hs); have HM : Hid (∀ W, Below w.heap.size w W → Calls Tryz.prog 28 #[v, .func (.func 29) #[] #[]] W fun e w' => ∃ u, e = .returned u ∧ TR W w' u o) := hid (fun W hb => collect_any l o v W (hv.later hb) hp hn h1 (by omega) (HT.later hb)); generalize hk : checkL l = r at *; obtain ⟨k, a⟩ := r; replace hc : k = 0 := hc; subst hc; obtain ⟨p, c, rfl, -⟩ := hv; generalize l.length = n at *; clear hs hk hp hn HT ho; go_enter Tryz.func11, Tryz.ntmps11
  go_wp2_with (first
    | (go_at_call 27; refine HC.out.mono ?_; rintro e w1 ⟨rfl, hb⟩; unfold pairV; clear HC)
    | (go_at_call 28; refine (HM.out _ hb).mono ?_; rintro e w2 ⟨u, rfl, hu⟩; clear HM))
  go_ret3; exact ⟨u, rfl, tr_base hu hb⟩
theorem text_no (l : List Nd) (v : Value) (w : World) (hv : Nds w v l) (hs : Short l) (hl : l.length ≤ 1000000) (hc : (checkL l).1 ≠ 0) :
    Calls Tryz.prog 13 #[v] w fun e w' => e = .returned (.tuple #[.string ⟨#[]⟩, .int .i64 (checkL l).1, .int .i64 (checkL l).2]) ∧ Below w.heap.size w w' := by
  have HC := hid (tokens_no l v w hv hs hl hc); generalize (checkL l).1 = k at *; generalize (checkL l).2 = a at *; obtain ⟨p, c, rfl, -⟩ := hv; generalize l.length = n at *; clear hs hl; go_enter Tryz.func13, Tryz.ntmps13
  go_wp2_with (go_at_call 11; refine HC.out.mono ?_; rintro e w1 ⟨rfl, hb⟩)
  go_ret3; exact ⟨rfl, hb⟩
theorem text_yes (l : List Nd) (o : List Tk) (v : Value) (w : World) (hv : Nds w v l) (hs : Short l) (hc : (checkL l).1 = 0) (hp : Prn [.nd .mod] l o []) (hn : FitN l) (HT : HasT w) :
    Calls Tryz.prog 13 #[v] w fun e w' => e = .returned (if (writeL o).length ≤ 8192 then .tuple #[.string (strOf (writeL o)), .int .i64 0, .int .i64 0] else .tuple #[.string ⟨#[]⟩, .int .i64 3, .int .i64 0]) ∧ Below w.heap.size w w' := by
  obtain ⟨h1, h2, -⟩ := check_ok hc; obtain ⟨-, ho, hw, hj⟩ := written_ok hp hn h1; have HC := hid (tokens_yes l o v w hv hs hc hp hn HT); have HM := hid (fun (u : Value) (W : World) (h : Toks W u o) => Lx.text_any u o W h (by omega) (fun t ht => by have := hw t ht; have := text_le t; omega) (by omega))
  obtain ⟨p, c, rfl, -⟩ := hv; generalize l.length = n at *; have hz := strOf_size (writeL o); generalize hss : strOf (writeL o) = s at *; clear hs hp hn HT ho hc hw hj; by_cases hsz : (writeL o).length ≤ 8192
  · have hq : ¬(s.size : Int) > 8192 := by omega
    rw [if_pos hsz]; clear hsz hz hss; go_enter Tryz.func13, Tryz.ntmps13
    go_wp2_with (first
      | (go_at_call 11; refine HC.out.mono ?_; rintro e w1 ⟨u, rfl, hu⟩; clear HC)
      | (go_at_call 32; refine (HM.out u w1 hu.toks).mono ?_; rintro e w2 ⟨rfl, hb⟩; clear HM))
    go_ret3; exact ⟨rfl, chain2 hu.below hb⟩
  · have hq : (s.size : Int) > 8192 := by omega
    rw [if_neg hsz]; clear hsz hz hss; go_enter Tryz.func13, Tryz.ntmps13
    go_wp2_with (first
      | (go_at_call 11; refine HC.out.mono ?_; rintro e w1 ⟨u, rfl, hu⟩; clear HC)
      | (go_at_call 32; refine (HM.out u w1 hu.toks).mono ?_; rintro e w2 ⟨rfl, hb⟩; clear HM))
    go_ret3; exact ⟨rfl, chain2 hu.below hb⟩
end Go.Proofs.YtmljjpdodcpohaaGreatDoor.Sw

