/- What a scan's tokens are bounded by; the walk of Text; The machine at the two fixed texts of known; where a fault lies in a text; A tree written by a count of steps; the tokens that the law's fixed trees are written as; The walk of tree; The walks of show's moduleReturning, collect with expr, and Expr, of a tree that is right and of none; What Text answers of known's texts; The walk of chrysalislaw11. No condition but those that each states. -/
import Derived.Test.YtmljjpdodcpohaaGreatDoorMgBN
import Derived.Test.YtmljjpdodcpohaaGreatDoorMgAM
import Derived.Test.YtmljjpdodcpohaaGreatDoorMgAL
import Derived.Test.YtmljjpdodcpohaaGreatDoorMgAP
import Derived.Test.YtmljjpdodcpohaaGreatDoorMgAE
import Derived.Test.YtmljjpdodcpohaaGreatDoorMgBS
namespace Go.Proofs.YtmljjpdodcpohaaGreatDoor.Pa
open Lib (hid)
open Go.RowKit Go.Shelf Dk Lx Tr
theorem esc_long : ∀ (s : List UInt8), s.length ≤ (s.flatMap escL).length
  | [] => Nat.le_refl _
  | c :: s => by
    have h := esc_long s; have h1 : 1 ≤ (escL c).length := by unfold escL; split <;> (try split) <;> simp
    rw [List.flatMap_cons, List.length_append, List.length_cons]; omega
theorem scans_few {p : Nat} {l : List UInt8} {ts : List Tk} (h : Scans p l ts) : ts.length ≤ l.length ∧ ∀ t ∈ ts, t.text.length ≤ l.length ∧ (p : Int) ≤ t.place ∧ t.place + 1 ≤ (p : Int) + l.length := by
  induction h with
  | done p l hd => exact ⟨Nat.zero_le _, fun t ht => by cases ht⟩
  | more p l c r k t n len ts hd ho _ ih =>
    obtain ⟨h1, h2⟩ := oneL_len _ _ _ _ _ ho
    have hl : skipN false l + (c :: r).length = l.length := by
      have := congrArg List.length hd; rw [List.length_drop, List.length_cons] at this; rw [List.length_cons]; omega
    rw [List.length_drop] at ih; refine ⟨by rw [List.length_cons]; omega, fun u hu => ?_⟩
    rcases List.mem_cons.1 hu with rfl | hu
    · refine ⟨?_, by simp only; omega, by simp only; omega⟩
      rcases one_text ho with ⟨-, r', -, hq⟩ | ⟨-, ht, -⟩
      · have := esc_long t
        simp only [quoteL, List.length_cons, List.length_append] at hq; simp only
        omega
      · rw [ht, List.length_take]
        omega
    · obtain ⟨a1, a2, a3⟩ := ih.2 u hu
      refine ⟨by omega, by omega, by omega⟩
structure TextOk (l : List UInt8) (w : World) (e : Ending) (w' : World) : Prop where
  yes : ∀ L, l.length ≤ 8192 → scanL 0 l = .toks L → ∃ t s', ModRun L t s' ∧ TreeOk L w e w' t s'
  bad : ∀ k a, l.length ≤ 8192 → scanL 0 l = .bad k a → e = .returned (.tuple #[.slice none 0 0, .int .i64 (k : Int), .int .i64 (a : Int)])
  big : ¬l.length ≤ 8192 → e = .returned (.tuple #[.slice none 0 0, .int .i64 3, .int .i64 0])
  below : Below w.heap.size w w'
theorem TreeOk.base {L : List Tk} {w w1 w' : World} {e : Ending} {t : List Nd} {s : St} (h : TreeOk L w1 e w' t s) (hw : w.heap.size ≤ w1.heap.size) : TreeOk L w e w' t s := by
  cases s with
  | bad k => exact h
  | ok i =>
    have h' : if (checkL t).1 = 0 then _ else _ := h
    show if (checkL t).1 = 0 then _ else _
    by_cases hc : (checkL t).1 = 0
    · rw [if_pos hc] at h' ⊢
      obtain ⟨v, he, hr, hf⟩ := h'; exact ⟨v, he, ⟨hr.1, hr.2.imp id (fun ⟨g, cap, cur, e, hb, r⟩ => ⟨g, cap, cur, e, by omega, r⟩)⟩, hf⟩
    · rw [if_neg hc] at h' ⊢
      exact h'
theorem TreeOk.form {L : List Tk} {w w' : World} {e : Ending} {t : List Nd} {s : St} (h : TreeOk L w e w' t s) : ∃ v a b, e = .returned (.tuple #[v, .int .i64 a, .int .i64 b]) := by
  cases s with
  | bad k => exact ⟨_, _, _, h⟩
  | ok i =>
    have h' : if (checkL t).1 = 0 then _ else _ := h
    by_cases hc : (checkL t).1 = 0
    · rw [if_pos hc] at h'
      obtain ⟨v, he, hr⟩ := h'; exact ⟨_, _, _, he⟩
    · rw [if_neg hc] at h'
      exact ⟨_, _, _, h'⟩
theorem toks_any {L : List Tk} {l : List UInt8} (h : scanL 0 l = .toks L) (hl : l.length ≤ 8192) : L.length ≤ 1000000 ∧ Places L ∧ TkS 9000 L := by
  obtain ⟨h1, h2⟩ := scans_few (scans_iff.1 h); refine ⟨by omega, fun t ht => ?_, fun t ht => ?_⟩
  · obtain ⟨-, a, b⟩ := h2 t ht
    constructor <;> omega
  · have := (h2 t ht).1
    omega
set_option maxRecDepth 100000 in
theorem text_any (s : ByteArray) (w : World) (HE : HasE w) : Calls Tryz.prog 25 #[.string s] w fun e w' => TextOk s.data.toList w e w' := by
  have HS := hid (scan_any s w HE); by_cases hl : s.data.toList.length ≤ 8192
  case neg =>
    have HL := hid hl; clear hl; go_enter Tryz.func25, Tryz.ntmps25
    go_wp2_with (go_at_call 46; refine HS.out.mono ?_; rintro e w1 ⟨-, -, hbig, hb⟩; obtain rfl := hbig HL.out)
    go_ret3; exact ⟨fun _ h => absurd h HL.out, fun _ _ h => absurd h HL.out, fun _ => rfl, hb⟩
  cases hsc : scanL 0 s.data.toList with
  | bad k a =>
    have hka := scan_bad_at _ 0 _ k a (Nat.lt_succ_self _) hsc; have HL := hid hl; have HC := hid hsc; have hk0 : ¬(k : Int) = 0 := by omega
    clear hl hsc hka; go_enter Tryz.func25, Tryz.ntmps25
    go_wp2_with (go_at_call 46; refine HS.out.mono ?_; rintro e w1 ⟨-, hbad, -, hb⟩; obtain rfl := hbad _ _ HL.out HC.out)
    go_ret3; exact ⟨fun _ _ h => (by rw [HC.out] at h; cases h), fun k' a' _ h => (by rw [HC.out] at h; cases h; rfl), fun h => absurd HL.out h, hb⟩
  | toks L =>
    obtain ⟨a1, a2, a3⟩ := toks_any hsc hl; have HT := hid (fun (v : Value) (w1 : World) (h : TR w w1 v L) => tree_any L v w1 h.toks a1 a2 a3); have HL := hid hl; have HC := hid hsc; clear hl hsc a1 a2 a3; go_enter Tryz.func25, Tryz.ntmps25
    go_wp2_with (first
      | (go_at_call 46; refine HS.out.mono ?_; rintro e w1 ⟨hyes, -, -, hb⟩; obtain ⟨v1, rfl, hv1⟩ := hyes _ HL.out HC.out; clear hyes)
      | (go_at_call 47; refine (HT.out _ _ hv1).mono ?_; rintro e w2 ⟨t, s', hrun, hb2, hok⟩; obtain ⟨v2, ea, eb, rfl⟩ := hok.form))
    go_ret3; exact ⟨fun _ _ h => (by rw [HC.out] at h; cases h; exact ⟨t, s', hrun, hok.base hb.size⟩), fun _ _ _ h => (by rw [HC.out] at h; cases h), fun h => absurd HL.out h, chain2 hb hb2⟩
end Go.Proofs.YtmljjpdodcpohaaGreatDoor.Pa

namespace Go.Proofs.YtmljjpdodcpohaaGreatDoor.Pa
open Go.RowKit Go.Shelf Dk Lx Tr
def knA : List UInt8 := [109, 111, 100, 117, 108, 101, 32, 109, 32, 49, 59, 32, 102, 110, 32, 102, 40, 97, 41, 32, 123, 32, 114, 101, 116, 117, 114, 110, 32, 97, 32, 43, 32, 49, 32, 42, 32, 50, 59, 32, 125]
def toksOf (l : List UInt8) : List Tk := match scanL 0 l with | .toks ts => ts | .bad _ _ => []
def treeAt (L : List Tk) (n : Nat) : List Nd := match iter L n (.run [.mod] [] 0) with | .fin [t] => t | _ => []
def isFin : Cfg → Bool | .fin [_] => true | _ => false
theorem knA_scan : scanL 0 knA = .toks (toksOf knA) := by decide +kernel
theorem knA_fin : isFin (iter (toksOf knA) 300 (.run [.mod] [] 0)) = true := by decide +kernel
theorem knA_to : To (toksOf knA) (.run [.mod] [] 0) (.fin [treeAt (toksOf knA) 300]) := by
  refine ⟨300, ?_⟩; have h := knA_fin; unfold treeAt; cases hc : iter (toksOf knA) 300 (.run [.mod] [] 0) with
  | run A V i => rw [hc] at h; cases h
  | bad k => rw [hc] at h; cases h
  | fin V =>
    rw [hc] at h; match V, h with
    | [t], _ => rfl
theorem run_one {L : List Tk} {t t' : List Nd} {s s' : St} (h : ModRun L t s) (h' : ModRun L t' s') : (∃ k, s = .bad k ∧ s' = .bad k) ∨ (∃ i j, s = .ok i ∧ s' = .ok j ∧ t = t') := by
  cases s with
  | bad k =>
    cases s' with
    | bad k' => have := To.one_end h h' rfl rfl; cases this; exact .inl ⟨_, rfl, rfl⟩
    | ok j => have := To.one_end h h' rfl rfl; cases this
  | ok i =>
    cases s' with
    | bad k' => have := To.one_end h h' rfl rfl; cases this
    | ok j => have := To.one_end h h' rfl rfl; cases this; exact .inr ⟨_, _, rfl, rfl, rfl⟩
theorem knA_is : (checkL (treeAt (toksOf knA) 300)).1 = 0 ∧ (treeAt (toksOf knA) 300).length = 10 := by decide +kernel
end Go.Proofs.YtmljjpdodcpohaaGreatDoor.Pa

namespace Go.Proofs.YtmljjpdodcpohaaGreatDoor.Sw
open Go.RowKit Go.Shelf Dk Lx Tr Pa
def prF : Nat → List PSy → List Nd → Option (List Tk × List Nd)
  | 0, _, _ => none
  | _ + 1, [], l => some ([], l)
  | f + 1, .tok t :: A, l => (prF f A l).map (fun p => (t :: p.1, p.2))
  | _ + 1, .nd _ :: _, [] => none
  | f + 1, .nd c :: A, x :: l => if catP c x.kind = true ∧ x.kids = ((cats (expX x)).length : Int) ∧ fieldsP x = true then prF f (expX x ++ A) l else none
theorem prF_sound : ∀ (f : Nat) (A : List PSy) (l : List Nd) (ts : List Tk) (l' : List Nd), prF f A l = some (ts, l') → Prn A l ts l'
  | 0, _, _, _, _, h => by cases h
  | _ + 1, [], l, ts, l', h => by
    simp only [prF, Option.some.injEq, Prod.mk.injEq] at h; obtain ⟨rfl, rfl⟩ := h; exact .nil _
  | f + 1, .tok t :: A, l, ts, l', h => by
    simp only [prF, Option.map_eq_some_iff] at h; obtain ⟨⟨a, b⟩, h1, h2⟩ := h; cases h2
    exact .tok t (prF_sound f A l _ _ h1)
  | _ + 1, .nd _ :: _, [], _, _, h => by cases h
  | f + 1, .nd c :: A, x :: l, ts, l', h => by
    simp only [prF] at h; split at h
    · rename_i hc
      exact .nd c x hc.1 hc.2.1 hc.2.2 (prF_sound f _ l _ _ h)
    · cases h
def knW : List UInt8 := [109, 111, 100, 117, 108, 101, 32, 109, 32, 49, 32, 59, 32, 102, 110, 32, 102, 32, 40, 32, 97, 32, 41, 32, 123, 32, 114, 101, 116, 117, 114, 110, 32, 40, 32, 97, 32, 43, 32, 40, 32, 49, 32, 42, 32, 50, 32, 41, 32, 41, 32, 59, 32, 125]
theorem knW_is : (prF 200 [.nd .mod] (treeAt (toksOf knA) 300)).map (fun p => (writeL p.1, p.2)) = some (knW, []) := by decide +kernel
theorem kn_prn : ∃ o, Prn [.nd .mod] (treeAt (toksOf knA) 300) o [] ∧ writeL o = knW := by
  have h := knW_is; rw [Option.map_eq_some_iff] at h; obtain ⟨⟨a, b⟩, h1, h2⟩ := h; simp only [Prod.mk.injEq] at h2; obtain ⟨h3, rfl⟩ := h2; exact ⟨a, prF_sound _ _ _ _ _ h1, h3⟩
theorem kn_fitN : FitN (treeAt (toksOf knA) 300) := by
  have h : (treeAt (toksOf knA) 300).all (fun x => decide (-9223372036854775808 ≤ x.n) && decide (x.n < 9223372036854775808)) = true := by decide +kernel
  intro x hx; have := List.all_eq_true.1 h x hx; simpa using this
theorem kn_short : Short (treeAt (toksOf knA) 300) := by
  have h : (treeAt (toksOf knA) 300).all (fun x => decide (x.name.length ≤ 9000) && decide (x.text.length ≤ 9000)) = true := by decide +kernel
  intro x hx; have := List.all_eq_true.1 h x hx; simpa using this
def knE : Nd := ⟨19, 0, [], 5, []⟩
theorem knE_prn : Prn [.nd .ex] [knE] [inT 5] [] := prF_sound 10 _ _ _ _ (by rfl)
theorem knE_text : writeL [inT 5] = [53] := by decide +kernel
end Go.Proofs.YtmljjpdodcpohaaGreatDoor.Sw

namespace Go.Proofs.YtmljjpdodcpohaaGreatDoor.Sw
open Lib (hid)
set_option maxRecDepth 100000
set_option maxHeartbeats 1000000
open Go.RowKit Dk Lx Tr
theorem clone_nodes (g o n c : Nat) (l : List Nd) (w : World) (hn : 0 < n) (hl : n = l.length) (hn2 : n ≤ 4000) (hr : w.rangeAt g o (ncells l)) (hg : g < w.heap.size) :
    Calls Tryz.prog 88 #[.slice (some ⟨g, o, none⟩) n c] w fun e w' => ∃ v, e = .returned v ∧ NR w w' v l := by
  have he := fun W => eql_slice_nil (P := Tryz.prog) 22 _ (some ⟨g, o, none⟩) n c Tryz.underlying22 W
  have hb := build_none 22 58 _ 5 56 Tryz.underlying22 n_info3 rfl (by decide) (by decide); obtain ⟨i0, hi0, hz0, hz1, hz2⟩ := info_parts n_info3; have HL : Hid ((ncells l).length = n * 5) := hid (by rw [ncells_length, hl]); have H1 := hid (ncells_ones l); have HOWN : Hid ((w.alloc (.cells #[] 58)).ownsRow w.heap.size 58 5 (.slice (some ⟨w.heap.size, 0, none⟩) 0 0) 0 []) := hid (World.ownsRow_lit w #[] 0 (Nat.le_refl _) (Nat.zero_le _) rfl)
  have HNW : Hid (∀ j u, (ncells l)[j]? = some u → (w.alloc (.cells #[] 58)).cell? ((⟨g, o, none⟩ : Addr).add j) = some u) := hid (fun j u hu => by
    rw [WideShapes.add_plain]
    exact (World.cell?_of_block (a := ⟨g, o + j, none⟩) (Below.heap_alloc w _ g hg)).trans (hr j u hu))
  have HLN := hid hl; clear hr hl; go_enter Tryz.func88, Tryz.ntmps88
  go_wp2_with (first
    | (refine wpList_append_lies _ rfl _ _ 22 rfl w.heap.size 58 i0 _ 5 56 Tryz.underlying22 hi0 hz0 hz1 hz2 rfl (by decide) _ 0 [] rfl HOWN.out ⟨g, o, none⟩ n c (ncells l) rfl HL.out HNW.out H1.out hn (by unfold maxLen; omega) (by omega) (by simp) (w.heap.size + 1) (by simp) ?_; intro g' cap W7 hrow hgr hgl hlt7))
  have hgr' : (w.alloc (.cells #[] 58)).grownBy W7 (some w.heap.size) := hgr; have hbel : Below w.heap.size w W7 := Tr.below_grown hgr' ((Below.refl _ _).alloc (Nat.le_refl _) _) (fun k e => by cases e; exact Nat.le_refl _) (by simp) (Nat.le_refl _)
  rw [Nat.zero_add, List.nil_append] at hrow; have HF : Hid (NR w W7 (.slice (some ⟨g', 0, none⟩) n cap) l) := hid ⟨by rw [← HLN.out]; exact hrow, hbel⟩
  clear hrow hgr hgl hgr' hlt7 hbel; go_ret; exact ⟨_, rfl, HF.out⟩
theorem sub_some (ts : List Nd) (p : Option Addr) (m c i n : Nat) (w : World) (hm : m = ts.length) (h : Nds w (.slice p m c) ts) (hl : ts.length ≤ 4000) (hn : endW 1 ((kidsOf ts).drop i) = some n) :
    Calls Tryz.prog 48 #[.slice p m c, .int .i64 (i : Int)] w fun e w' => SubOk ts (i : Int) w e w' := by
  have hle := endW_le _ _ _ hn; rw [List.length_drop, kidsOf_len] at hle; obtain ⟨p', c', e, hc, -, h0 | ⟨g, o, hp, hg, hr⟩⟩ := id h
  · subst h0; simp at hle; omega
  · simp only [Value.slice.injEq] at e
    obtain ⟨rfl, -, rfl⟩ := e; subst hp; have CE := hid (end_any ts (.slice (some ⟨g, o, none⟩) m c) (i : Int) w h (by omega)); rw [endI_some hn] at CE; have hsl := fun W => run_slice_mid g o m c i n (by omega) (by omega) (by omega) W
    have CC := hid (clone_nodes g (o + i * 5) n (c - i) ((ts.drop i).take n) w (by omega) (by rw [List.length_take, List.length_drop]; omega) (by omega) (ncells_part (by omega) hr) hg)
    have HR := hid (subL_some hn); have v0 : ¬(i : Int) + (n : Int) < 0 := by omega
    clear hn hr h hle hm; generalize (i : Int) + (n : Int) = E at *; go_enter Tryz.func48, Tryz.ntmps48
    go_wp2_with (first
      | (go_at_call 51; refine CE.out.mono ?_; rintro e w1 ⟨rfl, rfl⟩)
      | (go_at_call 88; refine CC.out.mono ?_; rintro e w2 ⟨v2, rfl, h2⟩; have HF := hid h2; clear h2))
    go_ret; exact ⟨_, rfl, by rw [HR.out]; exact HF.out⟩
theorem sub_none (ts : List Nd) (v : Value) (i : Int) (w : World) (h : Nds w v ts) (hl : ts.length ≤ 4000) (hn : endI (kidsOf ts) i = -1) :
    Calls Tryz.prog 48 #[v, .int .i64 i] w fun e w' => SubOk ts i w e w' := by
  have CE := hid (end_any ts v i w h (by omega)); have HR := hid (subL_none hn); rw [hn] at CE; clear hn h; go_enter Tryz.func48, Tryz.ntmps48
  go_wp2_with (go_at_call 51; refine CE.out.mono ?_; rintro e w1 ⟨rfl, rfl⟩)
  go_ret; exact ⟨_, rfl, by rw [HR.out]; exact NR.first w⟩
theorem sub_any (ts : List Nd) (v : Value) (i : Int) (w : World) (h : Nds w v ts) (hl : ts.length ≤ 4000) :
    Calls Tryz.prog 48 #[v, .int .i64 i] w fun e w' => SubOk ts i w e w' := by
  rcases endI_cases (kidsOf ts) i with h1 | ⟨k, n, rfl, h1, -, -, -⟩
  · exact sub_none ts v i w h hl h1
  · obtain ⟨p, c, rfl, -⟩ := id h
    exact sub_some ts p _ c k n w rfl h hl h1
end Go.Proofs.YtmljjpdodcpohaaGreatDoor.Sw

namespace Go.Proofs.YtmljjpdodcpohaaGreatDoor.Sw
open Lib (hid)
set_option maxRecDepth 100000
set_option maxHeartbeats 4000000
open Go.RowKit Go.Shelf Dk Lx Tr Pa
def hdN : List Nd := [⟨1, 1, [109], 1, []⟩, ⟨3, 1, [102], 0, []⟩, ⟨5, 1, [], 0, []⟩, ⟨13, 1, [], 0, []⟩]
theorem nr_base {w w1 w' : World} {u : Value} {o : List Nd} (h : NR w1 w' u o) (hb : Below w.heap.size w w1) : NR w w' u o :=
  ⟨⟨h.row.1, h.row.2.imp id (fun ⟨g, cap, cur, e, hbg, r⟩ => ⟨g, cap, cur, e, Nat.le_trans hb.size hbg, r⟩)⟩, chain2 hb h.below⟩
theorem returning_any (e : List Nd) (v : Value) (w : World) (hv : v = .slice none 0 0 ∧ e = [] ∨ 0 < e.length ∧ Nds w v e) (hl : e.length ≤ 9000) (hf : Fit e) :
    Calls Tryz.prog 49 #[v] w fun r w' => ∃ u, r = .returned u ∧ NR w w' u (hdN ++ e) := by
  obtain ⟨p, n, c, rfl⟩ : ∃ p n c, v = .slice p n c := by
    rcases hv with ⟨rfl, -⟩ | ⟨-, p, c, rfl, -⟩ <;> exact ⟨_, _, _, rfl⟩
  have CC : Hid (Calls Tryz.prog 89 #[.slice (some ⟨w.heap.size + 1, 0, none⟩) 2 2] ((w.alloc (.cells (ncells hdN).toArray 58)).alloc (.cells #[.slice (some ⟨w.heap.size, 0, none⟩) 4 4, .slice p n c] 22)) fun r w' => ∃ u, r = .returned u ∧ NR w w' u (hdN ++ e)) := hid (by
    have hb1 : Below w.heap.size w (w.alloc (.cells (ncells hdN).toArray 58)) := (Below.refl _ _).alloc (Nat.le_refl _) _; have hs1 : (w.alloc (.cells (ncells hdN).toArray 58)).heap.size = w.heap.size + 1 := by simp
    have hb2 := (Below.refl (w.alloc (.cells (ncells hdN).toArray 58)).heap.size (w.alloc (.cells (ncells hdN).toArray 58))).alloc (Nat.le_refl _) (.cells #[.slice (some ⟨w.heap.size, 0, none⟩) 4 4, .slice p n c] 22); have r1 := (lies_new w (ncells hdN).toArray 58).1; have r2 := (lies_new (w.alloc (.cells (ncells hdN).toArray 58)) #[.slice (some ⟨w.heap.size, 0, none⟩) 4 4, .slice p n c] 22).1; rw [hs1] at r2; refine (concat_nodes hdN e (.slice (some ⟨w.heap.size, 0, none⟩) 4 4) (.slice p n c) (w.heap.size + 1) _ ⟨_, _, rfl, Nat.le_refl _, ?_, .inr ⟨w.heap.size, 0, rfl, by simp; omega, ?_⟩⟩ (by decide) ?_ (by show 4 + _ ≤ _; omega) (by simp) r2).mono ?_
    · intro x hx; revert x; decide
    · have := rangeAt_block r1 (hb2.block w.heap.size (by omega))
      simpa using this
    · exact hv.imp id (fun h => ⟨h.1, h.2.later (chain2 hb1 hb2)⟩)
    · rintro r w' ⟨u, hu, hr⟩
      exact ⟨u, hu, nr_base hr (chain2 hb1 hb2)⟩)
  have e20 : (ncells hdN).toArray = #[.int .i64 1, .int .i64 1, .string ⟨#[109]⟩, .int .i64 1, .string ⟨#[]⟩, .int .i64 3, .int .i64 1, .string ⟨#[102]⟩, .int .i64 0, .string ⟨#[]⟩, .int .i64 5, .int .i64 1, .string ⟨#[]⟩, .int .i64 0, .string ⟨#[]⟩, .int .i64 13, .int .i64 1, .string ⟨#[]⟩, .int .i64 0, .string ⟨#[]⟩] := by rfl
  rw [e20] at CC; clear hv e20; go_enter Tryz.func49, Tryz.ntmps49
  go_wp2_with fail
  refine CC.out.mono ?_; rintro r w3 ⟨u, rfl, hu⟩; have HU := hid hu; clear hu CC; go_wp2; go_ret; exact ⟨u, rfl, HU.out⟩
theorem collect_ex (l l' : List Nd) (o : List Tk) (v : Value) (w : World) (hv : Nds w v l) (hp : Prn [.nd .ex] l o l') (hn : FitN l) (hl : l.length ≤ 2000) (ho : o.length ≤ 20000) (HT : HasT w) :
    Calls Tryz.prog 28 #[v, .func (.func 50) #[] #[]] w fun e w' => ∃ u, e = .returned u ∧ TR w w' u o := by
  obtain ⟨p, c, hvv, -⟩ := id hv; subst hvv
  have HW : Hid (PW w (w.heap.size + 1) w.heap.size (w.heap.size + 2) ((w.alloc (.cells #[.slice none 0 0] 25)).alloc (.cells #[.slice p l.length c, addV w.heap.size] 102)) l []) := hid (by
    have hb1 : Below w.heap.size w (w.alloc (.cells #[.slice none 0 0] 25)) := (Below.refl _ _).alloc (Nat.le_refl _) _; have hs1 : (w.alloc (.cells #[.slice none 0 0] 25)).heap.size = w.heap.size + 1 := by simp
    have hb2 := (Below.refl (w.alloc (.cells #[.slice none 0 0] 25)).heap.size (w.alloc (.cells #[.slice none 0 0] 25))).alloc (Nat.le_refl _) (.cells #[.slice p l.length c, addV w.heap.size] 102); have r1 := lies_new w #[.slice none 0 0] 25; have r2 := lies_new (w.alloc (.cells #[.slice none 0 0] 25)) #[.slice p l.length c, addV w.heap.size] 102; rw [hs1] at r2
    refine ⟨chain2 hb1 hb2, ⟨by omega, by omega⟩, ⟨Nat.le_refl _, by omega⟩, by omega, by simp, ⟨_, r2.1, hv⟩, r2.2, ⟨.slice none 0 0, rangeAt_block r1.1 (hb2.block _ (by rw [hs1]; omega)), World.ownsRow_nil _ _ _ _⟩, there_block r1.2 (hb2.block _ (by rw [hs1]; omega)), Nat.zero_le _⟩)
  have HM := hid ((all_prt HT 2001 (by omega)).ex _ _ _ [] _ (by omega) hp hn (by simp; omega) HW.out)
  unfold addV at HM; have HV := hid hv; clear hv hp hn hl HT; generalize l.length = n at *; go_enter Tryz.func28, Tryz.ntmps28
  go_wp2_with fail
  refine HM.out.mono ?_; rintro e w3 ⟨rfl, hp', hs'⟩; obtain ⟨u, hu, hrow⟩ := hp'.tk; have hcu : w3.cell? ⟨w.heap.size, 0, none⟩ = some u := hu 0 _ rfl
  have HR : Hid (TR w w3 u o) := hid (by
    rw [List.nil_append] at hrow
    exact ⟨⟨hrow.1, hrow.2.imp id (fun ⟨g, cap, cur, e, hb, r⟩ => ⟨g, cap, cur, e, by omega, r⟩)⟩, hp'.below⟩)
  clear hp' hs' hu hrow HM; go_wp2; go_ret; exact ⟨u, rfl, HR.out⟩
theorem sub_nil (w : World) : Calls Tryz.prog 48 #[.slice none 0 0, .int .i64 0] w fun e w' => e = .returned (.slice none 0 0) ∧ w = w' := by
  have CE := hid (end_any [] (.slice none 0 0) 0 w ⟨none, 0, rfl, Nat.le_refl _, (fun _ h => by cases h), .inl rfl⟩ (by decide)); rw [show endI (kidsOf []) 0 = -1 by rfl] at CE; go_enter Tryz.func48, Tryz.ntmps48
  go_wp2_with (go_at_call 51; refine CE.out.mono ?_; rintro e w1 ⟨rfl, rfl⟩)
  go_ret; exact ⟨rfl, rfl⟩
theorem ret_nil : checkL (hdN ++ []) = ((checkL (hdN ++ [])).1, (checkL (hdN ++ [])).2) ∧ (checkL (hdN ++ [])).1 ≠ 0 := ⟨rfl, by decide +kernel⟩
theorem ret_five : (checkL (hdN ++ [knE])).1 = 0 := by decide +kernel
theorem sub_five : subL [knE] 0 = [knE] := by decide +kernel
theorem expr_nil (w : World) : Calls Tryz.prog 26 #[.slice none 0 0] w fun e w' => e = .returned (.string ⟨#[]⟩) ∧ Below w.heap.size w w' := by
  have SN := hid (fun W => sub_nil W); have RN := hid (fun W => returning_any [] (.slice none 0 0) W (.inl ⟨rfl, rfl⟩) (by decide) (fun _ h => by cases h)); have hk := ret_nil.2; have CH := hid (fun (v : Value) (W W' : World) (h : NR W W' v (hdN ++ [])) => check_any (hdN ++ []) v W' (h.nds (by intro x hx; revert x; decide)) (by decide) (by intro x hx; revert x; decide))
  generalize checkL (hdN ++ []) = r at *; obtain ⟨k, a⟩ := r; replace hk : ¬ k = 0 := hk; go_enter Tryz.func26, Tryz.ntmps26
  go_wp2_with (first
    | (go_at_call 48; refine (SN.out _).mono ?_; rintro e w1 ⟨rfl, rfl⟩)
    | (go_at_call 49; refine (RN.out _).mono ?_; rintro e w1 ⟨u, rfl, hu⟩)
    | (go_at_call 27; refine (CH.out _ _ _ hu).mono ?_; rintro e w2 ⟨rfl, hb⟩; unfold pairV))
  go_ret; exact ⟨rfl, chain2 hu.below hb⟩
theorem expr_five (v : Value) (w : World) (hv : Nds w v [knE]) (HT : HasT w) : Calls Tryz.prog 26 #[v] w fun e w' => e = .returned (.string ⟨#[53]⟩) ∧ Below w.heap.size w w' := by
  have SN := hid (sub_any [knE] v 0 w hv (by decide)); have hfE : Fit [knE] := by intro x hx; revert x; decide
  have RN := hid (fun (u : Value) (W : World) (h : Nds W u [knE]) => returning_any [knE] u W (.inr ⟨by decide, h⟩) (by decide) hfE); have hk := ret_five; have CH := hid (fun (v : Value) (W W' : World) (h : NR W W' v (hdN ++ [knE])) => check_any (hdN ++ [knE]) v W' (h.nds (by intro x hx; revert x; decide)) (by decide) (by intro x hx; revert x; decide))
  have CO := hid (fun (u : Value) (W : World) (h : Nds W u [knE]) (hT : HasT W) => collect_ex [knE] [] [inT 5] u W h knE_prn (by intro x hx; revert x; decide) (by decide) (by decide) hT)
  have TX := hid (fun (u : Value) (W : World) (h : Toks W u [inT 5]) => Lx.text_any u [inT 5] W h (by decide) (by decide +kernel) (by decide +kernel)); have HT' := hid (fun (W : World) (h : Below w.heap.size w W) => HT.later h); have HFE := hid hfE; rw [knE_text] at TX; unfold SubOk at SN; rw [sub_five] at SN; generalize checkL (hdN ++ [knE]) = r at *; obtain ⟨k, a⟩ := r; replace hk : k = 0 := hk; subst hk; clear hfE HT; obtain ⟨p, c, rfl, -⟩ := hv; go_enter Tryz.func26, Tryz.ntmps26
  go_wp2_with (first
    | (go_at_call 48; refine SN.out.mono ?_; rintro e w1 ⟨u1, rfl, hu1⟩; obtain ⟨hN, hB1⟩ : Nds w1 u1 [knE] ∧ Below w.heap.size w w1 := ⟨hu1.nds HFE.out, hu1.below⟩; clear hu1)
    | (go_at_call 49; refine (RN.out _ _ hN).mono ?_; rintro e w2 ⟨u2, rfl, hu2⟩)
    | (go_at_call 27; refine (CH.out _ _ _ hu2).mono ?_; rintro e w3 ⟨rfl, hb3⟩; unfold pairV; have hN3 := hN.later (chain2 hu2.below hb3); have hB3 := chain2 hB1 (chain2 hu2.below hb3); have hT3 := HT'.out _ hB3)
    | (go_at_call 28; refine (CO.out _ _ hN3 hT3).mono ?_; rintro e w4 ⟨u4, rfl, hu4⟩; have hB4 := chain2 hB3 hu4.below)
    | (go_at_call 32; refine (TX.out _ _ hu4.toks).mono ?_; rintro e w5 ⟨rfl, hb5⟩; have hB5 := chain2 hB4 hb5))
  go_ret; exact ⟨rfl, hB5⟩
end Go.Proofs.YtmljjpdodcpohaaGreatDoor.Sw

namespace Go.Proofs.YtmljjpdodcpohaaGreatDoor.Pa
open Go.RowKit Go.Shelf Dk Lx Tr
theorem knA_any (w : World) (HE : HasE w) : Calls Tryz.prog 25 #[.string (strOf knA)] w fun e w' => ∃ v, e = .returned (.tuple #[v, .int .i64 0, .int .i64 0]) ∧ NR w w' v (treeAt (toksOf knA) 300) :=
  (text_any (strOf knA) w HE).mono fun e w' hk => by
    rw [strOf_toList] at hk; obtain ⟨t, s', hr, hok⟩ := hk.yes _ (by decide) knA_scan; have q0 := knA_to; have q1 := knA_is.1; generalize treeAt (toksOf knA) 300 = T at *; generalize toksOf knA = L at *; rcases run_one (s := .ok 0) (show ModRun _ _ (.ok 0) from q0) hr with ⟨k, h, -⟩ | ⟨i, j, -, rfl, rfl⟩
    · cases h
    · have h' : if (checkL T).1 = 0 then _ else _ := hok
      rw [if_pos q1] at h'; obtain ⟨v, he, hrow, -⟩ := h'; exact ⟨v, he, hrow, hk.below⟩
end Go.Proofs.YtmljjpdodcpohaaGreatDoor.Pa

namespace Go.Proofs.YtmljjpdodcpohaaGreatDoor.Sw
open Lib (hid)
set_option maxRecDepth 100000
set_option maxHeartbeats 4000000
open Go.RowKit Go.Shelf Dk Lx Tr Pa
theorem kn_fit : Fit (treeAt (toksOf knA) 300) := by
  have h : (treeAt (toksOf knA) 300).all (fun x => decide (x.kids ≤ 9223372036854775807)) = true := by decide +kernel
  intro x hx; have := List.all_eq_true.1 h x hx; simpa using this
theorem kn_nil : checkL [] = (2, (checkL []).2) := by rfl
theorem five_lies (W : World) : Nds (W.alloc (.cells #[.int .i64 19, .int .i64 0, .string ⟨#[]⟩, .int .i64 5, .string ⟨#[]⟩] 58)) (.slice (some ⟨W.heap.size, 0, none⟩) 1 1) [knE] :=
  ⟨_, _, rfl, Nat.le_refl _, (by intro x hx; revert x; decide), .inr ⟨_, _, rfl, by simp, (lies_new W _ _).1⟩⟩
theorem known11 (w : World) (HE : HasE w) (HT : HasT w) : Calls Tryz.prog 10 #[] w fun e w' => e = .returned (.bool true) ∧ Below w.heap.size w w' := by
  have HHE := hid HE; have HHT := hid (fun (W : World) (h : Below w.heap.size w W) => HT.later h); have S1 := hid knA_any; obtain ⟨o, hp, ho⟩ := kn_prn; have S2 := hid (fun (v : Value) (W W' : World) (h : NR W W' v (treeAt (toksOf knA) 300)) (hT : HasT W') => text_yes _ o v W' (h.nds kn_fit) kn_short knA_is.1 hp kn_fitN hT); rw [ho, if_pos (by decide), show strOf knW = ⟨#[109, 111, 100, 117, 108, 101, 32, 109, 32, 49, 32, 59, 32, 102, 110, 32, 102, 32, 40, 32, 97, 32, 41, 32, 123, 32, 114, 101, 116, 117, 114, 110, 32, 40, 32, 97, 32, 43, 32, 40, 32, 49, 32, 42, 32, 50, 32, 41, 32, 41, 32, 59, 32, 125]⟩ by rfl] at S2; have S3 := hid (fun W => text_no [] (.slice none 0 0) W ⟨none, 0, rfl, Nat.le_refl _, (fun _ h => by cases h), .inl rfl⟩ (fun _ h => by cases h) (by decide) (by rw [kn_nil]; decide))
  rw [kn_nil] at S3; have S4 := hid (fun (W : World) (hT : HasT (W.alloc (.cells #[.int .i64 19, .int .i64 0, .string ⟨#[]⟩, .int .i64 5, .string ⟨#[]⟩] 58))) => expr_five _ _ (five_lies W) hT); have S5 := hid (fun W => expr_nil W); generalize treeAt (toksOf knA) 300 = T at *; generalize (checkL []).2 = a0 at *; clear HE HT hp ho; go_enter Tryz.func10, Tryz.ntmps10
  go_wp2_with fail
  refine (S1.out w HHE.out).mono ?_; rintro e w1 ⟨v1, rfl, hr1⟩; have HR1 := hid hr1; clear hr1 S1; go_wp2_with fail
  refine (S2.out _ _ _ HR1.out (HHT.out _ HR1.out.below)).mono ?_; rintro e w2 ⟨rfl, hb⟩; have HB2 := hid (chain2 HR1.out.below hb); clear hb S2 HR1; go_wp2_with fail
  refine (S3.out _).mono ?_; rintro e w3 ⟨rfl, hb⟩; have HB3 := hid (chain2 HB2.out hb); clear hb S3 HB2; go_wp2_with fail
  have hb4 : Below w.heap.size w (w3.alloc (.cells #[.int .i64 19, .int .i64 0, .string ⟨#[]⟩, .int .i64 5, .string ⟨#[]⟩] 58)) := HB3.out.alloc HB3.out.size _; refine (S4.out w3 (HHT.out _ hb4)).mono ?_; rintro e w5 ⟨rfl, hb⟩; have HB5 := hid (chain2 hb4 hb); clear hb hb4 S4 HB3; go_wp2_with fail
  refine (S5.out _).mono ?_; rintro e w6 ⟨rfl, hb⟩; have HB6 := hid (chain2 HB5.out hb); clear hb S5 HB5; go_wp2; go_ret; exact ⟨rfl, HB6.out⟩
end Go.Proofs.YtmljjpdodcpohaaGreatDoor.Sw

