/- preorder, and the walk of Tree: their contracts. What a scan's tokens are bounded by; the walk of Text: its contract. The machine at the two fixed texts of known; where a fault lies in a text. The walk of chrysalislaw10.known: its contract. No condition but those that each states. -/
import Derived.Test.YtemlceicmpcboaaGreatDoorMgG
import Derived.Test.YtemlceicmpcboaaGreatDoorMgI
import Derived.Test.YtemlceicmpcboaaGreatDoorMgN
import Derived.Test.YtemlceicmpcboaaGreatDoorMgC
import Derived.Test.YtemlceicmpcboaaGreatDoorMgB
namespace Go.Proofs.YtemlceicmpcboaaGreatDoor.Pa
open Go.RowKit Go.Shelf Dk Lx Tr

theorem preorder_any (b0 p0 : Nat) (T : List Nd) (w : World) (hT : T.length ≤ 1000000) (hb0 : b0 ≤ w.heap.size) (hb : Br w (fun k => k < b0) p0 T) :
    Calls Tryz.prog 39 #[ptr p0] w fun e w' => ∃ v, e = .returned v ∧ w'.ownsRow w.heap.size 29 5 v T.length (ncells T) ∧ Only (fun k => b0 ≤ k) w w' :=
  (callsIn_wide (n := 3)).1 (preorder_in Fence.wide 3 trivial trivial trivial rfl (by omega) b0 p0 T w hT hb0 hb)

/-- A slice of tokens. -/
def ToksW (W : World) (v : Value) (ts : List Tk) : Prop := ∃ p c, v = .slice p ts.length c ∧ ts.length ≤ c ∧ (ts = [] ∨ ∃ r o, p = some ⟨r, o, none⟩ ∧ r < W.heap.size ∧ W.rangeAt r o (tcells ts))

theorem lies_new (W : World) (Z : Array Value) (u : TypeId) : (W.alloc (.cells Z u)).rangeAt W.heap.size 0 Z.toList ∧ (W.alloc (.cells Z u)).there W.heap.size 0 Z.size := by
  refine ⟨fun j x hx => ?_, fun j hj => ?_⟩
  · rw [Nat.zero_add, cell_of_row _ _ _ Z u (0, 0) (heap_alloc_new W _), ← Array.getElem?_toList]
    exact hx
  · rw [Nat.zero_add]
    refine ⟨?_, frozen_of_row _ _ _ Z u (heap_alloc_new W _)⟩
    rw [cell_of_row _ _ _ Z u (0, 0) (heap_alloc_new W _), Array.getElem?_eq_getElem hj]; rfl

theorem br_fit {W : World} {X : Nat → Prop} {b : Nat} {t : List Nd} (h : Br W X b t) : ∀ x ∈ t, x.kids ≤ (t.length : Int) := by
  induction h with
  | mk b x k v cs hcs ht hb hX hr hs ih =>
    intro y hy
    simp only [join, List.mem_cons, List.mem_flatten, List.mem_map] at hy
    rcases hy with rfl | ⟨l, ⟨c, hc, rfl⟩, hy⟩
    · have := kids_few cs (fun c hc => br_pos (hs c hc))
      simp only [join, List.length_cons, List.length_map]
      omega
    · have h1 := ih c hc y hy
      have h2 : c.2.length ≤ ((cs.map (·.2)).flatten).length := List.Sublist.length_le (List.sublist_flatten_of_mem (List.mem_map_of_mem hc))
      simp only [join, List.length_cons]
      omega

theorem own_nds {w : World} {base : Nat} {v : Value} {l : List Nd} (h : w.ownsRow base 29 5 v l.length (ncells l)) (hf : Fit l) : Nds w v l := by
  rcases h.2 with ⟨hv, h0⟩ | ⟨g, cap, cur, hv, hbg, hg, h3, h4, h5, h6⟩
  · exact ⟨none, 0, by rw [hv, h0], by omega, hf, .inl (List.eq_nil_of_length_eq_zero h0)⟩
  · rw [hv] at h
    exact ⟨_, cap, hv, h3, hf, .inr ⟨g, 0, rfl, (Array.getElem?_eq_some_iff.1 hg).1, ownsRow_range h⟩⟩

/-- What Tree answers. -/
def TreeOk (L : List Tk) (w : World) (e : Ending) (w' : World) (t : List Nd) : St → Prop
  | .bad k => e = .returned (.tuple #[.slice none 0 0, .int .i64 10, .int .i64 (offK L k)])
  | .ok _ => if (checkL t).1 = 0 then ∃ v, e = .returned (.tuple #[v, .int .i64 0, .int .i64 0]) ∧ w'.ownsRow w.heap.size 29 5 v t.length (ncells t) ∧ Fit t
      else e = .returned (.tuple #[.slice none 0 0, .int .i64 (checkL t).1, .int .i64 0])

set_option maxRecDepth 100000 in
theorem tree_any (L : List Tk) (v : Value) (w : World) (h : ToksW w v L) (hL : L.length ≤ 1000000) (hp : Places L) (hS : TkS 9000 L) :
    Calls Tryz.prog 18 #[v] w fun e w' => ∃ t s', ModRun L t s' ∧ Below w.heap.size w w' ∧ TreeOk L w e w' t s' := by
  obtain ⟨p, c, rfl, hc, hx⟩ := h
  have hl := lies_new w #[.slice p L.length c, .int .i64 0, .bool false, .int .i64 0] 75
  have hps : PS L w.heap.size (.slice p L.length c) (w.alloc (.cells #[.slice p L.length c, .int .i64 0, .bool false, .int .i64 0] 75)) (.ok 0) := by
    refine ⟨hl.1, hl.2, by simp, ⟨p, c, rfl, hc, hx.imp id ?_⟩, Nat.zero_le _, by omega, hp⟩
    rintro ⟨r, o, hp', hr, hq⟩
    exact ⟨r, o, hp', by simp; omega, by omega, rangeAt_block hq (Below.heap_alloc w _ r hr)⟩
  have HM := Lib.hid (module_rd L w.heap.size _ _ hps)
  clear hps hl hx
  go_enter Tryz.func18, Tryz.ntmps18
  go_wp2_with (go_at_call 38; refine HM.out.mono ?_; rintro e w1 ⟨b, t, s', ⟨rfl, hps, hon, hsb, hrun⟩⟩; obtain ⟨q0, q1, q2, q3⟩ := hps.at)
  · have hb : isBad s' = true := by assumption
    have hB1 : Below w.heap.size w w1.drew := hon.drew.below ((Below.refl _ w).alloc (Nat.le_refl _) _) (fun i e => by omega) (Nat.le_refl _)
    cases s' with
    | ok i => cases hb
    | bad k =>
      have HR := Lib.hid hrun
      have HB := Lib.hid hB1
      clear hrun hB1
      simp only [isBad, foff] at *
      go_wp2_with go_region
      go_ret3
      exact ⟨t, .bad k, HR.out, HB.out, rfl⟩
  · have hb : isBad s' = false := by first | assumption | (simpa using (by assumption : ¬isBad s' = true))
    cases s' with
    | bad k => cases hb
    | ok i =>
      have hlen : t.length ≤ L.length := mod_few hrun
      have htok : Tok 9000 t := mod_tok hS hrun
      have hbr : Br w1 (fun k => k < w.heap.size + 1) b t := by simpa using (show Br w1 _ b t from hsb)
      have hs1 : w.heap.size + 1 ≤ w1.heap.size := by have := hon.size; simpa using this
      have HPr := Lib.hid (preorder_any (w.heap.size + 1) b t w1 (by omega) hs1 hbr)
      have hfit : Fit t := fun x hx => by have := br_fit hbr x hx; omega
      have HCh : ∀ (v : Value) (w2 : World), w2.ownsRow w1.heap.size 29 5 v t.length (ncells t) → Calls Tryz.prog 27 #[v] w2 fun e w' => e = .returned (.tuple #[.int .i64 (checkL t).1, .int .i64 (checkL t).2]) ∧ Below w2.heap.size w2 w' := fun v w2 h => check_any t v w2 (own_nds h hfit) (by omega) (fun x hx => (htok.nodes x hx).2)
      have HCH := Lib.hid HCh
      clear HCh
      go_wp2_with (first
        | (go_at_call 39; refine HPr.out.mono ?_; rintro e w2 ⟨v2, rfl, hrow2, hon2⟩)
        | (go_at_call 27; refine (HCH.out _ _ (by assumption)).mono ?_; rintro e w3 ⟨rfl, hb3⟩))
      all_goals have hB1 : Below w.heap.size w w1 := hon.below ((Below.refl _ w).alloc (Nat.le_refl _) _) (fun i e => by omega) (Nat.le_refl _)
      all_goals have hB2 : Below w.heap.size w w2 := hon2.below hB1 (fun i e => by omega) (Nat.le_refl _)
      all_goals have hB3 : Below w.heap.size w w3 := chain2 hB2 hb3
      · go_ret3
        refine ⟨t, .ok i, hrun, hB3, ?_⟩
        show if (checkL t).1 = 0 then _ else _
        rw [if_neg (by first | assumption | simp_all)]
        rfl
      · go_ret3
        refine ⟨t, .ok i, hrun, hB3, ?_⟩
        show if (checkL t).1 = 0 then _ else _
        rw [if_pos (by first | assumption | simp_all)]
        refine ⟨v2, rfl, ?_⟩
        have h3 := ownsRow_block hrow2 (fun q hq => hb3.block q (Tr.own_lo hrow2 q hq).2)
        exact ⟨⟨h3.1, h3.2.imp id (fun ⟨g, cap, cur, e, hb, r⟩ => ⟨g, cap, cur, e, by omega, r⟩)⟩, hfit⟩

end Go.Proofs.YtemlceicmpcboaaGreatDoor.Pa
namespace Go.Proofs.YtemlceicmpcboaaGreatDoor.Pa
open Go.RowKit Go.Shelf Dk Lx Tr

theorem esc_long : ∀ (s : List UInt8), s.length ≤ (s.flatMap escL).length
  | [] => Nat.le_refl _
  | c :: s => by
    have h := esc_long s
    have h1 : 1 ≤ (escL c).length := by unfold escL; split <;> (try split) <;> simp
    rw [List.flatMap_cons, List.length_append, List.length_cons]
    omega
theorem scans_few {p : Nat} {l : List UInt8} {ts : List Tk} (h : Scans p l ts) : ts.length ≤ l.length ∧ ∀ t ∈ ts, t.text.length ≤ l.length ∧ (p : Int) ≤ t.place ∧ t.place + 1 ≤ (p : Int) + l.length := by
  induction h with
  | done p l hd => exact ⟨Nat.zero_le _, fun t ht => by cases ht⟩
  | more p l c r k t n len ts hd ho _ ih =>
    obtain ⟨h1, h2⟩ := oneL_len _ _ _ _ _ ho
    have hl : skipN false l + (c :: r).length = l.length := by
      have := congrArg List.length hd
      rw [List.length_drop, List.length_cons] at this
      rw [List.length_cons]
      omega
    rw [List.length_drop] at ih
    refine ⟨by rw [List.length_cons]; omega, fun u hu => ?_⟩
    rcases List.mem_cons.1 hu with rfl | hu
    · refine ⟨?_, by simp only; omega, by simp only; omega⟩
      rcases one_text ho with ⟨-, r', -, hq⟩ | ⟨-, ht, -⟩
      · have := esc_long t
        simp only [quoteL, List.length_cons, List.length_append] at hq
        simp only
        omega
      · rw [ht, List.length_take]
        omega
    · obtain ⟨a1, a2, a3⟩ := ih.2 u hu
      refine ⟨by omega, by omega, by omega⟩

/-- What Text answers. -/
structure TextOk (l : List UInt8) (w : World) (e : Ending) (w' : World) : Prop where
  yes : ∀ L, l.length ≤ 8192 → scanL 0 l = .toks L → ∃ t s', ModRun L t s' ∧ TreeOk L w e w' t s'
  bad : ∀ k a, l.length ≤ 8192 → scanL 0 l = .bad k a → e = .returned (.tuple #[.slice none 0 0, .int .i64 (k : Int), .int .i64 (a : Int)])
  big : ¬l.length ≤ 8192 → e = .returned (.tuple #[.slice none 0 0, .int .i64 3, .int .i64 0])
  below : Below w.heap.size w w'

theorem TreeOk.base {L : List Tk} {w w1 w' : World} {e : Ending} {t : List Nd} {s : St} (h : TreeOk L w1 e w' t s) (hw : w.heap.size ≤ w1.heap.size) : TreeOk L w e w' t s := by
  cases s with
  | bad k => exact h
  | ok i =>
    have h' : if (checkL t).1 = 0 then _ else _ := h
    show if (checkL t).1 = 0 then _ else _
    by_cases hc : (checkL t).1 = 0
    · rw [if_pos hc] at h' ⊢
      obtain ⟨v, he, hr, hf⟩ := h'
      exact ⟨v, he, ⟨hr.1, hr.2.imp id (fun ⟨g, cap, cur, e, hb, r⟩ => ⟨g, cap, cur, e, by omega, r⟩)⟩, hf⟩
    · rw [if_neg hc] at h' ⊢
      exact h'

theorem TreeOk.form {L : List Tk} {w w' : World} {e : Ending} {t : List Nd} {s : St} (h : TreeOk L w e w' t s) : ∃ v a b, e = .returned (.tuple #[v, .int .i64 a, .int .i64 b]) := by
  cases s with
  | bad k => exact ⟨_, _, _, h⟩
  | ok i =>
    have h' : if (checkL t).1 = 0 then _ else _ := h
    by_cases hc : (checkL t).1 = 0
    · rw [if_pos hc] at h'
      obtain ⟨v, he, hr⟩ := h'
      exact ⟨_, _, _, he⟩
    · rw [if_neg hc] at h'
      exact ⟨_, _, _, h'⟩

theorem toks_any {L : List Tk} {l : List UInt8} (h : scanL 0 l = .toks L) (hl : l.length ≤ 8192) : L.length ≤ 1000000 ∧ Places L ∧ TkS 9000 L := by
  obtain ⟨h1, h2⟩ := scans_few (scans_iff.1 h)
  refine ⟨by omega, fun t ht => ?_, fun t ht => ?_⟩
  · obtain ⟨-, a, b⟩ := h2 t ht
    constructor <;> omega
  · have := (h2 t ht).1
    omega

set_option maxRecDepth 100000 in
theorem text_any (s : ByteArray) (w : World) (HE : HasE w) : Calls Tryz.prog 14 #[.string s] w fun e w' => TextOk s.data.toList w e w' := by
  have HS := Lib.hid (scan_any s w HE)
  by_cases hl : s.data.toList.length ≤ 8192
  case neg =>
    have HL := Lib.hid hl
    clear hl
    go_enter Tryz.func14, Tryz.ntmps14
    go_wp2_with (go_at_call 28; refine HS.out.mono ?_; rintro e w1 ⟨-, -, hbig, hb⟩; obtain rfl := hbig HL.out)
    go_ret3
    exact ⟨fun _ h => absurd h HL.out, fun _ _ h => absurd h HL.out, fun _ => rfl, hb⟩
  cases hsc : scanL 0 s.data.toList with
  | bad k a =>
    have hka := scan_bad_at _ 0 _ k a (Nat.lt_succ_self _) hsc
    have HL := Lib.hid hl
    have HC := Lib.hid hsc
    have hk0 : ¬(k : Int) = 0 := by omega
    clear hl hsc hka
    go_enter Tryz.func14, Tryz.ntmps14
    go_wp2_with (go_at_call 28; refine HS.out.mono ?_; rintro e w1 ⟨-, hbad, -, hb⟩; obtain rfl := hbad _ _ HL.out HC.out)
    go_ret3
    exact ⟨fun _ _ h => (by rw [HC.out] at h; cases h), fun k' a' _ h => (by rw [HC.out] at h; cases h; rfl), fun h => absurd HL.out h, hb⟩
  | toks L =>
    obtain ⟨a1, a2, a3⟩ := toks_any hsc hl
    have HT := Lib.hid (fun (v : Value) (w1 : World) (h : TR w w1 v L) => tree_any L v w1 h.toks a1 a2 a3)
    have HL := Lib.hid hl
    have HC := Lib.hid hsc
    clear hl hsc a1 a2 a3
    go_enter Tryz.func14, Tryz.ntmps14
    go_wp2_with (first
      | (go_at_call 28; refine HS.out.mono ?_; rintro e w1 ⟨hyes, -, -, hb⟩; obtain ⟨v1, rfl, hv1⟩ := hyes _ HL.out HC.out; clear hyes)
      | (go_at_call 18; refine (HT.out _ _ hv1).mono ?_; rintro e w2 ⟨t, s', hrun, hb2, hok⟩; obtain ⟨v2, ea, eb, rfl⟩ := hok.form))
    go_ret3
    exact ⟨fun _ _ h => (by rw [HC.out] at h; cases h; exact ⟨t, s', hrun, hok.base hb.size⟩), fun _ _ _ h => (by rw [HC.out] at h; cases h), fun h => absurd HL.out h, chain2 hb hb2⟩

end Go.Proofs.YtemlceicmpcboaaGreatDoor.Pa
namespace Go.Proofs.YtemlceicmpcboaaGreatDoor.Pa
open Go.RowKit Go.Shelf Dk Lx Tr

def knA : List UInt8 := [109, 111, 100, 117, 108, 101, 32, 109, 32, 49, 59, 32, 102, 110, 32, 102, 40, 97, 41, 32, 123, 32, 114, 101, 116, 117, 114, 110, 32, 97, 32, 43, 32, 49, 32, 42, 32, 50, 59, 32, 125]
def knB : List UInt8 := [109, 111, 100, 117, 108, 101, 32, 109, 32, 49, 59, 32, 102, 110, 32, 102, 40, 41, 32, 123, 32, 49, 32, 61, 32, 50, 59, 32, 125]
def toksOf (l : List UInt8) : List Tk := match scanL 0 l with | .toks ts => ts | .bad _ _ => []
def treeAt (L : List Tk) (n : Nat) : List Nd := match iter L n (.run [.mod] [] 0) with | .fin [t] => t | _ => []
def isFin : Cfg → Bool | .fin [_] => true | _ => false
def badOf : Cfg → Option Nat | .bad k => some k | _ => none

theorem knA_scan : scanL 0 knA = .toks (toksOf knA) := by decide +kernel
theorem knB_scan : scanL 0 knB = .toks (toksOf knB) := by decide +kernel
theorem knA_fin : isFin (iter (toksOf knA) 300 (.run [.mod] [] 0)) = true := by decide +kernel
theorem knB_bad : badOf (iter (toksOf knB) 300 (.run [.mod] [] 0)) = some 10 := by decide +kernel
theorem knA_to : To (toksOf knA) (.run [.mod] [] 0) (.fin [treeAt (toksOf knA) 300]) := by
  refine ⟨300, ?_⟩
  have h := knA_fin
  unfold treeAt
  cases hc : iter (toksOf knA) 300 (.run [.mod] [] 0) with
  | run A V i => rw [hc] at h; cases h
  | bad k => rw [hc] at h; cases h
  | fin V =>
    rw [hc] at h
    match V, h with
    | [t], _ => rfl
theorem knB_to : To (toksOf knB) (.run [.mod] [] 0) (.bad 10) := by
  refine ⟨300, ?_⟩
  have h := knB_bad
  cases hc : iter (toksOf knB) 300 (.run [.mod] [] 0) with
  | run A V i => rw [hc] at h; cases h
  | fin V => rw [hc] at h; cases h
  | bad k => rw [hc] at h; cases h; rfl
/-- One end alone. -/
theorem run_one {L : List Tk} {t t' : List Nd} {s s' : St} (h : ModRun L t s) (h' : ModRun L t' s') : (∃ k, s = .bad k ∧ s' = .bad k) ∨ (∃ i j, s = .ok i ∧ s' = .ok j ∧ t = t') := by
  cases s with
  | bad k =>
    cases s' with
    | bad k' => have := To.one_end h h' rfl rfl; cases this; exact .inl ⟨_, rfl, rfl⟩
    | ok j => have := To.one_end h h' rfl rfl; cases this
  | ok i =>
    cases s' with
    | bad k' => have := To.one_end h h' rfl rfl; cases this
    | ok j => have := To.one_end h h' rfl rfl; cases this; exact .inr ⟨_, _, rfl, rfl, rfl⟩
/-- A fault lies within the text. -/
theorem offK_in {l : List UInt8} {L : List Tk} (h : scanL 0 l = .toks L) (k : Nat) : 0 ≤ offK L k ∧ offK L k ≤ (l.length : Int) := by
  obtain ⟨-, h2⟩ := scans_few (scans_iff.1 h)
  unfold offK
  cases hk : L[k]? with
  | some t =>
    have := h2 t (List.mem_of_getElem? hk)
    simp only
    omega
  | none =>
    cases hl : L.getLast? with
    | none => simp only; omega
    | some t =>
      have := h2 t (List.mem_of_getLast? hl)
      simp only
      omega
theorem knA_is : (checkL (treeAt (toksOf knA) 300)).1 = 0 ∧ (treeAt (toksOf knA) 300).length = 10 := by decide +kernel
theorem knB_off : offK (toksOf knB) 10 = 23 := by decide +kernel

end Go.Proofs.YtemlceicmpcboaaGreatDoor.Pa
namespace Go.Proofs.YtemlceicmpcboaaGreatDoor.Pa
open Go.RowKit Go.Shelf Dk Lx Tr

theorem knA_any (w : World) (HE : HasE w) : Calls Tryz.prog 14 #[.string (strOf knA)] w fun e w' => ∃ v, e = .returned (.tuple #[v, .int .i64 0, .int .i64 0]) ∧ NR w w' v (treeAt (toksOf knA) 300) :=
  (text_any (strOf knA) w HE).mono fun e w' hk => by
    rw [strOf_toList] at hk
    obtain ⟨t, s', hr, hok⟩ := hk.yes _ (by decide) knA_scan
    have q0 := knA_to
    have q1 := knA_is.1
    generalize treeAt (toksOf knA) 300 = T at *
    generalize toksOf knA = L at *
    rcases run_one (s := .ok 0) (show ModRun _ _ (.ok 0) from q0) hr with ⟨k, h, -⟩ | ⟨i, j, -, rfl, rfl⟩
    · cases h
    · have h' : if (checkL T).1 = 0 then _ else _ := hok
      rw [if_pos q1] at h'
      obtain ⟨v, he, hrow, -⟩ := h'
      exact ⟨v, he, hrow, hk.below⟩
theorem knB_any (w : World) (HE : HasE w) : Calls Tryz.prog 14 #[.string (strOf knB)] w fun e w' => e = .returned (.tuple #[.slice none 0 0, .int .i64 10, .int .i64 23]) ∧ Below w.heap.size w w' :=
  (text_any (strOf knB) w HE).mono fun e w' hk => by
    rw [strOf_toList] at hk
    obtain ⟨t, s', hr, hok⟩ := hk.yes _ (by decide) knB_scan
    rcases run_one (t := []) (s := .bad 10) (show ModRun _ _ (.bad 10) from knB_to) hr with ⟨k, h, rfl⟩ | ⟨i, j, h, -, -⟩
    · cases h
      have h' : e = .returned (.tuple #[.slice none 0 0, .int .i64 10, .int .i64 (offK (toksOf knB) 10)]) := hok
      rw [knB_off] at h'
      exact ⟨h', hk.below⟩
    · cases h
theorem knA_cells : ∃ T : List Nd, treeAt (toksOf knA) 300 = T ∧ T.length = 10 ∧ (ncells T)[29]? = some (.string ⟨#[43]⟩) ∧ (ncells T)[39]? = some (.string ⟨#[42]⟩) ∧ (ncells T)[2]? = some (.string ⟨#[109]⟩) ∧ (ncells T)[3]? = some (.int .i64 1) := by
  have h5 : (treeAt (toksOf knA) 300)[5]?.map (·.text) = some [43] := by decide +kernel
  have h7 : (treeAt (toksOf knA) 300)[7]?.map (·.text) = some [42] := by decide +kernel
  have h0 : (treeAt (toksOf knA) 300)[0]?.map (·.name) = some [109] := by decide +kernel
  have h1 : (treeAt (toksOf knA) 300)[0]?.map (·.n) = some 1 := by decide +kernel
  have hl := knA_is.2
  generalize treeAt (toksOf knA) 300 = T at *
  refine ⟨T, rfl, hl, ?_, ?_, ?_, ?_⟩
  · rw [ncells_at (i := 5) (by omega) 4 (by decide)]
    rw [List.getElem?_eq_getElem (by omega)] at h5
    simp at h5
    simp [Nd.cells, h5, strOf]
  · rw [ncells_at (i := 7) (by omega) 4 (by decide)]
    rw [List.getElem?_eq_getElem (by omega)] at h7
    simp at h7
    simp [Nd.cells, h7, strOf]
  · rw [show 2 = 0 * 5 + 2 from rfl, ncells_at (i := 0) (by omega) 2 (by decide)]
    rw [List.getElem?_eq_getElem (by omega)] at h0
    simp at h0
    simp [Nd.cells, h0, strOf]
  · rw [show 3 = 0 * 5 + 3 from rfl, ncells_at (i := 0) (by omega) 3 (by decide)]
    rw [List.getElem?_eq_getElem (by omega)] at h1
    simp at h1
    simp [Nd.cells, h1]

set_option maxHeartbeats 4000000 in
set_option maxRecDepth 100000 in
theorem known10 (w : World) (HE : HasE w) : Calls Tryz.prog 13 #[] w fun e w' => e = .returned (.bool true) ∧ Below w.heap.size w w' := by
  have HHE := Lib.hid HE
  have S1 := Lib.hid knA_any
  have S2 := Lib.hid knB_any
  obtain ⟨T, hT, h10, t5, t7, t0, t1⟩ := knA_cells
  rw [hT] at S1
  clear HE hT
  go_enter Tryz.func13, Tryz.ntmps13
  go_wp2_with fail
  refine (S1.out w HHE.out).mono ?_
  rintro e w1 ⟨v1, rfl, hr1⟩
  obtain ⟨g1, cap1, hv1⟩ := Lx.own_form hr1.row (by omega)
  have HR1 := Lib.hid hr1
  rw [hv1] at HR1 ⊢
  clear hr1 hv1 S1
  go_wp2_with fail
  refine (S2.out w1 (HHE.out.later HR1.out.below)).mono ?_
  rintro e w2 ⟨rfl, hb2⟩
  have HR2 := Lib.hid (HR1.out.later hb2)
  have c0 : w2.cell? ⟨g1, 2, none⟩ = some (.string ⟨#[109]⟩) := (HR2.out.row.cellAt 2 (by omega)).trans t0
  have c1 : w2.cell? ⟨g1, 3, none⟩ = some (.int .i64 1) := (HR2.out.row.cellAt 3 (by omega)).trans t1
  have c5 : w2.cell? ⟨g1, 29, none⟩ = some (.string ⟨#[43]⟩) := (HR2.out.row.cellAt 29 (by omega)).trans t5
  have c7 : w2.cell? ⟨g1, 39, none⟩ = some (.string ⟨#[42]⟩) := (HR2.out.row.cellAt 39 (by omega)).trans t7
  have HB := Lib.hid HR2.out.below
  clear HR1 HR2 S2 t5 t7 t0 t1 hb2
  try rw [h10]
  go_wp2
  go_ret
  exact ⟨rfl, HB.out⟩

end Go.Proofs.YtemlceicmpcboaaGreatDoor.Pa
