/- The walk of lex.Quote: its contract. No condition but those that each states. -/
import Derived.Test.YtcfmjnhagpmnpaaDoorLxF
namespace Go.Proofs.YtcfmjnhagpmnpaaDoor.Lx
open Go.RowKit Dk

theorem own_cells {w : World} {base : Nat} {e : TypeId} {size n : Nat} {v : Value} {xs : List Value} (h : w.ownsRow base e size v n xs) : ∀ b, v.ownBlock = some b → ∃ c f, w.heap[b]? = some (.cells c e f) := by
  intro b hb
  rcases h.2 with ⟨rfl, _⟩ | ⟨g, cap, cur, rfl, hbg, hg, _⟩
  · cases hb
  · cases hb
    exact ⟨_, _, hg⟩

/-- An iterator in block k, beside a row of bytes of the call's own. -/
structure IX (w W : World) (k : Nat) (v : Value) (pre : List UInt8) (t : ByteArray) (i : Nat) : Prop where
  iter : W.heap[k]? = some (.stringIter t i)
  row : W.ownsRow w.heap.size 5 1 v pre.length (bv pre)
  below : Below w.heap.size w W
  lo : w.heap.size ≤ k

theorem IX.ne {w W : World} {k : Nat} {v : Value} {pre : List UInt8} {t : ByteArray} {i : Nat} (h : IX w W k v pre t i) : ∀ b, v.ownBlock = some b → b ≠ k := by
  intro b hb e
  obtain ⟨c, f, hc⟩ := own_cells h.row b hb
  rw [e, h.iter] at hc
  cases hc

theorem IX.next {w W W1 : World} {k : Nat} {v : Value} {pre : List UInt8} {t : ByteArray} {i j : Nat} (h : IX w W k v pre t i) (h1 : W1.heap[k]? = some (.stringIter t j)) (h2 : ∀ B w', B ≤ k → Below B w' W → Below B w' W1) (h3 : ∀ j, j ≠ k → W1.heap[j]? = W.heap[j]?) : IX w W1 k v pre t j :=
  ⟨h1, ownsRow_block h.row (fun b hb' => h3 b (h.ne b hb')), h2 _ _ h.lo h.below, h.lo⟩

theorem IX.grown {w W W1 W' : World} {k : Nat} {v v' : Value} {pre pre' : List UInt8} {t : ByteArray} {i : Nat} (h : IX w W k v pre t i) (hW : Below W.heap.size W W1) (hg : W1.grownBy W' v.ownBlock) (hrow : W'.ownsRow w.heap.size 5 1 v' pre'.length (bv pre')) : IX w W' k v' pre' t i := by
  have ho : Only (fun b => v.ownBlock = some b) W W' := (Only.of_below (F := fun b => v.ownBlock = some b) hW).trans (Only.of_grown (F := fun b => v.ownBlock = some b) hg (fun k hk => hk)) (fun _ _ h => h)
  have hk : k < W.heap.size := by
    rcases Nat.lt_or_ge k W.heap.size with h4 | h4
    · exact h4
    · have := h.iter; rw [Array.getElem?_eq_none h4] at this; cases this
  exact ⟨(ho.block _ hk (fun e => h.ne k e rfl)).trans h.iter, hrow, ho.below h.below (fun b hb => (own_lo h.row b hb).1) (Nat.le_refl _), h.lo⟩

theorem IX.appS {w W W' : World} {k : Nat} {v v' : Value} {pre mid : List UInt8} {t : ByteArray} {i : Nat} (h : IX w W k v pre t i) (hrow : W'.ownsRow w.heap.size 5 1 v' (pre.length + (strOf mid).size) (bv pre ++ Lib.strCells (strOf mid))) (hg : W.grownBy W' v.ownBlock) : IX w W' k v' (pre ++ mid) t i :=
  h.grown (Below.refl _ _) hg (by rw [strOf_size, strCells_bv, ← bv_append, ← List.length_append] at hrow; exact hrow)
theorem IX.app2 {w W W' : World} {k : Nat} {v v' : Value} {pre : List UInt8} {x y : UInt8} {t : ByteArray} {i : Nat} {o : Obj} (h : IX w W k v pre t i) (hrow : W'.ownsRow w.heap.size 5 1 v' (pre.length + 2) (bv pre ++ [.int .u8 (x.toNat : Int), .int .u8 (y.toNat : Int)])) (hg : (W.alloc o).grownBy W' v.ownBlock) : IX w W' k v' (pre ++ [x, y]) t i :=
  h.grown ((Below.refl _ _).alloc (Nat.le_refl _) _) hg (by rw [show [Value.int .u8 (x.toNat : Int), Value.int .u8 (y.toNat : Int)] = bv [x, y] from rfl, ← bv_append] at hrow; rw [List.length_append]; exact hrow)
theorem IX.app1 {w W W' : World} {k : Nat} {v v' : Value} {pre : List UInt8} {x : UInt8} {t : ByteArray} {i : Nat} {o : Obj} (h : IX w W k v pre t i) (hrow : W'.ownsRow w.heap.size 5 1 v' (pre.length + 1) (bv pre ++ [.int .u8 (x.toNat : Int)])) (hg : (W.alloc o).grownBy W' v.ownBlock) : IX w W' k v' (pre ++ [x]) t i :=
  h.grown ((Below.refl _ _).alloc (Nat.le_refl _) _) hg (by rw [show [Value.int .u8 (x.toNat : Int)] = bv [x] from rfl, ← bv_append] at hrow; rw [List.length_append]; exact hrow)

/-! what quoting is -/
theorem esc_len (c : UInt8) : (escL c).length ≤ 2 := by
  unfold escL
  split
  · simp
  · split <;> simp
theorem flat_len : ∀ l : List UInt8, (l.flatMap escL).length ≤ 2 * l.length
  | [] => by simp
  | c :: r => by
    have := flat_len r
    have := esc_len c
    rw [List.flatMap_cons, List.length_append, List.length_cons]; omega
theorem esc_plain {c : UInt8} (h1 : c.toNat ≠ 10) (h2 : c.toNat ≠ 34) (h3 : c.toNat ≠ 92) : escL c = [c] := by unfold escL; rw [if_neg h1, if_neg (by omega)]
theorem flat_plain : ∀ l : List UInt8, (∀ c ∈ l, escL c = [c]) → l.flatMap escL = l
  | [], _ => rfl
  | c :: r, h => by rw [List.flatMap_cons, h c (by simp), flat_plain r (fun x hx => h x (by simp [hx]))]; rfl

section
variable {T : List UInt8} {i n : Nat} {r : Int}
/-- The byte behind the backslash. -/
def escI (r : Int) : UInt8 := if r = 10 then 110 else r.toNat.toUInt8
theorem esc_yes (h : Rune T i r n) (hr : r = 10 ∨ r = 34 ∨ r = 92) : (T.take (i + 1)).flatMap escL = (T.take i).flatMap escL ++ [92, escI r] ∧ n = 1 ∧ escR r = .tuple #[.int .u8 ((escI r).toNat : Int), .bool true] := by
  obtain ⟨c, e, hc, rfl⟩ := h.first (by omega)
  have hcr : r.toNat.toUInt8 = c := by rw [hc]; simp
  have he : escL c = [92, escI r] := by
    unfold escL escI
    by_cases h1 : r = 10
    · rw [if_pos (by omega), if_pos h1]
    · rw [if_neg (by omega), if_pos (by omega), if_neg h1, hcr]
  refine ⟨?_, rfl, ?_⟩
  · have hl := h.lt
    have e2 := List.drop_eq_getElem_cons hl
    rw [e] at e2
    rw [List.take_succ_eq_append_getElem hl, List.flatMap_append, ← (List.cons.inj e2).1, List.flatMap_cons, he]
    rfl
  · unfold escR escI
    rcases hr with rfl | rfl | rfl <;> rfl
theorem esc_not (h : Rune T i r n) (hr : r ≠ 10 ∧ r ≠ 34 ∧ r ≠ 92) : (T.take (i + n)).flatMap escL = (T.take i).flatMap escL ++ (T.drop i).take n ∧ escR r = .tuple #[.int .u8 0, .bool false] := by
  constructor
  · rw [List.take_add, List.flatMap_append]
    congr 1
    apply flat_plain
    intro c hc
    rcases h.is with ⟨d, e, h2, h3, rfl⟩ | ⟨h1, h2⟩
    · rw [e] at hc
      simp at hc
      subst hc
      exact esc_plain (by omega) (by omega) (by omega)
    · have := h2 c hc
      exact esc_plain (by omega) (by omega) (by omega)
  · unfold escR; rw [if_neg hr.1, if_neg (by omega)]
end

set_option maxHeartbeats 4000000 in
set_option maxRecDepth 100000 in
theorem quote_any (T : List UInt8) (w : World) (hs : T.length ≤ 2 ^ 40) :
    Calls Tryd.prog 16 #[.string (strOf T)] w fun e w' => e = .returned (.string (strOf (quoteL T))) ∧ Below w.heap.size w w' := by
  obtain ⟨i0, hi0, hy0, hy1, hy2⟩ := info_parts b_info3
  have hTs := strOf_size T
  have HMID : Hid (∀ (k i : Nat) (W : World), k ≤ i → i ≤ T.length → (Instr.slice 9 (.string (strOf T)) (some (.int .i64 (k : Int))) (some (.int .i64 (i : Int))) none).run Tryd.prog W = .ok (.string (strOf ((T.drop k).take (i - k)))) W) := Lib.hid (fun k i W hk hi => by
    have := run_mid (P := Tryd.prog) (strOf T) k (i - k) (by omega) 9 Tryd.underlying9 W
    rw [show (k : Int) + ((i - k : Nat) : Int) = (i : Int) by omega] at this
    unfold from' at this
    rw [strOf_toList] at this
    exact this)
  go_enter Tryd.func16, Tryd.ntmps16
  go_wp2
  go_loopw [3, 4] (fun vo vk wr => ∃ (i k : Nat) (pre : List UInt8), i ≤ T.length ∧ k ≤ i ∧ vk = .int .i64 (k : Int) ∧ Hid (IX w wr (w.heap.size + 1) vo pre (strOf T) i) ∧ Hid (pre ++ (T.drop k).take (i - k) = 34 :: (T.take i).flatMap escL)) (fun _ _ wr => T.length - wr.iterPos (w.heap.size + 1))
  case atStart =>
    refine ⟨0, 0, [34], Nat.zero_le _, Nat.le_refl _, rfl, ?_, Lib.hid (by simp)⟩
    have hsz : (w.alloc (.cells #[.int .u8 34] 5)).heap.size = w.heap.size + 1 := by simp
    have hit := World.iter_heap (w.alloc (.cells #[.int .u8 34] 5)) (strOf T) 0
    rw [hsz] at hit
    refine Lib.hid ⟨hit, ownsRow_block (World.ownsRow_lit w #[.int .u8 34] 1 (Nat.le_refl _) (by unfold maxLen; omega) rfl) (fun b hb => ?_), below_iter ((Below.refl _ _).alloc (Nat.le_refl _) _) (by simp) _ _, by omega⟩
    cases hb
    exact iter_old _ _ _ w.heap.size (by rw [hsz]; omega)
  case round =>
    obtain ⟨i, k, pre, hi, hk, rfl, hX, hS⟩ := hrel
    by_cases hlt : i < T.length
    · obtain ⟨r, n, w1, hR, hn, hit1, hB1, ho1, hs1⟩ := iter_step (P := Tryd.prog) hX.out.iter (by omega)
      rw [strOf_toList] at hR
      have HX := Lib.hid (hX.out.next hit1 hB1 ho1)
      have hle : i + n ≤ T.length := hR.le
      have hpos := hR.pos
      have HM : Hid (∀ W : World, W.heap[w.heap.size + 1]? = some (Obj.stringIter (strOf T) (i + n)) → T.length - W.iterPos (w.heap.size + 1) < T.length - wr.iterPos (w.heap.size + 1)) := Lib.hid (fun W h => by rw [iterPos_of h, iterPos_of hX.out.iter]; omega)
      have hlen := congrArg List.length hS.out
      have hfl := flat_len (T.take i)
      rw [List.length_append, List.length_take, List.length_drop, List.length_cons] at hlen
      rw [List.length_take] at hfl
      have C := Lib.hid (fun W => escape_any r W)
      by_cases hy : r = 10 ∨ r = 34 ∨ r = 92
      · obtain ⟨q1, rfl, q3⟩ := esc_yes hR hy
        rw [q3] at C
        have hmid := fun W => HMID.out k i W hk hi
        have hml := strOf_size ((T.drop k).take (i - k))
        have hmt : ((T.drop k).take (i - k)).length = i - k := by rw [List.length_take, List.length_drop]; omega
        have hS' := hS.out
        generalize (T.drop k).take (i - k) = mid at *
        generalize escI r = x at *
        obtain ⟨q, hq⟩ : ∃ q, q = pre ++ mid := ⟨_, rfl⟩
        have HQQ := Lib.hid hq
        have HS : Hid (q ++ [92, x] = 34 :: (T.take (i + 1)).flatMap escL) := Lib.hid (by rw [hq, q1, hS']; rfl)
        have HLM : Hid (pre.length + (strOf mid).size ≤ 2 ^ 43) := Lib.hid (by omega)
        have HL2 : Hid (q.length ≤ 2 ^ 43) := Lib.hid (by rw [hq, List.length_append]; omega)
        have HQ := Lib.hid (show i + 1 ≤ T.length from hle)
        clear hR hB1 hit1 ho1 hs1 hX hlen hfl q1 q3 hy hml hmt hS hS' hle hpos hq
        go_wp2_with (first
          | (go_at_call 27; refine (C.out _).mono ?_; rintro e w' ⟨rfl, rfl⟩)
          | (at_builtin; refine Lib.wpList_append_own_string _ rfl _ _ 40 9 rfl w.heap.size 5 i0 Tryd.underlying40 Tryd.underlying9 hi0 hy0 hy1 hy2 _ pre.length (bv pre) rfl HX.out.row (strOf mid) rfl (by have := HLM.out; unfold maxLen; omega) (by have := HLM.out; omega) HX.out.below.size ?_; intro v' W' hrow hgr _; have HX2 := Lib.hid (HX.out.appS hrow hgr); rw [← HQQ.out] at HX2; clear hrow hgr)
          | (refine wpList_append_lies _ rfl (.tmp 29) (.tmp 31) 40 rfl w.heap.size 5 i0 (.int .u8 0) 1 1 Tryd.underlying40 hi0 hy0 hy1 hy2 rfl (by decide) _ q.length (bv q) rfl (HX2.out.row.alloc _) ⟨W'.heap.size, 0, none⟩ 2 2 [.int .u8 92, .int .u8 (x.toNat : Int)] rfl rfl (news_at W' #[.int .u8 92, .int .u8 (x.toNat : Int)] 5) (by simp [Value.oneCell']) (by decide) (by have := HL2.out; unfold maxLen; omega) (by have := HL2.out; omega) (by have := HX2.out.below.size; simp; omega) (W'.heap.size + 1) (by simp) ?_; intro g cap W7 hrow hgr hgl hlt7; have HX3 := Lib.hid (HX2.out.app2 (x := 92) (y := x) hrow hgr); clear hrow hgr hgl hlt7))
        go_roundw
        case rel => exact ⟨i + 1, i + 1, q ++ [92, x], HQ.out, Nat.le_refl _, by go_num, HX3, Lib.hid (by rw [Nat.sub_self, List.take_zero, List.append_nil]; exact HS.out)⟩
        case measure => exact HM.out _ HX3.out.iter
      · have hno : r ≠ 10 ∧ r ≠ 34 ∧ r ≠ 92 := by omega
        obtain ⟨q1, q2⟩ := esc_not hR hno
        rw [q2] at C
        have HS : Hid (pre ++ (T.drop k).take (i + n - k) = 34 :: (T.take (i + n)).flatMap escL) := Lib.hid (by
          rw [q1, ← take_more T k i n hk, ← List.append_assoc, hS.out]; rfl)
        have HQ := Lib.hid (show i + n ≤ T.length ∧ k ≤ i + n from ⟨hle, by omega⟩)
        clear hR hB1 hit1 ho1 hs1 hX hlen hfl q1 q2 hy hno hS hle hpos
        go_wp2_with (go_at_call 27; refine (C.out _).mono ?_; rintro e w' ⟨rfl, rfl⟩)
        go_roundw
        case rel => exact ⟨i + n, k, pre, HQ.out.1, HQ.out.2, rfl, HX, HS⟩
        case measure => exact HM.out _ HX.out.iter
    · obtain rfl : i = T.length := by omega
      have hn := fun ty => Lib.run_next_end_at (P := Tryd.prog) wr (w.heap.size + 1) (strOf T) T.length ty hX.out.iter (by omega)
      have HX := hX
      have hsl : ∀ W : World, (Instr.slice 9 (.string (strOf T)) (some (.int .i64 (k : Int))) none none).run Tryd.prog W = .ok (.string (strOf (T.drop k))) W := fun W => by
        have := run_from (P := Tryd.prog) (strOf T) k (by omega) 9 Tryd.underlying9 W
        rw [← strOf_self ((strOf T).extract k (strOf T).size), extract_list] at this
        unfold from' at this
        rw [strOf_toList] at this
        exact this
      have hS' := hS.out
      have hlen := congrArg List.length hS.out
      have hfl := flat_len T
      rw [List.take_of_length_le (l := T) (Nat.le_refl _)] at hS' hlen
      rw [List.length_append, List.length_take, List.length_drop, List.length_cons] at hlen
      rw [List.take_of_length_le (by rw [List.length_drop]; omega)] at hS'
      have hml := strOf_size (T.drop k)
      rw [List.length_drop] at hml
      generalize T.drop k = mid at *
      obtain ⟨q, hq⟩ : ∃ q, q = pre ++ mid := ⟨_, rfl⟩
      have HQQ := Lib.hid hq
      have HS : Hid (q ++ [34] = quoteL T) := Lib.hid (by rw [hq, hS']; rfl)
      have HLM : Hid (pre.length + (strOf mid).size ≤ 2 ^ 43) := Lib.hid (by omega)
      have HL2 : Hid (q.length ≤ 2 ^ 43) := Lib.hid (by rw [hq, hS', List.length_cons]; omega)
      clear hX hS hS' hlen hfl hml hi hlt hq
      go_wp2_with (first
        | (at_builtin; refine Lib.wpList_append_own_string _ rfl _ _ 40 9 rfl w.heap.size 5 i0 Tryd.underlying40 Tryd.underlying9 hi0 hy0 hy1 hy2 _ pre.length (bv pre) rfl HX.out.row (strOf mid) rfl (by have := HLM.out; unfold maxLen; omega) (by have := HLM.out; omega) HX.out.below.size ?_; intro v' W' hrow hgr _; have HX2 := Lib.hid (HX.out.appS hrow hgr); rw [← HQQ.out] at HX2; clear hrow hgr)
        | (refine wpList_append_lies _ rfl (.tmp 40) (.tmp 41) 40 rfl w.heap.size 5 i0 (.int .u8 0) 1 1 Tryd.underlying40 hi0 hy0 hy1 hy2 rfl (by decide) _ q.length (bv q) rfl (HX2.out.row.alloc _) ⟨W'.heap.size, 0, none⟩ 1 1 [.int .u8 34] rfl rfl (news_at W' #[.int .u8 34] 5) (by simp [Value.oneCell']) (by decide) (by have := HL2.out; unfold maxLen; omega) (by have := HL2.out; omega) (by have := HX2.out.below.size; simp; omega) (W'.heap.size + 1) (by simp) ?_; intro g cap W7 hrow hgr hgl hlt7; have HX3 := Lib.hid (HX2.out.app1 (x := 34) hrow hgr); clear hrow hgr hgl hlt7; have g2 := run_convert_owned (P := Tryd.prog) (src := 40) (dst := 9) Tryd.underlying40 Tryd.underlying5 Tryd.underlying9 HX3.out.row))
      go_ret
      exact ⟨by rw [← HS.out]; rfl, HX3.out.below⟩

end Go.Proofs.YtcfmjnhagpmnpaaDoor.Lx
