/- The walk of lex; The walks of lex. No condition but those that each states. -/
import Derived.Test.YtmljjpdodcpohaaGreatDoorMgAJ
import Derived.Lib.AppendStr
import Derived.Test.YtmljjpdodcpohaaGreatDoorMgAF
namespace Go.Proofs.YtmljjpdodcpohaaGreatDoor.Lx
open Lib (hid)
open Go.RowKit Dk
def textE : List UInt8 → Option (List UInt8 × Nat)
  | [] => none
  | d :: r => match unescN d with
    | none => none
    | some e => (textL r).map fun q => (e :: q.1, q.2 + 1)
def textB (b : Bool) (l : List UInt8) : Option (List UInt8 × Nat) := if b then textE l else textL l
def shift (pre : List UInt8) (i : Nat) (o : Option (List UInt8 × Nat)) : Option (List UInt8 × Nat) := o.map fun q => (pre ++ q.1, q.2 + i)
theorem shift_nil (o : Option (List UInt8 × Nat)) : shift [] 0 o = o := by cases o <;> rfl
theorem shift_none (pre : List UInt8) (i : Nat) : shift pre i none = none := rfl
theorem shift_shift (a b : List UInt8) (i j : Nat) (o : Option (List UInt8 × Nat)) : shift a i (shift b j o) = shift (a ++ b) (j + i) o := by
  cases o with
  | none => rfl
  | some q => simp [shift, List.append_assoc, Nat.add_assoc]
theorem textL_cons (c : UInt8) (r : List UInt8) : textL (c :: r) = if c.toNat = 34 then some ([], 1) else if c.toNat = 10 then none else if c.toNat = 92 then shift [] 1 (textE r) else shift [c] 1 (textL r) := by
  have e := textL.eq_def (c :: r); dsimp only at e
  rw [e]; split
  · rfl
  · split
    · rfl
    · split
      · cases r with
        | nil => rfl
        | cons d r' =>
          dsimp only [textE]
          cases unescN d with
          | none => rfl
          | some e => dsimp only; cases textL r' <;> rfl
      · rfl
theorem textL_end (r : List UInt8) {c : UInt8} (h : c.toNat = 34) : textL (c :: r) = some ([], 1) := by rw [textL_cons, if_pos h]
theorem textL_line (r : List UInt8) {c : UInt8} (h : c.toNat = 10) : textL (c :: r) = none := by rw [textL_cons, if_neg (by omega), if_pos h]
theorem textL_esc (r : List UInt8) {c : UInt8} (h : c.toNat = 92) : textL (c :: r) = shift [] 1 (textE r) := by rw [textL_cons, if_neg (by omega), if_neg (by omega), if_pos h]
theorem textL_other (r : List UInt8) {c : UInt8} (h1 : c.toNat ≠ 34) (h2 : c.toNat ≠ 10) (h3 : c.toNat ≠ 92) : textL (c :: r) = shift [c] 1 (textL r) := by rw [textL_cons, if_neg h1, if_neg h2, if_neg h3]
theorem textL_high : ∀ (l : List UInt8) (k : Nat), k ≤ l.length → (∀ c ∈ l.take k, 128 ≤ c.toNat) → textL l = shift (l.take k) k (textL (l.drop k))
  | l, 0, _, _ => by simp [shift_nil]
  | [], k + 1, h, _ => by simp at h
  | c :: l, k + 1, h, h' => by
    have hc := h' c (by simp); rw [textL_other l (by omega) (by omega) (by omega), textL_high l k (by simpa using h) (fun x hx => h' x (by simp [hx])), shift_shift]; rfl
section
variable {T : List UInt8} {i k : Nat} {r : Int}
theorem text_end (h : Rune T i r k) (hr : r = 34) : textL (T.drop i) = some ([], 1) ∧ k = 1 := by
  obtain ⟨c, e, hc, rfl⟩ := h.first (by omega); exact ⟨by rw [e, textL_end _ (by omega)], rfl⟩
theorem text_line (h : Rune T i r k) (hr : r = 10) : textL (T.drop i) = none := by
  obtain ⟨c, e, hc, rfl⟩ := h.first (by omega); rw [e, textL_line _ (by omega)]
theorem text_esc (h : Rune T i r k) (hr : r = 92) : textL (T.drop i) = shift [] k (textE (T.drop (i + k))) ∧ k = 1 := by
  obtain ⟨c, e, hc, rfl⟩ := h.first (by omega); exact ⟨by rw [e, textL_esc _ (by omega)], rfl⟩
theorem text_other (h : Rune T i r k) (h1 : r ≠ 34) (h2 : r ≠ 10) (h3 : r ≠ 92) : textL (T.drop i) = shift ((T.drop i).take k) k (textL (T.drop (i + k))) := by
  rcases h.is with ⟨c, e, hc, h4, rfl⟩ | ⟨hc, h4⟩
  · rw [e, textL_other _ (by omega) (by omega) (by omega)]; rfl
  · rw [textL_high _ k (by rw [List.length_drop]; have := h.le; omega) h4, List.drop_drop]
def unescI (r : Int) : UInt8 := if r = 110 then 10 else r.toNat.toUInt8
theorem unesc_no (h : Rune T i r k) (hr : r ≠ 110 ∧ r ≠ 34 ∧ r ≠ 92) : textE (T.drop i) = none := by
  obtain ⟨c, e, h1, h2⟩ := h.head
  have : unescN c = none := by
    unfold unescN; rcases Int.lt_or_le r 128 with h' | h'
    · have := h1 h'; rw [if_neg (by omega), if_neg (by omega)]
    · have := h2 h'; rw [if_neg (by omega), if_neg (by omega)]
  rw [e, textE, this]
theorem unesc_yes (h : Rune T i r k) (hr : r = 110 ∨ r = 34 ∨ r = 92) : textE (T.drop i) = shift [unescI r] k (textL (T.drop (i + k))) ∧ k = 1 ∧ unescR r = .tuple #[.int .u8 ((unescI r).toNat : Int), .bool true] := by
  obtain ⟨c, e, hc, rfl⟩ := h.first (by omega); have hcr : r.toNat.toUInt8 = c := by rw [hc]; simp
  have : unescN c = some (unescI r) := by
    unfold unescN unescI; by_cases h1 : r = 110
    · rw [if_pos (by omega), if_pos h1]
    · rw [if_neg (by omega), if_pos (by omega), if_neg h1, hcr]
  refine ⟨by rw [e, textE, this]; rfl, rfl, ?_⟩
  unfold unescR unescI; rcases hr with rfl | rfl | rfl <;> rfl
theorem unescR_no (hr : r ≠ 110 ∧ r ≠ 34 ∧ r ≠ 92) : unescR r = .tuple #[.int .u8 0, .bool false] := by
  unfold unescR; rw [if_neg hr.1, if_neg (by omega)]
end
theorem own_lo {w : World} {base : Nat} {e : TypeId} {size n : Nat} {v : Value} {xs : List Value} (h : w.ownsRow base e size v n xs) : ∀ b, v.ownBlock = some b → base ≤ b ∧ b < w.heap.size := by
  intro b hb; rcases h.2 with ⟨rfl, _⟩ | ⟨g, cap, cur, rfl, hbg, hg, _⟩
  · cases hb
  · cases hb
    exact ⟨hbg, by
      rcases Nat.lt_or_ge g w.heap.size with h | h
      · exact h
      · rw [Array.getElem?_eq_none h] at hg; cases hg⟩
structure TX (w W : World) (v : Value) (pre : List UInt8) (t : ByteArray) (i : Nat) : Prop where
  tok : TW w W Tk.zero
  iter : W.heap[w.heap.size + 1]? = some (.stringIter t i)
  row : W.ownsRow (w.heap.size + 2) 5 1 v pre.length (bv pre)
  big : w.heap.size + 2 ≤ W.heap.size
theorem TX.first (w W1 : World) (h : TW w W1 Tk.zero) (hs : W1.heap.size = w.heap.size + 1) (t : ByteArray) : TX w (W1.iter t 0) (.slice none 0 0) [] t 0 := by
  have hit := World.iter_heap W1 t 0; rw [hs] at hit; have hsz : (W1.iter t 0).heap.size = w.heap.size + 2 := by show (W1.heap.push _).size = _; simp [hs]
  exact ⟨h.later (below_iter (Below.refl _ _) (Nat.le_refl _) t 0), hit, by simpa [bv] using World.ownsRow_nil _ _ _ _, by omega⟩
theorem TX.next {w W W1 : World} {v : Value} {pre : List UInt8} {t : ByteArray} {i j : Nat} (h : TX w W v pre t i) (h1 : W1.heap[w.heap.size + 1]? = some (.stringIter t j)) (h2 : ∀ B w', B ≤ w.heap.size + 1 → Below B w' W → Below B w' W1) (h3 : ∀ j, j ≠ w.heap.size + 1 → W1.heap[j]? = W.heap[j]?) (h4 : W1.heap.size = W.heap.size) : TX w W1 v pre t j := by
  have hb := h2 (w.heap.size) w (by omega) h.tok.2; have hs : W.heap.size ≤ W1.heap.size := Nat.le_of_eq h4.symm; exact ⟨⟨h.tok.1.of_block (h3 _ (by omega)) hs, hb⟩, h1, ownsRow_block h.row (fun b hb' => h3 b (by have := (own_lo h.row b hb').1; omega)), Nat.le_trans h.big hs⟩
theorem TX.grown {w W W1 W' : World} {v v' : Value} {pre pre' : List UInt8} {t : ByteArray} {i : Nat} (h : TX w W v pre t i) (hW : Below W.heap.size W W1) (hg : W1.grownBy W' v.ownBlock) (hrow : W'.ownsRow (w.heap.size + 2) 5 1 v' pre'.length (bv pre')) : TX w W' v' pre' t i := by
  have ho : Only (fun k => w.heap.size + 2 ≤ k) W W' := (Only.of_below (F := fun k => w.heap.size + 2 ≤ k) hW).trans (Only.of_grown (F := fun k => w.heap.size + 2 ≤ k) hg (fun k hk => (own_lo h.row k hk).1)) (fun _ _ h => h); have hs := ho.size; have hb := h.big; exact ⟨⟨h.tok.1.of_block (ho.block _ (by omega) (by omega)) hs, ho.below h.tok.2 (fun _ h => by omega) (Nat.le_refl _)⟩, (ho.block _ (by omega) (by omega)).trans h.iter, hrow, by omega⟩
theorem strCells_bv (l : List UInt8) : Lib.strCells (strOf l) = bv l := by simp [Lib.strCells, bv, strOf]
theorem TX.appS {w W W' : World} {v v' : Value} {pre mid : List UInt8} {t : ByteArray} {i : Nat} (h : TX w W v pre t i) (hrow : W'.ownsRow (w.heap.size + 2) 5 1 v' (pre.length + (strOf mid).size) (bv pre ++ Lib.strCells (strOf mid))) (hg : W.grownBy W' v.ownBlock) : TX w W' v' (pre ++ mid) t i :=
  h.grown (Below.refl _ _) hg (by rw [strOf_size, strCells_bv, ← bv_append, ← List.length_append] at hrow; exact hrow)
theorem TX.app1 {w W W' : World} {v v' : Value} {pre : List UInt8} {x : UInt8} {t : ByteArray} {i : Nat} {o : Obj} (h : TX w W v pre t i) (hrow : W'.ownsRow (w.heap.size + 2) 5 1 v' (pre.length + 1) (bv pre ++ [.int .u8 (x.toNat : Int)])) (hg : (W.alloc o).grownBy W' v.ownBlock) : TX w W' v' (pre ++ [x]) t i :=
  h.grown ((Below.refl _ _).alloc (Nat.le_refl _) _) hg (by rw [show [Value.int .u8 (x.toNat : Int)] = bv [x] from rfl, ← bv_append] at hrow; rw [List.length_append]; exact hrow)
theorem take_more (T : List UInt8) (k i n : Nat) (hk : k ≤ i) : (T.drop k).take (i - k) ++ (T.drop i).take n = (T.drop k).take (i + n - k) := by
  rw [show i + n - k = (i - k) + n by omega, List.take_add, List.drop_drop, show k + (i - k) = i by omega]
theorem b_info3 : (Tryz.prog.info? 5).map (fun i => (i.zero, i.size, i.bytes)) = some (some (.int .u8 0), 1, 1) := by kernel_rfl
set_option maxHeartbeats 4000000 in
theorem nextText_any (s : ByteArray) (a : Nat) (c : UInt8) (T : List UInt8) (w : World) (hl : from' s a = c :: T) (hs : s.size ≤ 2 ^ 40) :
    Calls Tryz.prog 142 #[.string s, .int .i64 (a : Int)] w fun e w' => e = .returned (oneV a (textOf T)) ∧ Below w.heap.size w w' := by
  have hlen := from_length s a; rw [hl] at hlen; simp at hlen
  have hT : from' s (a + 1) = T := by rw [← from_drop, hl]; rfl
  have hex : s.extract (a + 1) s.size = strOf T := by rw [← hT, ← extract_list s (a + 1)]; exact (strOf_self _).symm
  have hsl : ∀ W : World, (Instr.slice 9 (.string s) (some (.int .i64 ((a : Int) + 1))) none none).run Tryz.prog W = .ok (.string (strOf T)) W := fun W => by
    have := run_from (P := Tryz.prog) s (a + 1) (by omega) 9 Tryz.underlying9 W; rw [hex, show ((a + 1 : Nat) : Int) = (a : Int) + 1 by omega] at this; exact this
  have HMID : Hid (∀ (k i : Nat) (W : World), k ≤ i → i ≤ T.length → (Instr.slice 9 (.string s) (some (.int .i64 ((a : Int) + 1 + (k : Int)))) (some (.int .i64 ((i : Int) + ((a : Int) + 1)))) none).run Tryz.prog W = .ok (.string (strOf ((T.drop k).take (i - k)))) W) := hid (fun k i W hk hi => by
    have := run_mid (P := Tryz.prog) s (a + 1 + k) (i - k) (by omega) 9 Tryz.underlying9 W; rw [← from_drop, hT] at this; rw [show ((a + 1 + k : Nat) : Int) + ((i - k : Nat) : Int) = (i : Int) + ((a : Int) + 1) by omega, show ((a + 1 + k : Nat) : Int) = (a : Int) + 1 + (k : Int) by omega] at this
    exact this)
  obtain ⟨R, hR⟩ : ∃ R, R = oneV a (textOf T) := ⟨_, rfl⟩; rw [← hR]; have HRR := hid hR; have HZ := hid (tw_new w); have hz1 : (w.alloc (.cells #[.int .i64 0, .string ⟨#[]⟩, .int .i64 0, .int .i64 0] 73)).heap.size = w.heap.size + 1 := by simp
  have HZ1 := hid hz1; have hTs := strOf_size T; clear hex hl hT hR hz1; go_enter Tryz.func142, Tryz.ntmps142
  obtain ⟨i0, hi0, hy0, hy1, hy2⟩ := info_parts b_info3; go_wp2; clear hsl; go_loopw [8, 9, 10] (fun vc vk ve wr => ∃ (i k : Nat) (b : Bool) (pre : List UInt8), i ≤ T.length ∧ k ≤ i ∧ (if b = true then pre.length ≤ i else pre.length ≤ k) ∧ vk = .int .i64 ((a : Int) + 1 + (k : Int)) ∧ ve = .bool b ∧ Hid (TX w wr vc pre (strOf T) i) ∧ Hid (textL T = shift (if b = true then pre else pre ++ (T.drop k).take (i - k)) i (textB b (T.drop i)))) (fun _ _ _ wr => T.length - wr.iterPos (w.heap.size + 1))
  case atStart => exact ⟨0, 0, false, [], Nat.zero_le _, Nat.le_refl _, by simp, by simp, rfl, hid (TX.first w _ HZ.out HZ1.out (strOf T)), hid (by simp [shift_nil, textB])⟩
  case round =>
    obtain ⟨i, k, b, pre, hi, hk, hpre, rfl, rfl, hX, hS⟩ := hrel; by_cases hlt : i < T.length
    · obtain ⟨r, n, w1, hR, hn, hit1, hB1, ho1, hs1⟩ := iter_step (P := Tryz.prog) hX.out.iter (by omega)
      rw [strOf_toList] at hR; have HX := hid (hX.out.next hit1 hB1 ho1 hs1); have HR := hid hR; have hle : i + n ≤ T.length := hR.le; have hpos := hR.pos; have HM : Hid (∀ W : World, W.heap[w.heap.size + 1]? = some (Obj.stringIter (strOf T) (i + n)) → T.length - W.iterPos (w.heap.size + 1) < T.length - wr.iterPos (w.heap.size + 1)) := hid (fun W h => by rw [iterPos_of h, iterPos_of hX.out.iter]; omega)
      clear hR hB1 hit1 ho1 hs1 hX; cases b with
      | true =>
        replace hpre : pre.length ≤ i := by simpa using hpre
        have hS' := hS.out; rw [if_pos rfl, show textB true (T.drop i) = textE (T.drop i) from rfl] at hS'; by_cases hy : r = 110 ∨ r = 34 ∨ r = 92
        · obtain ⟨q1, rfl, q3⟩ := unesc_yes HR.out hy
          rw [q1, shift_shift] at hS'; have HS : Hid (textL T = shift (pre ++ [unescI r]) (i + 1) (textL (T.drop (i + 1)))) := hid (by rw [hS', Nat.add_comm 1 i]); have C := hid (fun W => unescape_any r W); rw [q3] at C; generalize unescI r = x at *; clear hS hS' q1 q3 hy; have N1 := hid (news_at w1 #[.int .u8 (x.toNat : Int)] 5)
          go_wp2_with (first
            | (go_at_call 178; refine (C.out _).mono ?_; rintro e w' ⟨rfl, rfl⟩)
            | (refine wpList_append_lies _ rfl (.tmp 39) (.tmp 41) 63 rfl (w.heap.size + 2) 5 i0 (.int .u8 0) 1 1 Tryz.underlying63 hi0 hy0 hy1 hy2 rfl (by decide) _ pre.length (bv pre) rfl (HX.out.row.alloc _) ⟨w1.heap.size, 0, none⟩ 1 1 [.int .u8 (x.toNat : Int)] rfl rfl N1.out (by simp [Value.oneCell']) (by decide) (by unfold maxLen; omega) (by omega) (by have := HX.out.big; simp; omega) (w1.heap.size + 1) (by simp) ?_; intro g cap W7 hrow hgr hgl hlt7; have HX2 := hid (HX.out.app1 (x := x) hrow hgr); clear hrow hgr hgl hlt7))
          go_roundw
          case rel => exact ⟨i + 1, i + 1, false, pre ++ [x], by omega, Nat.le_refl _, by simp; omega, by go_num, rfl, HX2, hid (by rw [HS.out]; simp [textB])⟩
          case measure => exact HM.out _ HX2.out.iter
        · have hno : r ≠ 110 ∧ r ≠ 34 ∧ r ≠ 92 := by omega
          rw [unesc_no HR.out hno, shift_none] at hS'; have HS := hid hS'; have C := hid (fun W => unescape_any r W); rw [unescR_no hno] at C; clear hS hS' hy hno; have HW : Hid (TW w w1 Tk.zero) := hid HX.out.tok
          go_wp2_with (first
            | (go_at_call 178; refine (C.out _).mono ?_; rintro e w' ⟨rfl, rfl⟩)
            | (refine wpList_store_mid rfl 73 _ _ rfl w.heap.size 0 Tk.zero.cells.toArray rfl rfl HW.out.1.room (t_infoA _) (t_all _) ?_; have HR := hid (HW.out.put Tk.zero); generalize World.setCells _ _ _ _ = W8 at HR ⊢))
          refine bodyPost_ret (results_cell3 rfl _ _ rfl HR.out.1.cells Tryz.underlying73 rfl (t_info _)) rfl ?_; exact ⟨by rw [HRR.out]; unfold textOf; rw [HS.out]; rfl, HR.out.2⟩
      | false =>
        replace hpre : pre.length ≤ k := by simpa using hpre
        have hS' := hS.out; rw [if_neg Bool.false_ne_true, show textB false (T.drop i) = textL (T.drop i) from rfl] at hS'; by_cases h92 : r = 92
        · obtain ⟨q1, rfl⟩ := text_esc HR.out h92
          rw [q1, shift_shift] at hS'; have hmid := fun W => HMID.out k i W hk hi
          have hml := strOf_size ((T.drop k).take (i - k)); have hmt : ((T.drop k).take (i - k)).length = i - k := by rw [List.length_take, List.length_drop]; omega
          generalize (T.drop k).take (i - k) = mid at *; have HLM : Hid (pre.length + (strOf mid).size ≤ 2 ^ 41 ∧ (pre ++ mid).length ≤ i) := hid ⟨by omega, by rw [List.length_append]; omega⟩
          have HS : Hid (textL T = shift (pre ++ mid) (i + 1) (textE (T.drop (i + 1)))) := hid (by rw [hS', Nat.add_comm 1 i, List.append_nil]); clear hS hS' q1 hml hmt; subst h92; go_wp2_with (at_builtin; refine Lib.wpList_append_own_string _ rfl _ _ 63 9 rfl (w.heap.size + 2) 5 i0 Tryz.underlying63 Tryz.underlying9 hi0 hy0 hy1 hy2 _ pre.length (bv pre) rfl HX.out.row (strOf mid) rfl (by have := HLM.out; unfold maxLen; omega) (by have := HLM.out; omega) HX.out.big ?_; intro v' W' hrow hgr _; have HX2 := hid (HX.out.appS hrow hgr); clear hrow hgr)
          go_roundw
          case rel => exact ⟨i + 1, k, true, pre ++ mid, by omega, by omega, by rw [if_pos rfl]; have := HLM.out.2; omega, rfl, rfl, HX2, hid (by rw [HS.out]; simp [textB])⟩
          case measure => exact HM.out _ HX2.out.iter
        · by_cases h34 : r = 34
          · obtain ⟨q1, rfl⟩ := text_end HR.out h34
            rw [q1] at hS'; have hmid := fun W => HMID.out k i W hk hi
            have hml := strOf_size ((T.drop k).take (i - k)); have hmt : ((T.drop k).take (i - k)).length = i - k := by rw [List.length_take, List.length_drop]; omega
            generalize (T.drop k).take (i - k) = mid at *; have HLM : Hid (pre.length + (strOf mid).size ≤ 2 ^ 41 ∧ (pre ++ mid).length ≤ i) := hid ⟨by omega, by rw [List.length_append]; omega⟩
            have HS : Hid (textL T = some (pre ++ mid, 1 + i)) := hid (by rw [hS']; simp [shift])
            have e1 : IntKind.i64.wrap ((i : Int) + ((a : Int) + 1) + 1) = (i : Int) + ((a : Int) + 1) + 1 := IntWalk.i64_in _ (by omega); clear hS hS' q1 hml hmt; subst h34
            go_wp2_with (first
              | (at_builtin; refine Lib.wpList_append_own_string _ rfl _ _ 63 9 rfl (w.heap.size + 2) 5 i0 Tryz.underlying63 Tryz.underlying9 hi0 hy0 hy1 hy2 _ pre.length (bv pre) rfl HX.out.row (strOf mid) rfl (by have := HLM.out; unfold maxLen; omega) (by have := HLM.out; omega) HX.out.big ?_; intro v' W' hrow hgr _; have HX2 := hid (HX.out.appS hrow hgr); clear hrow hgr; have g := run_convert_owned (P := Tryz.prog) (src := 63) (dst := 9) Tryz.underlying63 Tryz.underlying5 Tryz.underlying9 HX2.out.row)
              | (refine wpList_store_mid rfl 73 _ _ rfl w.heap.size 0 (Tk.mk 3 (pre ++ mid) 0 a).cells.toArray rfl rfl HX2.out.tok.1.room (t_infoA _) (t_all _) ?_; have HR := hid (HX2.out.tok.put (Tk.mk 3 (pre ++ mid) 0 a)); generalize World.setCells _ _ _ _ = W8 at HR ⊢))
            refine bodyPost_ret (results_cell3 rfl _ _ rfl HR.out.1.cells Tryz.underlying73 rfl (t_info _)) rfl ?_; refine ⟨?_, HR.out.2⟩; rw [HRR.out]; unfold textOf; rw [HS.out]; dsimp only [oneV]
            rw [show (a : Int) + ((1 + i + 1 : Nat) : Int) = (i : Int) + ((a : Int) + 1) + 1 by omega]; rfl
          · by_cases h10 : r = 10
            · rw [text_line HR.out h10, shift_none] at hS'
              have HS := hid hS'; clear hS hS'; subst h10; have HW : Hid (TW w w1 Tk.zero) := hid HX.out.tok; go_wp2_with (refine wpList_store_mid rfl 73 _ _ rfl w.heap.size 0 Tk.zero.cells.toArray rfl rfl HW.out.1.room (t_infoA _) (t_all _) ?_; have HR := hid (HW.out.put Tk.zero); generalize World.setCells _ _ _ _ = W8 at HR ⊢)
              refine bodyPost_ret (results_cell3 rfl _ _ rfl HR.out.1.cells Tryz.underlying73 rfl (t_info _)) rfl ?_; exact ⟨by rw [HRR.out]; unfold textOf; rw [HS.out]; rfl, HR.out.2⟩
            · rw [text_other HR.out h34 h10 h92, shift_shift, List.append_assoc, take_more T k i n hk] at hS'
              have HS := hid hS'; have HQ := hid (show i + n ≤ T.length ∧ k ≤ i + n ∧ pre.length ≤ k from ⟨hle, by omega, hpre⟩); have v1 : (r == 92) = false := by simpa using h92
              have v2 : (r == 34) = false := by simpa using h34
              have v3 : (r == 10) = false := by simpa using h10
              clear hS hS' hle hpos hpre h92 h34 h10; go_wp2; go_roundw
              case rel => exact ⟨i + n, k, false, pre, HQ.out.1, HQ.out.2.1, by simpa using HQ.out.2.2, rfl, rfl, HX, hid (by rw [HS.out, Nat.add_comm n i]; simp [textB])⟩
              case measure => exact HM.out _ HX.out.iter
    · obtain rfl : i = T.length := by omega
      have hn := fun ty => Lib.run_next_end_at (P := Tryz.prog) wr (w.heap.size + 1) (strOf T) T.length ty hX.out.iter (by omega)
      have hS' := hS.out; rw [List.drop_eq_nil_of_le (Nat.le_refl _), show textB b [] = none by cases b <;> rfl, shift_none] at hS'; have HS := hid hS'; have HW : Hid (TW w wr Tk.zero) := hid hX.out.tok; clear hS hS'; go_wp2_with (refine wpList_store_mid rfl 73 _ _ rfl w.heap.size 0 Tk.zero.cells.toArray rfl rfl HW.out.1.room (t_infoA _) (t_all _) ?_; have HR := hid (HW.out.put Tk.zero); generalize World.setCells _ _ _ _ = W8 at HR ⊢)
      refine bodyPost_ret (results_cell3 rfl _ _ rfl HR.out.1.cells Tryz.underlying73 rfl (t_info _)) rfl ?_; exact ⟨by rw [HRR.out]; unfold textOf; rw [HS.out]; rfl, HR.out.2⟩
end Go.Proofs.YtmljjpdodcpohaaGreatDoor.Lx

namespace Go.Proofs.YtmljjpdodcpohaaGreatDoor.Lx
open Lib (hid)
open Go.RowKit Dk
def tkOf (p : Nat) : One → Tk
  | .bad _ => Tk.zero
  | .tok k t n _ => ⟨k, t, n, p⟩
def endOf (p : Nat) : One → Int
  | .bad _ => 0
  | .tok _ _ _ len => (p : Int) + (len : Int)
def errOf : One → Int
  | .bad e => (e : Int)
  | .tok _ _ _ _ => 0
theorem oneV_eq (p : Nat) (o : One) : oneV p o = .tuple #[.agg (tkOf p o).cells.toArray, .int .i64 (endOf p o), .int .i64 (errOf o)] := by cases o <;> rfl
theorem byte_at {P : Program} (s : ByteArray) (a : Nat) (c : UInt8) (r : List UInt8) (hl : from' s a = c :: r) (t : TypeId) (ht : P.underlying t = some .string) (W : World) : (Instr.index t (.string s) (.int .i64 (a : Int))).run P W = .ok (.int .u8 (c.toNat : Int)) W := by
  have hlen := from_length s a; rw [hl] at hlen; simp at hlen
  have ha : a < s.size := by omega
  have h1 : s[a]'ha = c := by
    have h2 : s.data.toList[a]'(by simpa using ha) = c := by
      have := List.drop_eq_getElem_cons (i := a) (l := s.data.toList) (by simpa using ha); unfold from' at hl
      rw [hl] at this; exact ((List.cons.inj this).1).symm
    rw [← h2]; rfl
  have g1 : (0 : Int) ≤ (a : Int) := by omega
  have g2 : (a : Int) < (s.size : Int) := by omega
  rw [← h1]; go_simp
set_option maxHeartbeats 4000000 in
theorem next_any (s : ByteArray) (a : Nat) (c : UInt8) (r : List UInt8) (w : World) (hl : from' s a = c :: r) (hs : s.size ≤ 2 ^ 40) (HE : HasE w) :
    Calls Tryz.prog 85 #[.string s, .int .i64 (a : Int)] w fun e w' => e = .returned (oneV a (oneL (c :: r))) ∧ Below w.heap.size w w' := by
  have hlen := from_length s a; rw [hl] at hlen; simp at hlen
  have hix := fun W => byte_at (P := Tryz.prog) s a c r hl 9 Tryz.underlying9 W
  have hcv := i32_byte c; have CL := hid (fun W => letter_any (c.toNat : Int) W); have CD := hid (fun W => digit_any (c.toNat : Int) W); have NW := hid (fun W => nextWord_any s a W (by omega) hs); have NI := hid (fun hc W h => nextInt_any s a c r W hl hc hs h); have NT := hid (fun W => nextText_any s a c r W hl hs); have NM := hid (fun W => nextMark_any s a c r W hl hs); rw [hl] at NW NI NM; obtain ⟨R, hR⟩ : ∃ R, R = oneL (c :: r) := ⟨_, rfl⟩; rw [← hR, oneV_eq]; have HRR := hid hR; rw [oneL] at hR; have HZ := hid (tw_new w); have HHE := hid HE; clear HE hl hlen; cases h1 : isL c with
  | true =>
    rw [h1, if_pos rfl] at hR; rw [← hR, oneV_eq] at NW; have k1 : rL (c.toNat : Int) = true := h1; rw [k1] at CL; clear h1 k1 hR NI NT NM; generalize tkOf a R = tk at *; generalize endOf a R = en at *; generalize errOf R = er at *; go_enter Tryz.func85, Tryz.ntmps85
    go_wp2_with (first
      | (go_at_call 138; refine (CL.out _).mono ?_; rintro e w' ⟨rfl, rfl⟩)
      | (go_at_call 140; refine (CD.out _).mono ?_; rintro e w' ⟨rfl, rfl⟩)
      | (go_at_call 139; refine (NW.out _).mono ?_; rintro e W3 ⟨rfl, hb3⟩; have HW := hid (HZ.out.later hb3); clear hb3)
      | (refine wpList_store_mid rfl 73 _ _ rfl w.heap.size 0 tk.cells.toArray rfl rfl HW.out.1.room (t_infoA _) (t_all _) ?_; have HR := hid (HW.out.put tk); generalize World.setCells _ _ _ _ = W8 at HR ⊢))
    refine bodyPost_ret (results_cell3 rfl _ _ rfl HR.out.1.cells Tryz.underlying73 rfl (t_info _)) rfl ?_; exact ⟨rfl, HR.out.2⟩
  | false =>
    have k1 : rL (c.toNat : Int) = false := h1; rw [h1, if_neg Bool.false_ne_true] at hR; rw [k1] at CL; clear h1 k1; cases h2 : isD c with
    | true =>
      rw [h2, if_pos rfl] at hR; have NI2 := hid (fun W h => NI.out h2 W h); rw [← hR, oneV_eq] at NI2; have k2 : rD (c.toNat : Int) = true := h2; rw [k2] at CD; clear h2 k2 hR NW NT NM NI; generalize tkOf a R = tk at *; generalize endOf a R = en at *; generalize errOf R = er at *; go_enter Tryz.func85, Tryz.ntmps85
      go_wp2_with (first
        | (go_at_call 138; refine (CL.out _).mono ?_; rintro e w' ⟨rfl, rfl⟩)
        | (go_at_call 140; refine (CD.out _).mono ?_; rintro e w' ⟨rfl, rfl⟩)
        | (go_at_call 141; refine (NI2.out _ (HHE.out.later HZ.out.2)).mono ?_; rintro e W3 ⟨rfl, hb3⟩; have HW := hid (HZ.out.later hb3); clear hb3)
        | (refine wpList_store_mid rfl 73 _ _ rfl w.heap.size 0 tk.cells.toArray rfl rfl HW.out.1.room (t_infoA _) (t_all _) ?_; have HR := hid (HW.out.put tk); generalize World.setCells _ _ _ _ = W8 at HR ⊢))
      refine bodyPost_ret (results_cell3 rfl _ _ rfl HR.out.1.cells Tryz.underlying73 rfl (t_info _)) rfl ?_; exact ⟨rfl, HR.out.2⟩
    | false =>
      have k2 : rD (c.toNat : Int) = false := h2; rw [h2, if_neg Bool.false_ne_true] at hR; rw [k2] at CD; clear h2 k2; by_cases h3 : c.toNat = 34
      · have k3 : ((c.toNat : Int) == 34) = true := by rw [h3]; rfl
        rw [if_pos h3] at hR; rw [← hR, oneV_eq] at NT; clear h3 hR NW NI NM; generalize tkOf a R = tk at *; generalize endOf a R = en at *; generalize errOf R = er at *; go_enter Tryz.func85, Tryz.ntmps85
        go_wp2_with (first
          | (go_at_call 138; refine (CL.out _).mono ?_; rintro e w' ⟨rfl, rfl⟩)
          | (go_at_call 140; refine (CD.out _).mono ?_; rintro e w' ⟨rfl, rfl⟩)
          | (go_at_call 142; refine (NT.out _).mono ?_; rintro e W3 ⟨rfl, hb3⟩; have HW := hid (HZ.out.later hb3); clear hb3)
          | (refine wpList_store_mid rfl 73 _ _ rfl w.heap.size 0 tk.cells.toArray rfl rfl HW.out.1.room (t_infoA _) (t_all _) ?_; have HR := hid (HW.out.put tk); generalize World.setCells _ _ _ _ = W8 at HR ⊢))
        refine bodyPost_ret (results_cell3 rfl _ _ rfl HR.out.1.cells Tryz.underlying73 rfl (t_info _)) rfl ?_; exact ⟨rfl, HR.out.2⟩
      · have k3 : ((c.toNat : Int) == 34) = false := by simp; omega
        rw [if_neg h3] at hR; rw [← hR, oneV_eq] at NM; clear h3 hR NW NI NT; generalize tkOf a R = tk at *; generalize endOf a R = en at *; generalize errOf R = er at *; go_enter Tryz.func85, Tryz.ntmps85
        go_wp2_with (first
          | (go_at_call 138; refine (CL.out _).mono ?_; rintro e w' ⟨rfl, rfl⟩)
          | (go_at_call 140; refine (CD.out _).mono ?_; rintro e w' ⟨rfl, rfl⟩)
          | (go_at_call 143; refine (NM.out _).mono ?_; rintro e W3 ⟨rfl, hb3⟩; have HW := hid (HZ.out.later hb3); clear hb3)
          | (refine wpList_store_mid rfl 73 _ _ rfl w.heap.size 0 tk.cells.toArray rfl rfl HW.out.1.room (t_infoA _) (t_all _) ?_; have HR := hid (HW.out.put tk); generalize World.setCells _ _ _ _ = W8 at HR ⊢))
        refine bodyPost_ret (results_cell3 rfl _ _ rfl HR.out.1.cells Tryz.underlying73 rfl (t_info _)) rfl ?_; exact ⟨rfl, HR.out.2⟩
end Go.Proofs.YtmljjpdodcpohaaGreatDoor.Lx

