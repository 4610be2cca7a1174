/- Rows of tokens, and the walk of lex; The walk of lex. No condition but those that each states. -/
import Derived.Test.YtmljjpdodcpohaaGreatDoorMgAK
namespace Go.Proofs.YtmljjpdodcpohaaGreatDoor.Lx
open Lib (hid)
set_option maxRecDepth 100000
set_option maxHeartbeats 4000000
open Go.RowKit Dk
theorem fold_set (k : Nat) : ∀ (c pre Z : List Value), pre.length = k → Z.length = c.length → (c.zipIdx k).foldl (fun (cs : Array Value) x => cs.setIfInBounds (0 + x.2) x.1) (pre ++ Z).toArray = (pre ++ c).toArray := by
  intro c; induction c generalizing k with
  | nil => intro pre Z _ hZ; obtain rfl : Z = [] := List.eq_nil_of_length_eq_zero hZ; rfl
  | cons x c ih =>
    intro pre Z hp hZ; cases Z with
    | nil => simp at hZ
    | cons z Z =>
      rw [List.zipIdx_cons, List.foldl_cons]
      have e : (pre ++ z :: Z).toArray.setIfInBounds (0 + k) x = ((pre ++ [x]) ++ Z).toArray := by
        rw [List.setIfInBounds_toArray, Nat.zero_add, List.set_append_right _ _ (by omega), hp, Nat.sub_self, List.set_cons_zero]; simp
      rw [e, ih (k + 1) (pre ++ [x]) Z (by simp [hp]) (by simpa using hZ)]; simp
theorem run_buildSlice_one {P : Program} (t e : TypeId) (z : Value) (bytes size : Nat) (c : List Value) (W : World) (hu : P.underlying t = some (.slice e)) (hinfo : (P.info? e).map (fun i => (i.zero, i.size, i.bytes)) = some (some z, size, bytes))
    (_hz : z.cells.size = size) (hc : c.length = size) (h1 : 0 < size) (h2 : size ≤ 16777216) :
    (Instr.buildSlice t 1 #[(0, .agg c.toArray)]).run P W = .ok (.slice (some ⟨W.heap.size, 0, none⟩) 1 1) (W.alloc (.cells c.toArray e)) := by
  obtain ⟨i, hi, hz0, hs, hb⟩ := info_parts hinfo; have hne : ¬ (16777216 < size) := by omega
  have hn0 : ¬ size = 0 := by omega
  have hfill : Instr.fill (fun i => some (i * size, size)) ((Array.range (1 * size)).map (z.cells[· % z.cells.size]!)) [(0, .agg c.toArray)] = some c.toArray := by
    have hZ : ∃ Z : List Value, (Array.range (1 * size)).map (z.cells[· % z.cells.size]!) = Z.toArray ∧ Z.length = size := ⟨((Array.range (1 * size)).map (z.cells[· % z.cells.size]!)).toList, by rw [Array.toArray_toList], by simp⟩; obtain ⟨Z, e1, e2⟩ := hZ; rw [e1]; have hf := fold_set 0 c [] Z rfl (by omega); simp only [List.nil_append] at hf; simp [Instr.fill, Value.cells, hc, e2]
    rw [← hf]; simp
  simp [Instr.buildSlice, run_underlying hu, sizeOf, typeInfo, hi, hs, zeroValue, hz0, hne, hn0]
  rw [Nat.one_mul] at hfill; rw [hfill]; simp [newRow, go_sem]
def tcells (l : List Tk) : List Value := l.flatMap Tk.cells
theorem tcells_app (a b : List Tk) : tcells (a ++ b) = tcells a ++ tcells b := by unfold tcells; rw [List.flatMap_append]
theorem tcells_cons (e : Tk) (l : List Tk) : tcells (e :: l) = e.cells ++ tcells l := rfl
theorem tcells_length (l : List Tk) : (tcells l).length = l.length * 4 := by
  induction l with
  | nil => rfl
  | cons a l ih => rw [tcells_cons, List.length_append, ih, List.length_cons]; show 4 + _ = _; omega
theorem tcells_ones (l : List Tk) : ∀ u ∈ tcells l, u.oneCell' = true := by
  intro u hu; obtain ⟨e, _, he⟩ := List.mem_flatMap.1 hu; exact t_one e u he
structure TR (w w' : World) (v : Value) (l : List Tk) : Prop where
  row : w'.ownsRow w.heap.size 73 4 v l.length (tcells l)
  below : Below w.heap.size w w'
theorem TR.later {w wr W : World} {v : Value} {l : List Tk} (h : TR w wr v l) (hb : Below wr.heap.size wr W) : TR w W v l :=
  ⟨ownsRow_block h.row (fun b hb' => hb.block b (own_lo h.row b hb').2), chain2 h.below hb⟩
theorem TR.first (w : World) : TR w w (.slice none 0 0) [] := ⟨World.ownsRow_nil _ _ _ _, Below.refl _ _⟩
theorem below_grown {B : Nat} {w w1 W : World} {row : Option Nat} (h : w1.grownBy W row) (hb : Below B w w1) (hr : ∀ k, row = some k → B ≤ k) (_hB : B ≤ w1.heap.size) (ha : B ≤ w.heap.size) : Below B w W :=
  (Only.of_grown (F := fun k => B ≤ k) h hr).below hb (fun _ h => h) ha
theorem TR.push {w W4 W7 : World} {v : Value} {l : List Tk} {e : Tk} {g' cap : Nat} {o : Obj} (h : TR w W4 v l) (hrow : W7.ownsRow w.heap.size 73 4 (.slice (some ⟨g', 0, none⟩) (l.length + 1) cap) (l.length + 1) (tcells l ++ e.cells))
    (hgr : (W4.alloc o).grownBy W7 v.ownBlock) : TR w W7 (.slice (some ⟨g', 0, none⟩) (l.length + 1) cap) (l ++ [e]) := by
  refine ⟨?_, below_grown hgr (h.below.alloc h.below.size o) (fun k hk => (own_lo h.row k hk).1) (by have := h.below.size; simp; omega) (Nat.le_refl _)⟩
  rw [List.length_append, tcells_app]; simpa [tcells] using hrow
theorem tb_zero (W : World) : TB (W.alloc (.cells #[.int .i64 0, .string ⟨#[]⟩, .int .i64 0, .int .i64 0] 73)) W.heap.size Tk.zero := tb_new W Tk.zero _
theorem tb_put (W : World) (e : Tk) : TB ((W.alloc (.cells #[.int .i64 0, .string ⟨#[]⟩, .int .i64 0, .int .i64 0] 73)).setCells W.heap.size 0 e.cells.toArray.toList) W.heap.size e ∧
    Below W.heap.size W ((W.alloc (.cells #[.int .i64 0, .string ⟨#[]⟩, .int .i64 0, .int .i64 0] 73)).setCells W.heap.size 0 e.cells.toArray.toList) :=
  ⟨(tb_zero W).set e, below_setCells (Below.refl _ _) _ (Nat.le_refl _) _ _ _ ((Below.refl _ _).alloc (Nat.le_refl _) _)⟩
theorem oneL_bad : ∀ (l : List UInt8) e, oneL l = .bad e → e = 9 ∨ e = 10
  | [], e, h => by cases h; exact .inl rfl
  | c :: r, e, h => by
    rw [oneL] at h; split at h
    · unfold wordOf at h
      split at h
      · cases h
      · split at h
        · cases h; exact .inr rfl
        · cases h
    · split at h
      · unfold intOf' at h
        split at h
        · cases h; exact .inr rfl
        · cases h
      · split at h
        · unfold textOf at h
          split at h
          · cases h; exact .inr rfl
          · cases h
        · unfold markOne at h
          split at h
          · cases h; exact .inl rfl
          · cases h
structure ScanOk (w w' : World) (x : Ending) (l : List UInt8) : Prop where
  yes : ∀ ts, l.length ≤ 8192 → scanL 0 l = .toks ts → ∃ v, x = .returned (.tuple #[v, .int .i64 0, .int .i64 0]) ∧ TR w w' v ts
  bad : ∀ e a, l.length ≤ 8192 → scanL 0 l = .bad e a → x = .returned (.tuple #[.slice none 0 0, .int .i64 (e : Int), .int .i64 (a : Int)])
  big : ¬l.length ≤ 8192 → x = .returned (.tuple #[.slice none 0 0, .int .i64 3, .int .i64 0])
  below : Below w.heap.size w w'
theorem scanAt_bad {p : Nat} {c : UInt8} {r : List UInt8} {e : Nat} (h : oneL (c :: r) = .bad e) : scanAt p (c :: r) = .bad e p := by unfold scanAt; dsimp only; rw [h]
theorem scanAt_tok {p : Nat} {c : UInt8} {r : List UInt8} {k : Nat} {t : List UInt8} {n len : Nat} (h : oneL (c :: r) = .tok k t n len) : scanAt p (c :: r) = (scanL (p + len) ((c :: r).drop len)).cons ⟨k, t, n, (p : Nat)⟩ := by unfold scanAt; dsimp only; rw [h]
theorem results_tmp3' {P : Program} {fn : Func} {t u v : Tmp} (h : fn.results = #[.tmp t, .tmp u, .tmp v]) (tmps : Array Value) (w : World) : (results fn tmps).run P w = .ok (.tuple #[tmps.getD t undef, tmps.getD u undef, tmps.getD v undef]) w := by
  simp [results, h, go_sem]
theorem scan_small (s : ByteArray) (w : World) (hs : s.size ≤ 8192) (HE : HasE w) :
    Calls Tryz.prog 46 #[.string s] w fun x w' => ScanOk w w' x s.data.toList := by
  have hsl : s.data.toList.length = s.size := by simp
  have HSL := hid hsl; have HHE := hid HE; have SK : Hid (∀ (a : Nat) W, a ≤ s.size → Calls Tryz.prog 84 #[.string s, .int .i64 (a : Int)] W fun e w' => e = .returned (.int .i64 ((a + skipN false (from' s a) : Nat) : Int)) ∧ Below W.heap.size W w') := hid (fun a W ha => skip_any s a W ha (by omega)); have H0 : Hid (∀ W, Below w.heap.size w W → TR w W (.slice none 0 0) []) := hid (fun W hb => (TR.first w).later hb); have hk0 := skipN_le false (from' s 0); rw [from_length] at hk0
  have HS0 : Hid (scanL 0 s.data.toList = (scanAt (0 + skipN false (from' s 0)) (from' s (0 + skipN false (from' s 0)))).pre []) := hid (by
    rw [pre_nil, scanL_at]; simp [from'])
  have C0 := hid (fun W => SK.out 0 W (Nat.zero_le _)); obtain ⟨a0, ha0⟩ : ∃ a0, a0 = 0 + skipN false (from' s 0) := ⟨_, rfl⟩; rw [← ha0] at HS0 C0; have hle0 : a0 ≤ s.size := by omega
  obtain ⟨i0, hi0, hy0, hy1, hy2⟩ := info_parts t_info3; clear hsl HE ha0 hk0; go_enter Tryz.func46, Tryz.ntmps46
  go_wp2_with (go_at_call 84; refine (C0.out _).mono ?_; rintro e W1 ⟨rfl, hb1⟩; have HT1 := hid (H0.out W1 hb1); clear hb1)
  go_loopw [5, 6] (fun vl vat wr => ∃ (ts : List Tk) (a : Nat), a ≤ s.size ∧ ts.length ≤ a ∧ vat = .int .i64 (a : Int) ∧ Hid (TR w wr vl ts) ∧ Hid (scanL 0 s.data.toList = (scanAt a (from' s a)).pre ts)) (fun _ vat _ => s.size - (intOf vat).toNat)
  case atStart => exact ⟨[], a0, hle0, Nat.zero_le _, rfl, HT1, HS0⟩
  case round =>
    clear HT1 HS0 C0 hle0; obtain ⟨ts, a, ha, hts, rfl, hT, hS⟩ := hrel; by_cases hlt : a < s.size
    · obtain ⟨c, r, hl⟩ : ∃ c r, from' s a = c :: r := by
        cases h : from' s a with
        | nil => have := from_length s a; rw [h] at this; simp at this; omega
        | cons c r => exact ⟨c, r, rfl⟩
      have hS' := hS.out; rw [hl] at hS'; have NX := hid (next_any s a c r wr hl (by omega) (HHE.out.later hT.out.below)); cases ho : oneL (c :: r) with
      | bad e =>
        rw [ho] at NX; rw [scanAt_bad ho] at hS'; have HS := hid hS'; have he := oneL_bad _ _ ho; have hz : ((e : Int) != 0) = true := by rw [bne_iff_ne]; omega
        clear ho hS hS' hl he; go_wp2_with fail
        refine NX.out.mono ?_; rintro x W2 ⟨rfl, hb2⟩; have HT2 := hid (hT.out.later hb2); have HZ := hid (tb_zero W2); have HP := hid (tb_put W2 Tk.zero); clear hb2 hT NX; unfold oneV; go_wp2_with (refine wpList_store_mid rfl 73 (.tmp 7) (.tmp 23) rfl W2.heap.size 0 Tk.zero.cells.toArray rfl rfl HZ.out.room (t_infoA _) (t_all _) ?_; generalize World.setCells _ _ _ _ = W3 at HP ⊢; have HT3 := hid (HT2.out.later HP.out.2); have HP3 := hid HP.out; clear HP)
        refine bodyPost_ret (results_tmp3' rfl _ _) rfl ?_; refine ⟨fun ts' _ h => ?_, fun e' a' _ h => ?_, fun h => absurd (by rw [HSL.out]; exact hs) h, HT3.out.below⟩
        · rw [HS.out] at h; cases h
        · rw [HS.out] at h; cases h; rfl
      | tok k t n len =>
        have hlen := oneL_len _ _ _ _ _ ho; have hfl := from_length s a; rw [hl] at hfl; have hfd := from_drop s a len; rw [hl] at hfd; have hk1 := skipN_le false (from' s (a + len)); rw [from_length] at hk1; rw [scanAt_tok ho, pre_cons, hfd, scanL_at (a + len), from_drop] at hS'; rw [ho, oneV] at NX; obtain ⟨b, hb⟩ : ∃ b, b = a + len + skipN false (from' s (a + len)) := ⟨_, rfl⟩; have C1 := hid (fun W => SK.out (a + len) W (by omega)); rw [← hb] at hS' C1; rw [Int.natCast_add a len] at C1; have HS := hid hS'; have hbl : b ≤ s.size ∧ a < b := by omega
        obtain ⟨hbl, hab⟩ := hbl; clear hfd hk1 hfl hlen hS hS' ho hb hl; generalize hE : Tk.mk k t n a = E at *; clear hE; have HONE := hid (t_one E); have HX : Hid (tcells (ts ++ [E]) = tcells ts ++ E.cells) := hid (by rw [tcells_app]; simp [tcells])
        have hbs : ∀ W, (Instr.buildSlice 25 1 #[(0, .agg E.cells.toArray)]).run Tryz.prog W = .ok (.slice (some ⟨W.heap.size, 0, none⟩) 1 1) (W.alloc (.cells E.cells.toArray 73)) :=
          fun W => run_buildSlice_one 25 73 _ 40 4 E.cells W Tryz.underlying25 t_info3 rfl rfl (by decide) (by decide)
        have HNEW : Hid (∀ (W : World) (j : Nat) (u : Value), E.cells[j]? = some u → (W.alloc (.cells E.cells.toArray 73)).cell? ((⟨W.heap.size, 0, none⟩ : Addr).add j) = some u) := hid (fun W j u hu => news_at W E.cells.toArray _ j u (by simpa using hu)); generalize hm : ts.length = m at *; have HM := hid hm; clear hm; have HI := hid (t_info E); have hl4 : E.cells.length = 4 := rfl; go_wp2_with fail
        refine NX.out.mono ?_; rintro e W2 ⟨rfl, hb2⟩; have HT2 := hid (hT.out.later hb2); have HZ := hid (tb_zero W2); have HP := hid (tb_put W2 E); clear hb2 hT NX
        go_wp2_with (first
          | (refine wpList_store_mid rfl 73 (.tmp 7) (.tmp 23) rfl W2.heap.size 0 E.cells.toArray rfl rfl HZ.out.room (t_infoA E) (t_all E) ?_; generalize World.setCells _ _ _ _ = W3 at HP ⊢; have HT3 := hid (HT2.out.later HP.out.2); have HP3 := hid HP.out; clear HP)
          | (refine wpList_load_mid rfl 73 (.tmp 7) rfl W2.heap.size 0 rfl E.cells _ HP3.out.1.cells Tryz.underlying73 rfl HI.out ?_)
          | (refine wpList_append_lies _ rfl (.tmp 30) (.tmp 32) 25 rfl w.heap.size 73 i0 _ 4 40 Tryz.underlying25 hi0 hy0 hy1 hy2 rfl (by decide) _ m (tcells ts) rfl (by have := HT3.out.row.alloc (.cells E.cells.toArray 73); rw [HM.out] at this; exact this) ⟨W3.heap.size, 0, none⟩ 1 1 E.cells rfl rfl (HNEW.out W3) HONE.out (by decide) (by unfold maxLen; omega) (by omega) (by have := HT3.out.below.size; simp; omega) (W3.heap.size + 1) (by simp) ?_; intro g' cap W7 hrow hgr hgl hlt7; have HT7 := hid (HT3.out.push (e := E) (g' := g') (cap := cap) (by rw [HM.out]; exact hrow) hgr); rw [HM.out] at HT7; clear HT3 hrow hgr hgl hlt7)
          | (go_at_call 84; refine (C1.out _).mono ?_; rintro e W8 ⟨rfl, hb8⟩; have HT8 := hid (HT7.out.later hb8); clear hb8 HT7))
        go_roundw
        case rel => exact ⟨ts ++ [E], b, hbl, by rw [List.length_append, HM.out, List.length_singleton]; omega, rfl, HT8, HS⟩
        case measure => simp [intOf]; omega
    · obtain rfl : a = s.size := by omega
      have hS' := hS.out; rw [show from' s s.size = [] from List.eq_nil_of_length_eq_zero (by rw [from_length]; omega)] at hS'
      have HS : Hid (scanL 0 s.data.toList = .toks ts) := hid (by rw [hS']; show SR.toks (ts ++ []) = _; rw [List.append_nil])
      clear hS hS'; go_wp2; refine bodyPost_ret (results_tmp3' rfl _ _) rfl ?_; refine ⟨fun ts' _ h => ?_, fun e' a' _ h => ?_, fun h => absurd (by rw [HSL.out]; exact hs) h, hT.out.below⟩
      · rw [HS.out] at h; cases h; exact ⟨_, rfl, hT.out⟩
      · rw [HS.out] at h; cases h
theorem scan_big (s : ByteArray) (w : World) (hs : ¬s.size ≤ 8192) : Calls Tryz.prog 46 #[.string s] w fun x w' => ScanOk w w' x s.data.toList := by
  have hsl : s.data.toList.length = s.size := by simp
  have hn : ¬s.data.toList.length ≤ 8192 := by omega
  have h1 : (s.size : Int) > 8192 := by omega
  have HN := hid hn; clear hsl hn hs; go_enter Tryz.func46, Tryz.ntmps46
  go_wp2; refine bodyPost_ret (results_tmp3' rfl _ _) rfl ?_; exact ⟨fun _ h _ => absurd h HN.out, fun _ _ h _ => absurd h HN.out, fun _ => rfl, Below.refl _ _⟩
theorem scan_any (s : ByteArray) (w : World) (HE : HasE w) : Calls Tryz.prog 46 #[.string s] w fun x w' => ScanOk w w' x s.data.toList := by
  by_cases h : s.size ≤ 8192
  · exact scan_small s w h HE
  · exact scan_big s w h
end Go.Proofs.YtmljjpdodcpohaaGreatDoor.Lx

namespace Go.Proofs.YtmljjpdodcpohaaGreatDoor.Lx
open Lib (hid)
set_option maxRecDepth 100000
set_option maxHeartbeats 4000000
open Go.RowKit Dk
theorem own_cells {w : World} {base : Nat} {e : TypeId} {size n : Nat} {v : Value} {xs : List Value} (h : w.ownsRow base e size v n xs) : ∀ b, v.ownBlock = some b → ∃ c f, w.heap[b]? = some (.cells c e f) := by
  intro b hb; rcases h.2 with ⟨rfl, _⟩ | ⟨g, cap, cur, rfl, hbg, hg, _⟩
  · cases hb
  · cases hb
    exact ⟨_, _, hg⟩
structure IX (w W : World) (k : Nat) (v : Value) (pre : List UInt8) (t : ByteArray) (i : Nat) : Prop where
  iter : W.heap[k]? = some (.stringIter t i)
  row : W.ownsRow w.heap.size 5 1 v pre.length (bv pre)
  below : Below w.heap.size w W
  lo : w.heap.size ≤ k
theorem IX.ne {w W : World} {k : Nat} {v : Value} {pre : List UInt8} {t : ByteArray} {i : Nat} (h : IX w W k v pre t i) : ∀ b, v.ownBlock = some b → b ≠ k := by
  intro b hb e; obtain ⟨c, f, hc⟩ := own_cells h.row b hb; rw [e, h.iter] at hc; cases hc
theorem IX.next {w W W1 : World} {k : Nat} {v : Value} {pre : List UInt8} {t : ByteArray} {i j : Nat} (h : IX w W k v pre t i) (h1 : W1.heap[k]? = some (.stringIter t j)) (h2 : ∀ B w', B ≤ k → Below B w' W → Below B w' W1) (h3 : ∀ j, j ≠ k → W1.heap[j]? = W.heap[j]?) : IX w W1 k v pre t j :=
  ⟨h1, ownsRow_block h.row (fun b hb' => h3 b (h.ne b hb')), h2 _ _ h.lo h.below, h.lo⟩
theorem IX.grown {w W W1 W' : World} {k : Nat} {v v' : Value} {pre pre' : List UInt8} {t : ByteArray} {i : Nat} (h : IX w W k v pre t i) (hW : Below W.heap.size W W1) (hg : W1.grownBy W' v.ownBlock) (hrow : W'.ownsRow w.heap.size 5 1 v' pre'.length (bv pre')) : IX w W' k v' pre' t i := by
  have ho : Only (fun b => v.ownBlock = some b) W W' := (Only.of_below (F := fun b => v.ownBlock = some b) hW).trans (Only.of_grown (F := fun b => v.ownBlock = some b) hg (fun k hk => hk)) (fun _ _ h => h)
  have hk : k < W.heap.size := by
    rcases Nat.lt_or_ge k W.heap.size with h4 | h4
    · exact h4
    · have := h.iter; rw [Array.getElem?_eq_none h4] at this; cases this
  exact ⟨(ho.block _ hk (fun e => h.ne k e rfl)).trans h.iter, hrow, ho.below h.below (fun b hb => (own_lo h.row b hb).1) (Nat.le_refl _), h.lo⟩
theorem IX.appS {w W W' : World} {k : Nat} {v v' : Value} {pre mid : List UInt8} {t : ByteArray} {i : Nat} (h : IX w W k v pre t i) (hrow : W'.ownsRow w.heap.size 5 1 v' (pre.length + (strOf mid).size) (bv pre ++ Lib.strCells (strOf mid))) (hg : W.grownBy W' v.ownBlock) : IX w W' k v' (pre ++ mid) t i :=
  h.grown (Below.refl _ _) hg (by rw [strOf_size, strCells_bv, ← bv_append, ← List.length_append] at hrow; exact hrow)
theorem IX.app2 {w W W' : World} {k : Nat} {v v' : Value} {pre : List UInt8} {x y : UInt8} {t : ByteArray} {i : Nat} {o : Obj} (h : IX w W k v pre t i) (hrow : W'.ownsRow w.heap.size 5 1 v' (pre.length + 2) (bv pre ++ [.int .u8 (x.toNat : Int), .int .u8 (y.toNat : Int)])) (hg : (W.alloc o).grownBy W' v.ownBlock) : IX w W' k v' (pre ++ [x, y]) t i :=
  h.grown ((Below.refl _ _).alloc (Nat.le_refl _) _) hg (by rw [show [Value.int .u8 (x.toNat : Int), Value.int .u8 (y.toNat : Int)] = bv [x, y] from rfl, ← bv_append] at hrow; rw [List.length_append]; exact hrow)
theorem IX.app1 {w W W' : World} {k : Nat} {v v' : Value} {pre : List UInt8} {x : UInt8} {t : ByteArray} {i : Nat} {o : Obj} (h : IX w W k v pre t i) (hrow : W'.ownsRow w.heap.size 5 1 v' (pre.length + 1) (bv pre ++ [.int .u8 (x.toNat : Int)])) (hg : (W.alloc o).grownBy W' v.ownBlock) : IX w W' k v' (pre ++ [x]) t i :=
  h.grown ((Below.refl _ _).alloc (Nat.le_refl _) _) hg (by rw [show [Value.int .u8 (x.toNat : Int)] = bv [x] from rfl, ← bv_append] at hrow; rw [List.length_append]; exact hrow)
theorem esc_len (c : UInt8) : (escL c).length ≤ 2 := by
  unfold escL; split
  · simp
  · split <;> simp
theorem flat_len : ∀ l : List UInt8, (l.flatMap escL).length ≤ 2 * l.length
  | [] => by simp
  | c :: r => by
    have := flat_len r; have := esc_len c; rw [List.flatMap_cons, List.length_append, List.length_cons]; omega
theorem esc_plain {c : UInt8} (h1 : c.toNat ≠ 10) (h2 : c.toNat ≠ 34) (h3 : c.toNat ≠ 92) : escL c = [c] := by unfold escL; rw [if_neg h1, if_neg (by omega)]
theorem flat_plain : ∀ l : List UInt8, (∀ c ∈ l, escL c = [c]) → l.flatMap escL = l
  | [], _ => rfl
  | c :: r, h => by rw [List.flatMap_cons, h c (by simp), flat_plain r (fun x hx => h x (by simp [hx]))]; rfl
section
variable {T : List UInt8} {i n : Nat} {r : Int}
def escI (r : Int) : UInt8 := if r = 10 then 110 else r.toNat.toUInt8
theorem esc_yes (h : Rune T i r n) (hr : r = 10 ∨ r = 34 ∨ r = 92) : (T.take (i + 1)).flatMap escL = (T.take i).flatMap escL ++ [92, escI r] ∧ n = 1 ∧ escR r = .tuple #[.int .u8 ((escI r).toNat : Int), .bool true] := by
  obtain ⟨c, e, hc, rfl⟩ := h.first (by omega); have hcr : r.toNat.toUInt8 = c := by rw [hc]; simp
  have he : escL c = [92, escI r] := by
    unfold escL escI; by_cases h1 : r = 10
    · rw [if_pos (by omega), if_pos h1]
    · rw [if_neg (by omega), if_pos (by omega), if_neg h1, hcr]
  refine ⟨?_, rfl, ?_⟩
  · have hl := h.lt
    have e2 := List.drop_eq_getElem_cons hl; rw [e] at e2; rw [List.take_succ_eq_append_getElem hl, List.flatMap_append, ← (List.cons.inj e2).1, List.flatMap_cons, he]; rfl
  · unfold escR escI
    rcases hr with rfl | rfl | rfl <;> rfl
theorem esc_not (h : Rune T i r n) (hr : r ≠ 10 ∧ r ≠ 34 ∧ r ≠ 92) : (T.take (i + n)).flatMap escL = (T.take i).flatMap escL ++ (T.drop i).take n ∧ escR r = .tuple #[.int .u8 0, .bool false] := by
  constructor
  · rw [List.take_add, List.flatMap_append]
    congr 1
    apply flat_plain
    intro c hc; rcases h.is with ⟨d, e, h2, h3, rfl⟩ | ⟨h1, h2⟩
    · rw [e] at hc
      simp at hc
      subst hc; exact esc_plain (by omega) (by omega) (by omega)
    · have := h2 c hc
      exact esc_plain (by omega) (by omega) (by omega)
  · unfold escR; rw [if_neg hr.1, if_neg (by omega)]
end
theorem quote_any (T : List UInt8) (w : World) (hs : T.length ≤ 2 ^ 40) :
    Calls Tryz.prog 72 #[.string (strOf T)] w fun e w' => e = .returned (.string (strOf (quoteL T))) ∧ Below w.heap.size w w' := by
  obtain ⟨i0, hi0, hy0, hy1, hy2⟩ := info_parts b_info3; have hTs := strOf_size T
  have HMID : Hid (∀ (k i : Nat) (W : World), k ≤ i → i ≤ T.length → (Instr.slice 9 (.string (strOf T)) (some (.int .i64 (k : Int))) (some (.int .i64 (i : Int))) none).run Tryz.prog W = .ok (.string (strOf ((T.drop k).take (i - k)))) W) := hid (fun k i W hk hi => by
    have := run_mid (P := Tryz.prog) (strOf T) k (i - k) (by omega) 9 Tryz.underlying9 W; rw [show (k : Int) + ((i - k : Nat) : Int) = (i : Int) by omega] at this; unfold from' at this
    rw [strOf_toList] at this
    exact this)
  go_enter Tryz.func72, Tryz.ntmps72
  go_wp2; go_loopw [3, 4] (fun vo vk wr => ∃ (i k : Nat) (pre : List UInt8), i ≤ T.length ∧ k ≤ i ∧ vk = .int .i64 (k : Int) ∧ Hid (IX w wr (w.heap.size + 1) vo pre (strOf T) i) ∧ Hid (pre ++ (T.drop k).take (i - k) = 34 :: (T.take i).flatMap escL)) (fun _ _ wr => T.length - wr.iterPos (w.heap.size + 1))
  case atStart =>
    refine ⟨0, 0, [34], Nat.zero_le _, Nat.le_refl _, rfl, ?_, hid (by simp)⟩; have hsz : (w.alloc (.cells #[.int .u8 34] 5)).heap.size = w.heap.size + 1 := by simp
    have hit := World.iter_heap (w.alloc (.cells #[.int .u8 34] 5)) (strOf T) 0; rw [hsz] at hit; refine hid ⟨hit, ownsRow_block (World.ownsRow_lit w #[.int .u8 34] 1 (Nat.le_refl _) (by unfold maxLen; omega) rfl) (fun b hb => ?_), below_iter ((Below.refl _ _).alloc (Nat.le_refl _) _) (by simp) _ _, by omega⟩
    cases hb
    exact iter_old _ _ _ w.heap.size (by rw [hsz]; omega)
  case round =>
    obtain ⟨i, k, pre, hi, hk, rfl, hX, hS⟩ := hrel; by_cases hlt : i < T.length
    · obtain ⟨r, n, w1, hR, hn, hit1, hB1, ho1, hs1⟩ := iter_step (P := Tryz.prog) hX.out.iter (by omega)
      rw [strOf_toList] at hR; have HX := hid (hX.out.next hit1 hB1 ho1); have hle : i + n ≤ T.length := hR.le; have hpos := hR.pos; have HM : Hid (∀ W : World, W.heap[w.heap.size + 1]? = some (Obj.stringIter (strOf T) (i + n)) → T.length - W.iterPos (w.heap.size + 1) < T.length - wr.iterPos (w.heap.size + 1)) := hid (fun W h => by rw [iterPos_of h, iterPos_of hX.out.iter]; omega)
      have hlen := congrArg List.length hS.out; have hfl := flat_len (T.take i); rw [List.length_append, List.length_take, List.length_drop, List.length_cons] at hlen; rw [List.length_take] at hfl; have C := hid (fun W => escape_any r W); by_cases hy : r = 10 ∨ r = 34 ∨ r = 92
      · obtain ⟨q1, rfl, q3⟩ := esc_yes hR hy
        rw [q3] at C; have hmid := fun W => HMID.out k i W hk hi
        have hml := strOf_size ((T.drop k).take (i - k)); have hmt : ((T.drop k).take (i - k)).length = i - k := by rw [List.length_take, List.length_drop]; omega
        have hS' := hS.out; generalize (T.drop k).take (i - k) = mid at *; generalize escI r = x at *; obtain ⟨q, hq⟩ : ∃ q, q = pre ++ mid := ⟨_, rfl⟩; have HQQ := hid hq; have HS : Hid (q ++ [92, x] = 34 :: (T.take (i + 1)).flatMap escL) := hid (by rw [hq, q1, hS']; rfl)
        have HLM : Hid (pre.length + (strOf mid).size ≤ 2 ^ 43) := hid (by omega); have HL2 : Hid (q.length ≤ 2 ^ 43) := hid (by rw [hq, List.length_append]; omega)
        have HQ := hid (show i + 1 ≤ T.length from hle); clear hR hB1 hit1 ho1 hs1 hX hlen hfl q1 q3 hy hml hmt hS hS' hle hpos hq
        go_wp2_with (first
          | (go_at_call 111; refine (C.out _).mono ?_; rintro e w' ⟨rfl, rfl⟩)
          | (at_builtin; refine Lib.wpList_append_own_string _ rfl _ _ 63 9 rfl w.heap.size 5 i0 Tryz.underlying63 Tryz.underlying9 hi0 hy0 hy1 hy2 _ pre.length (bv pre) rfl HX.out.row (strOf mid) rfl (by have := HLM.out; unfold maxLen; omega) (by have := HLM.out; omega) HX.out.below.size ?_; intro v' W' hrow hgr _; have HX2 := hid (HX.out.appS hrow hgr); rw [← HQQ.out] at HX2; clear hrow hgr)
          | (refine wpList_append_lies _ rfl (.tmp 29) (.tmp 31) 63 rfl w.heap.size 5 i0 (.int .u8 0) 1 1 Tryz.underlying63 hi0 hy0 hy1 hy2 rfl (by decide) _ q.length (bv q) rfl (HX2.out.row.alloc _) ⟨W'.heap.size, 0, none⟩ 2 2 [.int .u8 92, .int .u8 (x.toNat : Int)] rfl rfl (news_at W' #[.int .u8 92, .int .u8 (x.toNat : Int)] 5) (by simp [Value.oneCell']) (by decide) (by have := HL2.out; unfold maxLen; omega) (by have := HL2.out; omega) (by have := HX2.out.below.size; simp; omega) (W'.heap.size + 1) (by simp) ?_; intro g cap W7 hrow hgr hgl hlt7; have HX3 := hid (HX2.out.app2 (x := 92) (y := x) hrow hgr); clear hrow hgr hgl hlt7))
        go_roundw
        case rel => exact ⟨i + 1, i + 1, q ++ [92, x], HQ.out, Nat.le_refl _, by go_num, HX3, hid (by rw [Nat.sub_self, List.take_zero, List.append_nil]; exact HS.out)⟩
        case measure => exact HM.out _ HX3.out.iter
      · have hno : r ≠ 10 ∧ r ≠ 34 ∧ r ≠ 92 := by omega
        obtain ⟨q1, q2⟩ := esc_not hR hno; rw [q2] at C
        have HS : Hid (pre ++ (T.drop k).take (i + n - k) = 34 :: (T.take (i + n)).flatMap escL) := hid (by
          rw [q1, ← take_more T k i n hk, ← List.append_assoc, hS.out]; rfl)
        have HQ := hid (show i + n ≤ T.length ∧ k ≤ i + n from ⟨hle, by omega⟩); clear hR hB1 hit1 ho1 hs1 hX hlen hfl q1 q2 hy hno hS hle hpos; go_wp2_with (go_at_call 111; refine (C.out _).mono ?_; rintro e w' ⟨rfl, rfl⟩)
        go_roundw
        case rel => exact ⟨i + n, k, pre, HQ.out.1, HQ.out.2, rfl, HX, HS⟩
        case measure => exact HM.out _ HX.out.iter
    · obtain rfl : i = T.length := by omega
      have hn := fun ty => Lib.run_next_end_at (P := Tryz.prog) wr (w.heap.size + 1) (strOf T) T.length ty hX.out.iter (by omega)
      have HX := hX
      have hsl : ∀ W : World, (Instr.slice 9 (.string (strOf T)) (some (.int .i64 (k : Int))) none none).run Tryz.prog W = .ok (.string (strOf (T.drop k))) W := fun W => by
        have := run_from (P := Tryz.prog) (strOf T) k (by omega) 9 Tryz.underlying9 W; rw [← strOf_self ((strOf T).extract k (strOf T).size), extract_list] at this; unfold from' at this
        rw [strOf_toList] at this; exact this
      have hS' := hS.out; have hlen := congrArg List.length hS.out; have hfl := flat_len T; rw [List.take_of_length_le (l := T) (Nat.le_refl _)] at hS' hlen; rw [List.length_append, List.length_take, List.length_drop, List.length_cons] at hlen; rw [List.take_of_length_le (by rw [List.length_drop]; omega)] at hS'
      have hml := strOf_size (T.drop k); rw [List.length_drop] at hml; generalize T.drop k = mid at *; obtain ⟨q, hq⟩ : ∃ q, q = pre ++ mid := ⟨_, rfl⟩; have HQQ := hid hq; have HS : Hid (q ++ [34] = quoteL T) := hid (by rw [hq, hS']; rfl)
      have HLM : Hid (pre.length + (strOf mid).size ≤ 2 ^ 43) := hid (by omega); have HL2 : Hid (q.length ≤ 2 ^ 43) := hid (by rw [hq, hS', List.length_cons]; omega)
      clear hX hS hS' hlen hfl hml hi hlt hq
      go_wp2_with (first
        | (at_builtin; refine Lib.wpList_append_own_string _ rfl _ _ 63 9 rfl w.heap.size 5 i0 Tryz.underlying63 Tryz.underlying9 hi0 hy0 hy1 hy2 _ pre.length (bv pre) rfl HX.out.row (strOf mid) rfl (by have := HLM.out; unfold maxLen; omega) (by have := HLM.out; omega) HX.out.below.size ?_; intro v' W' hrow hgr _; have HX2 := hid (HX.out.appS hrow hgr); rw [← HQQ.out] at HX2; clear hrow hgr)
        | (refine wpList_append_lies _ rfl (.tmp 40) (.tmp 41) 63 rfl w.heap.size 5 i0 (.int .u8 0) 1 1 Tryz.underlying63 hi0 hy0 hy1 hy2 rfl (by decide) _ q.length (bv q) rfl (HX2.out.row.alloc _) ⟨W'.heap.size, 0, none⟩ 1 1 [.int .u8 34] rfl rfl (news_at W' #[.int .u8 34] 5) (by simp [Value.oneCell']) (by decide) (by have := HL2.out; unfold maxLen; omega) (by have := HL2.out; omega) (by have := HX2.out.below.size; simp; omega) (W'.heap.size + 1) (by simp) ?_; intro g cap W7 hrow hgr hgl hlt7; have HX3 := hid (HX2.out.app1 (x := 34) hrow hgr); clear hrow hgr hgl hlt7; have g2 := run_convert_owned (P := Tryz.prog) (src := 63) (dst := 9) Tryz.underlying63 Tryz.underlying5 Tryz.underlying9 HX3.out.row))
      go_ret; exact ⟨by rw [← HS.out]; rfl, HX3.out.below⟩
end Go.Proofs.YtmljjpdodcpohaaGreatDoor.Lx

