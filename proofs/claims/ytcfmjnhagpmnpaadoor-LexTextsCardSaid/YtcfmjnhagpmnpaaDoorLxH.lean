/- Rows of tokens, and the walk of lex.Scan: its contract. No condition but those that each states. -/
import Derived.Test.YtcfmjnhagpmnpaaDoorLxG
namespace Go.Proofs.YtcfmjnhagpmnpaaDoor.Lx
open Go.RowKit Dk

theorem fold_set (k : Nat) : ∀ (c pre Z : List Value), pre.length = k → Z.length = c.length → (c.zipIdx k).foldl (fun (cs : Array Value) x => cs.setIfInBounds (0 + x.2) x.1) (pre ++ Z).toArray = (pre ++ c).toArray := by
  intro c
  induction c generalizing k with
  | nil => intro pre Z _ hZ; obtain rfl : Z = [] := List.eq_nil_of_length_eq_zero hZ; rfl
  | cons x c ih =>
    intro pre Z hp hZ
    cases Z with
    | nil => simp at hZ
    | cons z Z =>
      rw [List.zipIdx_cons, List.foldl_cons]
      have e : (pre ++ z :: Z).toArray.setIfInBounds (0 + k) x = ((pre ++ [x]) ++ Z).toArray := by
        rw [List.setIfInBounds_toArray, Nat.zero_add, List.set_append_right _ _ (by omega), hp, Nat.sub_self, List.set_cons_zero]; simp
      rw [e, ih (k + 1) (pre ++ [x]) Z (by simp [hp]) (by simpa using hZ)]
      simp

theorem run_buildSlice_one {P : Program} (t e : TypeId) (z : Value) (bytes size : Nat) (c : List Value) (W : World) (hu : P.underlying t = some (.slice e)) (hinfo : (P.info? e).map (fun i => (i.zero, i.size, i.bytes)) = some (some z, size, bytes))
    (_hz : z.cells.size = size) (hc : c.length = size) (h1 : 0 < size) (h2 : size ≤ 16777216) :
    (Instr.buildSlice t 1 #[(0, .agg c.toArray)]).run P W = .ok (.slice (some ⟨W.heap.size, 0, none⟩) 1 1) (W.alloc (.cells c.toArray e)) := by
  obtain ⟨i, hi, hz0, hs, hb⟩ := info_parts hinfo
  have hne : ¬ (16777216 < size) := by omega
  have hn0 : ¬ size = 0 := by omega
  have hfill : Instr.fill (fun i => some (i * size, size)) ((Array.range (1 * size)).map (z.cells[· % z.cells.size]!)) [(0, .agg c.toArray)] = some c.toArray := by
    have hZ : ∃ Z : List Value, (Array.range (1 * size)).map (z.cells[· % z.cells.size]!) = Z.toArray ∧ Z.length = size := ⟨((Array.range (1 * size)).map (z.cells[· % z.cells.size]!)).toList, by rw [Array.toArray_toList], by simp⟩
    obtain ⟨Z, e1, e2⟩ := hZ
    rw [e1]
    have hf := fold_set 0 c [] Z rfl (by omega)
    simp only [List.nil_append] at hf
    simp [Instr.fill, Value.cells, hc, e2]
    rw [← hf]
    simp
  simp [Instr.buildSlice, run_underlying hu, sizeOf, typeInfo, hi, hs, zeroValue, hz0, hne, hn0]
  rw [Nat.one_mul] at hfill
  rw [hfill]
  simp [newRow, go_sem]

/-- The cells of a row of tokens. -/
def tcells (l : List Tk) : List Value := l.flatMap Tk.cells
theorem tcells_app (a b : List Tk) : tcells (a ++ b) = tcells a ++ tcells b := by unfold tcells; rw [List.flatMap_append]
theorem tcells_cons (e : Tk) (l : List Tk) : tcells (e :: l) = e.cells ++ tcells l := rfl
theorem tcells_length (l : List Tk) : (tcells l).length = l.length * 4 := by
  induction l with
  | nil => rfl
  | cons a l ih => rw [tcells_cons, List.length_append, ih, List.length_cons]; show 4 + _ = _; omega
theorem tcells_ones (l : List Tk) : ∀ u ∈ tcells l, u.oneCell' = true := by
  intro u hu
  obtain ⟨e, _, he⟩ := List.mem_flatMap.1 hu
  exact t_one e u he

/-- A row of its own that holds these tokens. -/
structure TR (w w' : World) (v : Value) (l : List Tk) : Prop where
  row : w'.ownsRow w.heap.size 29 4 v l.length (tcells l)
  below : Below w.heap.size w w'

theorem TR.later {w wr W : World} {v : Value} {l : List Tk} (h : TR w wr v l) (hb : Below wr.heap.size wr W) : TR w W v l :=
  ⟨ownsRow_block h.row (fun b hb' => hb.block b (own_lo h.row b hb').2), chain2 h.below hb⟩
theorem TR.first (w : World) : TR w w (.slice none 0 0) [] := ⟨World.ownsRow_nil _ _ _ _, Below.refl _ _⟩

theorem below_grown {B : Nat} {w w1 W : World} {row : Option Nat} (h : w1.grownBy W row) (hb : Below B w w1) (hr : ∀ k, row = some k → B ≤ k) (_hB : B ≤ w1.heap.size) (ha : B ≤ w.heap.size) : Below B w W :=
  (Only.of_grown (F := fun k => B ≤ k) h hr).below hb (fun _ h => h) ha

theorem TR.push {w W4 W7 : World} {v : Value} {l : List Tk} {e : Tk} {g' cap : Nat} {o : Obj} (h : TR w W4 v l) (hrow : W7.ownsRow w.heap.size 29 4 (.slice (some ⟨g', 0, none⟩) (l.length + 1) cap) (l.length + 1) (tcells l ++ e.cells))
    (hgr : (W4.alloc o).grownBy W7 v.ownBlock) : TR w W7 (.slice (some ⟨g', 0, none⟩) (l.length + 1) cap) (l ++ [e]) := by
  refine ⟨?_, below_grown hgr (h.below.alloc h.below.size o) (fun k hk => (own_lo h.row k hk).1) (by have := h.below.size; simp; omega) (Nat.le_refl _)⟩
  rw [List.length_append, tcells_app]
  simpa [tcells] using hrow

theorem tb_zero (W : World) : TB (W.alloc (.cells #[.int .i64 0, .string ⟨#[]⟩, .int .i64 0, .int .i64 0] 29)) W.heap.size Tk.zero := tb_new W Tk.zero _

/-- A token that was put into a new block. -/
theorem tb_put (W : World) (e : Tk) : TB ((W.alloc (.cells #[.int .i64 0, .string ⟨#[]⟩, .int .i64 0, .int .i64 0] 29)).setCells W.heap.size 0 e.cells.toArray.toList) W.heap.size e ∧
    Below W.heap.size W ((W.alloc (.cells #[.int .i64 0, .string ⟨#[]⟩, .int .i64 0, .int .i64 0] 29)).setCells W.heap.size 0 e.cells.toArray.toList) :=
  ⟨(tb_zero W).set e, below_setCells (Below.refl _ _) _ (Nat.le_refl _) _ _ _ ((Below.refl _ _).alloc (Nat.le_refl _) _)⟩

theorem oneL_bad : ∀ (l : List UInt8) e, oneL l = .bad e → e = 9 ∨ e = 10
  | [], e, h => by cases h; exact .inl rfl
  | c :: r, e, h => by
    rw [oneL] at h
    split at h
    · unfold wordOf at h
      split at h
      · cases h
      · split at h
        · cases h; exact .inr rfl
        · cases h
    · split at h
      · unfold intOf' at h
        split at h
        · cases h; exact .inr rfl
        · cases h
      · split at h
        · unfold textOf at h
          split at h
          · cases h; exact .inr rfl
          · cases h
        · unfold markOne at h
          split at h
          · cases h; exact .inl rfl
          · cases h

/-- What Scan answers, and the row. -/
structure ScanOk (w w' : World) (x : Ending) (l : List UInt8) : Prop where
  yes : ∀ ts, l.length ≤ 8192 → scanL 0 l = .toks ts → ∃ v, x = .returned (.tuple #[v, .int .i64 0, .int .i64 0]) ∧ TR w w' v ts
  bad : ∀ e a, l.length ≤ 8192 → scanL 0 l = .bad e a → x = .returned (.tuple #[.slice none 0 0, .int .i64 (e : Int), .int .i64 (a : Int)])
  big : ¬l.length ≤ 8192 → x = .returned (.tuple #[.slice none 0 0, .int .i64 3, .int .i64 0])
  below : Below w.heap.size w w'

theorem scanAt_bad {p : Nat} {c : UInt8} {r : List UInt8} {e : Nat} (h : oneL (c :: r) = .bad e) : scanAt p (c :: r) = .bad e p := by unfold scanAt; dsimp only; rw [h]
theorem scanAt_tok {p : Nat} {c : UInt8} {r : List UInt8} {k : Nat} {t : List UInt8} {n len : Nat} (h : oneL (c :: r) = .tok k t n len) : scanAt p (c :: r) = (scanL (p + len) ((c :: r).drop len)).cons ⟨k, t, n, (p : Nat)⟩ := by unfold scanAt; dsimp only; rw [h]

theorem results_tmp3' {P : Program} {fn : Func} {t u v : Tmp} (h : fn.results = #[.tmp t, .tmp u, .tmp v]) (tmps : Array Value) (w : World) : (results fn tmps).run P w = .ok (.tuple #[tmps.getD t undef, tmps.getD u undef, tmps.getD v undef]) w := by
  simp [results, h, go_sem]

set_option maxHeartbeats 4000000 in
set_option maxRecDepth 100000 in
theorem scan_small (s : ByteArray) (w : World) (hs : s.size ≤ 8192) (HE : HasE w) :
    Calls Tryd.prog 11 #[.string s] w fun x w' => ScanOk w w' x s.data.toList := by
  have hsl : s.data.toList.length = s.size := by simp
  have HSL := Lib.hid hsl
  have HHE := Lib.hid HE
  have SK : Hid (∀ (a : Nat) W, a ≤ s.size → Calls Tryd.prog 22 #[.string s, .int .i64 (a : Int)] W fun e w' => e = .returned (.int .i64 ((a + skipN false (from' s a) : Nat) : Int)) ∧ Below W.heap.size W w') := Lib.hid (fun a W ha => skip_any s a W ha (by omega))
  have H0 : Hid (∀ W, Below w.heap.size w W → TR w W (.slice none 0 0) []) := Lib.hid (fun W hb => (TR.first w).later hb)
  have hk0 := skipN_le false (from' s 0)
  rw [from_length] at hk0
  have HS0 : Hid (scanL 0 s.data.toList = (scanAt (0 + skipN false (from' s 0)) (from' s (0 + skipN false (from' s 0)))).pre []) := Lib.hid (by
    rw [pre_nil, scanL_at]; simp [from'])
  have C0 := Lib.hid (fun W => SK.out 0 W (Nat.zero_le _))
  obtain ⟨a0, ha0⟩ : ∃ a0, a0 = 0 + skipN false (from' s 0) := ⟨_, rfl⟩
  rw [← ha0] at HS0 C0
  have hle0 : a0 ≤ s.size := by omega
  obtain ⟨i0, hi0, hy0, hy1, hy2⟩ := info_parts t_info3
  clear hsl HE ha0 hk0
  go_enter Tryd.func11, Tryd.ntmps11
  go_wp2_with (go_at_call 22; refine (C0.out _).mono ?_; rintro e W1 ⟨rfl, hb1⟩; have HT1 := Lib.hid (H0.out W1 hb1); clear hb1)
  go_loopw [5, 6] (fun vl vat wr => ∃ (ts : List Tk) (a : Nat), a ≤ s.size ∧ ts.length ≤ a ∧ vat = .int .i64 (a : Int) ∧ Hid (TR w wr vl ts) ∧ Hid (scanL 0 s.data.toList = (scanAt a (from' s a)).pre ts)) (fun _ vat _ => s.size - (intOf vat).toNat)
  case atStart => exact ⟨[], a0, hle0, Nat.zero_le _, rfl, HT1, HS0⟩
  case round =>
    clear HT1 HS0 C0 hle0
    obtain ⟨ts, a, ha, hts, rfl, hT, hS⟩ := hrel
    by_cases hlt : a < s.size
    · obtain ⟨c, r, hl⟩ : ∃ c r, from' s a = c :: r := by
        cases h : from' s a with
        | nil => have := from_length s a; rw [h] at this; simp at this; omega
        | cons c r => exact ⟨c, r, rfl⟩
      have hS' := hS.out
      rw [hl] at hS'
      have NX := Lib.hid (next_any s a c r wr hl (by omega) (HHE.out.later hT.out.below))
      cases ho : oneL (c :: r) with
      | bad e =>
        rw [ho] at NX
        rw [scanAt_bad ho] at hS'
        have HS := Lib.hid hS'
        have he := oneL_bad _ _ ho
        have hz : ((e : Int) != 0) = true := by rw [bne_iff_ne]; omega
        clear ho hS hS' hl he
        go_wp2_with fail
        refine NX.out.mono ?_
        rintro x W2 ⟨rfl, hb2⟩
        have HT2 := Lib.hid (hT.out.later hb2)
        have HZ := Lib.hid (tb_zero W2)
        have HP := Lib.hid (tb_put W2 Tk.zero)
        clear hb2 hT NX
        unfold oneV
        go_wp2_with (refine wpList_store_mid rfl 29 (.tmp 7) (.tmp 23) rfl W2.heap.size 0 Tk.zero.cells.toArray rfl rfl HZ.out.room (t_infoA _) (t_all _) ?_; generalize World.setCells _ _ _ _ = W3 at HP ⊢; have HT3 := Lib.hid (HT2.out.later HP.out.2); have HP3 := Lib.hid HP.out; clear HP)
        refine bodyPost_ret (results_tmp3' rfl _ _) rfl ?_
        refine ⟨fun ts' _ h => ?_, fun e' a' _ h => ?_, fun h => absurd (by rw [HSL.out]; exact hs) h, HT3.out.below⟩
        · rw [HS.out] at h; cases h
        · rw [HS.out] at h; cases h; rfl
      | tok k t n len =>
        have hlen := oneL_len _ _ _ _ _ ho
        have hfl := from_length s a
        rw [hl] at hfl
        have hfd := from_drop s a len
        rw [hl] at hfd
        have hk1 := skipN_le false (from' s (a + len))
        rw [from_length] at hk1
        rw [scanAt_tok ho, pre_cons, hfd, scanL_at (a + len), from_drop] at hS'
        rw [ho, oneV] at NX
        obtain ⟨b, hb⟩ : ∃ b, b = a + len + skipN false (from' s (a + len)) := ⟨_, rfl⟩
        have C1 := Lib.hid (fun W => SK.out (a + len) W (by omega))
        rw [← hb] at hS' C1
        rw [Int.natCast_add a len] at C1
        have HS := Lib.hid hS'
        have hbl : b ≤ s.size ∧ a < b := by omega
        obtain ⟨hbl, hab⟩ := hbl
        clear hfd hk1 hfl hlen hS hS' ho hb hl
        generalize hE : Tk.mk k t n a = E at *
        clear hE
        have HONE := Lib.hid (t_one E)
        have HX : Hid (tcells (ts ++ [E]) = tcells ts ++ E.cells) := Lib.hid (by rw [tcells_app]; simp [tcells])
        have hbs : ∀ W, (Instr.buildSlice 23 1 #[(0, .agg E.cells.toArray)]).run Tryd.prog W = .ok (.slice (some ⟨W.heap.size, 0, none⟩) 1 1) (W.alloc (.cells E.cells.toArray 29)) :=
          fun W => run_buildSlice_one 23 29 _ 40 4 E.cells W Tryd.underlying23 t_info3 rfl rfl (by decide) (by decide)
        have HNEW : Hid (∀ (W : World) (j : Nat) (u : Value), E.cells[j]? = some u → (W.alloc (.cells E.cells.toArray 29)).cell? ((⟨W.heap.size, 0, none⟩ : Addr).add j) = some u) := Lib.hid (fun W j u hu => news_at W E.cells.toArray _ j u (by simpa using hu))
        generalize hm : ts.length = m at *
        have HM := Lib.hid hm
        clear hm
        have HI := Lib.hid (t_info E)
        have hl4 : E.cells.length = 4 := rfl
        go_wp2_with fail
        refine NX.out.mono ?_
        rintro e W2 ⟨rfl, hb2⟩
        have HT2 := Lib.hid (hT.out.later hb2)
        have HZ := Lib.hid (tb_zero W2)
        have HP := Lib.hid (tb_put W2 E)
        clear hb2 hT NX
        go_wp2_with (first
          | (refine wpList_store_mid rfl 29 (.tmp 7) (.tmp 23) rfl W2.heap.size 0 E.cells.toArray rfl rfl HZ.out.room (t_infoA E) (t_all E) ?_; generalize World.setCells _ _ _ _ = W3 at HP ⊢; have HT3 := Lib.hid (HT2.out.later HP.out.2); have HP3 := Lib.hid HP.out; clear HP)
          | (refine wpList_load_mid rfl 29 (.tmp 7) rfl W2.heap.size 0 rfl E.cells _ HP3.out.1.cells Tryd.underlying29 rfl HI.out ?_)
          | (refine wpList_append_lies _ rfl (.tmp 30) (.tmp 32) 23 rfl w.heap.size 29 i0 _ 4 40 Tryd.underlying23 hi0 hy0 hy1 hy2 rfl (by decide) _ m (tcells ts) rfl (by have := HT3.out.row.alloc (.cells E.cells.toArray 29); rw [HM.out] at this; exact this) ⟨W3.heap.size, 0, none⟩ 1 1 E.cells rfl rfl (HNEW.out W3) HONE.out (by decide) (by unfold maxLen; omega) (by omega) (by have := HT3.out.below.size; simp; omega) (W3.heap.size + 1) (by simp) ?_; intro g' cap W7 hrow hgr hgl hlt7; have HT7 := Lib.hid (HT3.out.push (e := E) (g' := g') (cap := cap) (by rw [HM.out]; exact hrow) hgr); rw [HM.out] at HT7; clear HT3 hrow hgr hgl hlt7)
          | (go_at_call 22; refine (C1.out _).mono ?_; rintro e W8 ⟨rfl, hb8⟩; have HT8 := Lib.hid (HT7.out.later hb8); clear hb8 HT7))
        go_roundw
        case rel => exact ⟨ts ++ [E], b, hbl, by rw [List.length_append, HM.out, List.length_singleton]; omega, rfl, HT8, HS⟩
        case measure => simp [intOf]; omega
    · obtain rfl : a = s.size := by omega
      have hS' := hS.out
      rw [show from' s s.size = [] from List.eq_nil_of_length_eq_zero (by rw [from_length]; omega)] at hS'
      have HS : Hid (scanL 0 s.data.toList = .toks ts) := Lib.hid (by rw [hS']; show SR.toks (ts ++ []) = _; rw [List.append_nil])
      clear hS hS'
      go_wp2
      refine bodyPost_ret (results_tmp3' rfl _ _) rfl ?_
      refine ⟨fun ts' _ h => ?_, fun e' a' _ h => ?_, fun h => absurd (by rw [HSL.out]; exact hs) h, hT.out.below⟩
      · rw [HS.out] at h; cases h; exact ⟨_, rfl, hT.out⟩
      · rw [HS.out] at h; cases h

set_option maxHeartbeats 400000 in
theorem scan_big (s : ByteArray) (w : World) (hs : ¬s.size ≤ 8192) : Calls Tryd.prog 11 #[.string s] w fun x w' => ScanOk w w' x s.data.toList := by
  have hsl : s.data.toList.length = s.size := by simp
  have hn : ¬s.data.toList.length ≤ 8192 := by omega
  have h1 : (s.size : Int) > 8192 := by omega
  have HN := Lib.hid hn
  clear hsl hn hs
  go_enter Tryd.func11, Tryd.ntmps11
  go_wp2
  refine bodyPost_ret (results_tmp3' rfl _ _) rfl ?_
  exact ⟨fun _ h _ => absurd h HN.out, fun _ _ h _ => absurd h HN.out, fun _ => rfl, Below.refl _ _⟩

theorem scan_any (s : ByteArray) (w : World) (HE : HasE w) : Calls Tryd.prog 11 #[.string s] w fun x w' => ScanOk w w' x s.data.toList := by
  by_cases h : s.size ≤ 8192
  · exact scan_small s w h HE
  · exact scan_big s w h

end Go.Proofs.YtcfmjnhagpmnpaaDoor.Lx
