/- The walk of ring.Scan: its contract. No condition but those that each states. -/
import Derived.Test.YtkplmaaeggnbgaaDoorRgD
import Derived.Test.YtkplmaaeggnbgaaDoorDkM
namespace Go.Proofs.YtkplmaaeggnbgaaDoor.Rg
open Go.RowKit Dk

theorem e_info3 : (Tryd.prog.info? 47).map (fun i => (i.zero, i.size, i.bytes)) = some (some (.agg Ent.zero.cells.toArray), 5, 48) := by kernel_rfl

theorem own_lo {w : World} {base : Nat} {e : TypeId} {size n : Nat} {v : Value} {xs : List Value} (h : w.ownsRow base e size v n xs) : ∀ b, v.ownBlock = some b → base ≤ b ∧ b < w.heap.size := by
  intro b hb
  rcases h.2 with ⟨rfl, _⟩ | ⟨g, cap, cur, rfl, hbg, hg, _⟩
  · cases hb
  · cases hb
    exact ⟨hbg, by
      rcases Nat.lt_or_ge g w.heap.size with h | h
      · exact h
      · rw [Array.getElem?_eq_none h] at hg; cases hg⟩

set_option maxHeartbeats 400000 in
theorem sort_nil (pa : Option Addr) (c : Nat) (w : World) :
    Calls Tryd.prog 68 #[.slice pa 0 c] w fun x w' => x = .returned (.tuple #[]) ∧ w = w' := by
  go_enter Tryd.func68, Tryd.ntmps68
  go_wp2
  go_step3
  go_wp2
  go_step3
  go_wp2
  go_loopg [2] 0 (fun k vi wr => vi = .int .i64 0 ∧ wr = w)
  case atStart => exact ⟨rfl, rfl⟩
  case round =>
    obtain ⟨rfl, rfl⟩ := hrel
    go_wp2
    simp only [Exit.noGoto]
    refine bodyPost_end (results_none rfl _ _ _) rfl ⟨rfl, rfl⟩

set_option maxHeartbeats 400000 in
theorem scan_no (p : Option Addr) (w : World) (h : NoDisk w p) :
    Calls Tryd.prog 29 #[.pointer p] w fun x w' => x = .returned (.tuple #[.slice none 0 0, .int .i64 16]) ∧ w = w' := by
  go_enter Tryd.func29, Tryd.ntmps29
  go_wp2
  go_loopw [10] (fun vk wr => vk = .int .i64 0 ∧ wr = w) (fun _ _ => 0)
  case atStart => exact ⟨rfl, rfl⟩
  case round =>
    obtain ⟨rfl, rfl⟩ := hrel
    go_wp2_with fail
    refine (read_no p 0 wr h).mono ?_
    rintro e w1 ⟨rfl, rfl⟩
    go_wp2
    go_ret2
    exact ⟨rfl, rfl⟩

set_option maxHeartbeats 400000 in
theorem scan_off (F : Nat → Prop) (g : Nat) (S : DS) (w : World) (hD : DiskAt w F g S) (hon : S.on = false) :
    Calls Tryd.prog 29 #[.pointer (some ⟨g, 0, none⟩)] w fun x w' => x = .returned (.tuple #[.slice none 0 0, .int .i64 7]) ∧ w = w' := by
  go_enter Tryd.func29, Tryd.ntmps29
  go_wp2
  go_loopw [10] (fun vk wr => vk = .int .i64 0 ∧ wr = w) (fun _ _ => 0)
  case atStart => exact ⟨rfl, rfl⟩
  case round =>
    obtain ⟨rfl, rfl⟩ := hrel
    go_wp2_with fail
    refine (read_off F g S 0 wr hD hon).mono ?_
    rintro e w1 ⟨rfl, rfl⟩
    go_wp2
    go_ret2
    exact ⟨rfl, rfl⟩

/-- What Scan hands back: a row of its own that holds these entries. -/
structure ScanR (w w' : World) (v : Value) (l : List Ent) : Prop where
  row : w'.ownsRow w.heap.size 47 5 v l.length (ecells l)
  below : Below w.heap.size w w'

theorem chain3 {w w1 w2 : World} (h : Below w.heap.size w w1) (k : Below w1.heap.size w1 w2) : Below w.heap.size w w2 := chain2 h k

theorem ScanR.later {w wr W : World} {v : Value} {l : List Ent} (h : ScanR w wr v l) (hb : Below wr.heap.size wr W) : ScanR w W v l :=
  ⟨ownsRow_block h.row (fun b hb' => hb.block b (own_lo h.row b hb').2), chain2 h.below hb⟩

theorem raw_some {rd : Nat → Bytes} {i : Nat} {e : Ent} (h : parse (rd i) = some e) (hn : e.number % 8 = (i : Int)) : raw rd (i + 1) = raw rd i ++ [e] := by
  have : found rd i = some e := by unfold found; rw [h]; exact if_pos hn
  show (match found rd i with | some e => raw rd i ++ [e] | none => raw rd i) = _
  rw [this]
theorem raw_other {rd : Nat → Bytes} {i : Nat} {e : Ent} (h : parse (rd i) = some e) (hn : ¬e.number % 8 = (i : Int)) : raw rd (i + 1) = raw rd i := by
  have : found rd i = none := by unfold found; rw [h]; exact if_neg hn
  show (match found rd i with | some e => raw rd i ++ [e] | none => raw rd i) = _
  rw [this]
theorem raw_none {rd : Nat → Bytes} {i : Nat} (h : parse (rd i) = none) : raw rd (i + 1) = raw rd i := by
  have : found rd i = none := by unfold found; rw [h]
  show (match found rd i with | some e => raw rd i ++ [e] | none => raw rd i) = _
  rw [this]

theorem ScanR.push {w W4 W7 : World} {v : Value} {l : List Ent} {e : Ent} {g' cap : Nat} {o : Obj} (h : ScanR w W4 v l) (hrow : W7.ownsRow w.heap.size 47 5 (.slice (some ⟨g', 0, none⟩) (l.length + 1) cap) (l.length + 1) (ecells l ++ e.cells))
    (hgr : (W4.alloc o).grownBy W7 v.ownBlock) : ScanR w W7 (.slice (some ⟨g', 0, none⟩) (l.length + 1) cap) (l ++ [e]) := by
  refine ⟨?_, (h.below.alloc h.below.size o).trans (below_grown hgr (fun k hk => (own_lo h.row k hk).1) (by have := h.below.size; simp; omega))⟩
  rw [List.length_append, ecells_app]
  simpa [ecells] using hrow

theorem own_zero {w : World} {base n : Nat} {e : TypeId} {size : Nat} {v : Value} {xs : List Value} (h : w.ownsRow base e size v n xs) : w.ownsRow 0 e size v n xs :=
  ⟨h.1, h.2.imp id (fun ⟨g, cap, cur, h1, _, h3⟩ => ⟨g, cap, cur, h1, Nat.zero_le _, h3⟩)⟩

theorem own_from {w : World} {base n : Nat} {e : TypeId} {size : Nat} {v : Value} {xs : List Value} (h : w.ownsRow 0 e size v n xs) (hb : ∀ b, v.ownBlock = some b → base ≤ b) : w.ownsRow base e size v n xs :=
  ⟨h.1, h.2.imp id (fun ⟨g, cap, cur, h1, _, h3⟩ => ⟨g, cap, cur, h1, hb g (by rw [h1]; rfl), h3⟩)⟩

/-- Behind the sort. -/
theorem ScanR.sorted {w w1 W : World} {v : Value} {rd : Nat → Bytes} {g n c : Nat} {l : List Ent} (h : ScanR w w1 v (raw rd 8)) (hv : v = .slice (some ⟨g, 0, none⟩) n c) (_hn : (raw rd 8).length = n)
    (k : SortW w1 W 47 g n c (raw rd 8) l n) : ScanR w W v (scan rd 8) := by
  have hlo := own_lo h.row g (by rw [hv]; rfl)
  have e : l = scan rd 8 := sorted_unique (k.perm.trans (scan_perm rd 8).symm) (by have := k.rises; rwa [List.take_of_length_le (Nat.le_of_eq k.len)] at this) (scan_sorted rd 8 (Nat.le_refl _))
  refine ⟨?_, k.only.below h.below (fun b hb => by subst hb; exact hlo.1) (Nat.le_refl _)⟩
  rw [← e, k.len, hv]
  exact own_from k.row (fun b hb => by cases hb; exact hlo.1)

theorem eb_zero (W : World) : EB (W.alloc (.cells #[.int .i64 0, .int .i64 0, .int .i64 0, .int .i64 0, .string ⟨#[]⟩] 47)) W.heap.size Ent.zero := eb_new W Ent.zero _

/-- An entry that was put into a new block. -/
theorem eb_put {w W : World} (hb : Below w.heap.size w W) (e : Ent) : EB ((W.alloc (.cells #[.int .i64 0, .int .i64 0, .int .i64 0, .int .i64 0, .string ⟨#[]⟩] 47)).setCells W.heap.size 0 e.cells.toArray.toList) W.heap.size e ∧
    Below w.heap.size w ((W.alloc (.cells #[.int .i64 0, .int .i64 0, .int .i64 0, .int .i64 0, .string ⟨#[]⟩] 47)).setCells W.heap.size 0 e.cells.toArray.toList) ∧
    Below W.heap.size W ((W.alloc (.cells #[.int .i64 0, .int .i64 0, .int .i64 0, .int .i64 0, .string ⟨#[]⟩] 47)).setCells W.heap.size 0 e.cells.toArray.toList) := by
  have h2 : Below W.heap.size W ((W.alloc (.cells #[.int .i64 0, .int .i64 0, .int .i64 0, .int .i64 0, .string ⟨#[]⟩] 47)).setCells W.heap.size 0 e.cells.toArray.toList) :=
    below_setCells (Below.refl _ _) _ (Nat.le_refl _) _ _ _ ((Below.refl _ _).alloc (Nat.le_refl _) _)
  exact ⟨(eb_zero W).set e, chain2 hb h2, h2⟩

theorem wpList_load_want {P : Program} {ops : Array Oper} {rest : List Oper} {op : Oper} {a : Act} {w : World} {Q : Exit → Act → World → Prop} (hw : Region.wanted op (yielded ops a.tmps) = true) (ty : TypeId) (x : Operand) (ho : op.op = .load ty x)
    (b o : Nat) (hx : a.eval x = .pointer (some ⟨b, o, none⟩)) (cs : List Value) (d : TypeDesc) (hc : w.rangeAt b o cs)
    (hu : P.underlying ty = some d) (hd : d.isRow = true) (hi : (P.info? ty).map (·.size) = some cs.length)
    (h : wpList P ops Q rest (a.put op.dst (.agg cs.toArray)) w) : wpList P ops Q (op :: rest) a w :=
  BigFrame.wpList_want hw fun _ hK => wp_load_mid ty x ho b o hx cs d hc hu hd hi (hK _ _ h)

set_option maxHeartbeats 2000000 in
set_option maxRecDepth 100000 in
theorem scan_on (F : Nat → Prop) (g : Nat) (S : DS) (w : World) (hD : DiskAt w F g S) (hon : S.on = true) (hc : S.c ≤ 2 ^ 40) (HK : HasK w) :
    Calls Tryd.prog 29 #[.pointer (some ⟨g, 0, none⟩)] w fun x w' => ∃ v, x = .returned (.tuple #[v, .int .i64 0]) ∧ ScanR w w' v (scan S.read 8) := by
  have HD := Lib.hid hD
  have HHK := Lib.hid HK
  have hlo := hD.ok.lo
  have CR : Hid (∀ (i : Nat) (W : World), i < 8 → Below w.heap.size w W → Calls Tryd.prog 66 #[.pointer (some ⟨g, 0, none⟩), .int .i64 (i : Int)] W fun e w' => e = .returned (.tuple #[.string (strOf (S.read i)), .int .i64 0]) ∧ Below W.heap.size W w') :=
    Lib.hid (fun i W hi hb => read_any F g S i W (HD.out.below hb) hon (by omega) hc)
  have H0 : Hid (ScanR w w (.slice none 0 0) (raw S.read 0)) := Lib.hid ⟨World.ownsRow_nil _ _ _ _, Below.refl _ _⟩
  obtain ⟨i0, hi0, hy0, hy1, hy2⟩ := info_parts e_info3
  clear hD HK hc hon hlo HD
  go_enter Tryd.func29, Tryd.ntmps29
  go_wp2
  go_loopw [4, 10] (fun vv vk wr => ∃ i : Nat, i ≤ 8 ∧ vk = .int .i64 i ∧ Hid (ScanR w wr vv (raw S.read i))) (fun _ vk _ => 8 - (intOf vk).toNat)
  case atStart => exact ⟨0, Nat.zero_le _, rfl, H0⟩
  case round =>
    clear H0
    obtain ⟨i, hi, rfl, hI⟩ := hrel
    have z0 : (0 : Int) ≤ (i : Int) := by omega
    by_cases h8 : i < 8
    · have z1 : (i : Int) < 8 := by omega
      go_wp2_with fail
      refine (CR.out i wr h8 hI.out.below).mono ?_
      rintro x w1 ⟨rfl, hb1⟩
      have HB1 := Lib.hid hb1
      clear hb1
      have HP := Lib.hid (parse_any (S.read i) w1 (HHK.out.later (chain2 hI.out.below HB1.out)))
      go_wp2_with fail
      refine HP.out.mono ?_
      rintro x w2 ⟨rfl, hb2⟩
      have HB2 := Lib.hid (chain2 HB1.out hb2)
      clear hb2 HB1 HP
      cases hp : parse (S.read i) with
      | none =>
        have HN : Hid (raw S.read (i + 1) = raw S.read i) := Lib.hid (raw_none hp)
        rw [show parsed (S.read i) = Ent.zero by unfold parsed; rw [hp]; rfl]
        generalize Ent.zero = E
        have HZ := Lib.hid (eb_zero w2)
        have HE := Lib.hid (eb_put HB2.out E)
        have HI := Lib.hid (e_info E)
        go_wp2_with (first
          | (refine wpList_store_mid rfl 47 (.tmp 8) (.tmp 25) rfl w2.heap.size 0 E.cells.toArray rfl rfl HZ.out.room (e_infoA E) (e_all E) ?_; generalize World.setCells _ _ _ _ = W3 at HE ⊢))
        have HS := Lib.hid (hI.out.later (chain3 HB2.out HE.out.2.2))
        clear HE hI
        go_roundw
        case rel => exact ⟨i + 1, by omega, by go_num, by rw [HN.out]; exact HS⟩
        case measure => simp [intOf]; omega
      | some e =>
        have HV := (parse_some hp).2.2.1
        have hnum := valid_number HV
        rw [show parsed (S.read i) = e by unfold parsed; rw [hp]; rfl]
        have CH := Lib.hid (fun W => home_any e (by omega) W)
        by_cases hn : e.number % 8 = (i : Int)
        · have HN : Hid (raw S.read (i + 1) = raw S.read i ++ [e]) := Lib.hid (raw_some hp hn)
          rw [hn] at CH
          have HONE := Lib.hid (ecells_one e)
          have HX : Hid (ecells (raw S.read i ++ [e]) = ecells (raw S.read i) ++ e.cells) := Lib.hid (by rw [ecells_app]; simp [ecells])
          have HLEN : Hid ((raw S.read (i + 1)).length = (raw S.read i).length + 1) := Lib.hid (by rw [raw_some hp hn]; simp)
          have hrl := raw_length S.read i
          have hb : ∀ W, (Instr.buildSlice 62 1 #[(0, .agg e.cells.toArray)]).run Tryd.prog W = .ok (.slice (some ⟨W.heap.size, 0, none⟩) 1 1) (W.alloc (.cells e.cells.toArray 47)) :=
            fun W => run_buildSlice_one 62 47 _ 48 5 e.cells W Tryd.underlying62 e_info3 rfl rfl (by decide) (by decide)
          have HNEW : Hid (∀ (W : World) (j : Nat) (u : Value), e.cells[j]? = some u → (W.alloc (.cells e.cells.toArray 47)).cell? ((⟨W.heap.size, 0, none⟩ : Addr).add j) = some u) := Lib.hid (fun W j u hu => news_at W e.cells.toArray _ j u (by simpa using hu))
          generalize hm : (raw S.read i).length = m at HLEN hrl
          have HM := Lib.hid hm
          clear hm hn hp hnum HV
          generalize e = E at *
          have HZ := Lib.hid (eb_zero w2)
          have HE := Lib.hid (eb_put HB2.out E)
          have HI := Lib.hid (e_info E)
          have hl5 : E.cells.length = 5 := rfl
          go_wp2_with (first
            | (refine wpList_store_mid rfl 47 (.tmp 8) (.tmp 25) rfl w2.heap.size 0 E.cells.toArray rfl rfl HZ.out.room (e_infoA E) (e_all E) ?_; generalize World.setCells _ _ _ _ = W3 at HE ⊢; have HE3 := Lib.hid HE.out; clear HE)
            | (refine wpList_load_want (by rfl) 47 (.tmp 8) rfl w2.heap.size 0 rfl E.cells _ HE3.out.1.cells Tryd.underlying47 rfl HI.out ?_)
            | (go_at_call 54; refine (CH.out _).mono ?_; rintro x W4 ⟨rfl, hb4⟩; have HE4 := Lib.hid ((HE3.out.1.later hb4)); have HS4 := Lib.hid ((hI.out.later (chain3 HB2.out HE3.out.2.2)).later hb4); clear HE3 hI hb4)
            | (refine wpList_load_mid rfl 47 (.tmp 8) rfl w2.heap.size 0 rfl E.cells _ HE4.out.cells Tryd.underlying47 rfl HI.out ?_)
            | (refine wpList_append_lies _ rfl (.tmp 34) (.tmp 36) 62 rfl w.heap.size 47 i0 _ 5 48 Tryd.underlying62 hi0 hy0 hy1 hy2 rfl (by decide) _ m (ecells (raw S.read i)) rfl (by have := HS4.out.row.alloc (.cells E.cells.toArray 47); rw [HM.out] at this; exact this) ⟨W4.heap.size, 0, none⟩ 1 1 E.cells rfl rfl (HNEW.out W4) HONE.out (by decide) (by unfold maxLen; omega) (by omega) (by have := HS4.out.below.size; simp; omega) (W4.heap.size + 1) (by simp) ?_; intro g' cap W7 hrow hgr hgl hlt7; have HS7 := Lib.hid (HS4.out.push (e := E) (g' := g') (cap := cap) (by rw [HM.out]; exact hrow) hgr); rw [HM.out] at HS7; clear HS4 HE4 hrow hgr hgl hlt7))
          clear HNEW hb hl5
          go_roundw
          case rel => exact ⟨i + 1, by omega, by go_num, by rw [HN.out]; exact HS7⟩
          case measure => simp [intOf]; omega
        · have HN : Hid (raw S.read (i + 1) = raw S.read i) := Lib.hid (raw_other hp hn)
          have v0 : (e.number % 8 == (i : Int)) = false := by simpa using hn
          have v1 : decide (e.number % 8 = (i : Int)) = false := decide_eq_false hn
          clear hn hp hnum HV
          generalize hq : e.number % 8 = q at CH v0 v1
          clear hq
          generalize e = E at *
          have HZ := Lib.hid (eb_zero w2)
          have HE := Lib.hid (eb_put HB2.out E)
          have HI := Lib.hid (e_info E)
          go_wp2_with (first
            | (refine wpList_store_mid rfl 47 (.tmp 8) (.tmp 25) rfl w2.heap.size 0 E.cells.toArray rfl rfl HZ.out.room (e_infoA E) (e_all E) ?_; generalize World.setCells _ _ _ _ = W3 at HE ⊢; have HE3 := Lib.hid HE.out; clear HE)
            | (refine wpList_load_want (by rfl) 47 (.tmp 8) rfl w2.heap.size 0 rfl E.cells _ HE3.out.1.cells Tryd.underlying47 rfl HI.out ?_)
            | (go_at_call 54; refine (CH.out _).mono ?_; rintro x W4 ⟨rfl, hb4⟩; have HS := Lib.hid ((hI.out.later (chain3 HB2.out HE3.out.2.2)).later hb4); clear hb4))
          clear HE3 hI v0 v1
          go_roundw
          case rel => exact ⟨i + 1, by omega, by go_num, by rw [HN.out]; exact HS⟩
          case measure => simp [intOf]; omega
    · obtain rfl : i = 8 := by omega
      have hq : ∃ n, (raw S.read 8).length = n := ⟨_, rfl⟩
      obtain ⟨n, hq⟩ := hq
      have hn8 : n ≤ 8 := by rw [← hq]; exact raw_length _ _
      have hr := hI.out.row.2
      rcases hr with ⟨hv, h0⟩ | ⟨g', cap, cur, hv, -⟩
      · subst hv
        have hR : raw S.read 8 = [] := List.eq_nil_of_length_eq_zero h0
        have hS : scan S.read 8 = [] := List.eq_nil_of_length_eq_zero (by rw [(scan_perm S.read 8).length_eq]; exact h0)
        have HF : Hid (ScanR w wr (.slice none 0 0) (scan S.read 8)) := Lib.hid (by rw [hS]; rw [← hR]; exact hI.out)
        clear hR hS h0 hI hq
        go_wp2_with fail
        refine (sort_nil none 0 _).mono ?_
        rintro x w5 ⟨rfl, rfl⟩
        go_wp2
        go_ret2
        exact ⟨_, rfl, HF.out⟩
      · rw [hq] at hv
        have HROW := Lib.hid (own_zero hI.out.row)
        rw [hq, hv] at HROW
        have HVV := Lib.hid hv
        have HQ := Lib.hid hq
        subst hv
        clear hq
        go_wp2_with fail
        refine (sort_any g' n cap (raw S.read 8) (by omega) _ HROW.out HQ.out).mono ?_
        rintro x w5 ⟨rfl, l, hl⟩
        have HF := Lib.hid (hI.out.sorted rfl HQ.out hl)
        clear hl HROW hI
        go_wp2
        go_ret2
        exact ⟨_, rfl, HF.out⟩

end Go.Proofs.YtkplmaaeggnbgaaDoor.Rg
