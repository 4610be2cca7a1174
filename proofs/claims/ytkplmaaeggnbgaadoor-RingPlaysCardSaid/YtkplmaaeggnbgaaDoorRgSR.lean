/- The walk of the document's Scan (chrysalisref05): its contract. No condition but those that each states. -/
import Derived.Test.YtkplmaaeggnbgaaDoorRgX
import Derived.Test.YtkplmaaeggnbgaaDoorDkT
import Derived.Test.YtkplmaaeggnbgaaDoorRgE
namespace Go.Proofs.YtkplmaaeggnbgaaDoor.Rg
open Go.RowKit Dk

theorem append_nil {P : Program} {w : World} (base : Nat) (t ty e : TypeId) (i : TypeInfo) (size : Nat) (ht : P.underlying t = some (.slice e)) (hi : P.info? e = some i)
    (v : Value) (n : Nat) (xs : List Value) (hown : w.ownsRow base e size v n xs) :
    (Builtin.append_ #[t, t] ty #[v, .slice none 0 0]).run P w = .ok v w := by
  rcases hown.2 with ⟨rfl, rfl⟩ | ⟨g, cap, cur, rfl, _, _, hnc, _⟩
  · simp [Builtin.append_, run_underlying ht, sizeOf, typeInfo, hi, Builtin.lenOf, Builtin.firstCells]
  · simp [Builtin.append_, run_underlying ht, sizeOf, typeInfo, hi, Builtin.lenOf, Builtin.firstCells, hnc, storeCells, loadCells]

theorem wpList_append_nil {P : Program} {w : World} {ops : Array Oper} {rest : List Oper} {o : Oper} {a : Act} {Q : Exit → Act → World → Prop} (hgd : o.guard = none) (s x : Operand) (t : TypeId)
    (ho : o.op = .call { callee := .builtin .append, args := #[s, x], argTypes := #[t, t] })
    (base : Nat) (e : TypeId) (i : TypeInfo) (size : Nat) (ht : P.underlying t = some (.slice e)) (hi : P.info? e = some i)
    (v : Value) (n : Nat) (xs : List Value) (hs : a.eval s = v) (hown : w.ownsRow base e size v n xs) (hx : a.eval x = .slice none 0 0)
    (h : wpList P ops Q rest (a.put o.dst v) w) : wpList P ops Q (o :: rest) a w := by
  refine wpList_plain hgd fun K hK => ?_
  have hrun := append_nil (P := P) (w := w) base t o.type e i size ht hi v n xs hown
  unfold Oper.wp
  simp [execOp, ho, resolve, invoke, builtin, hs, hx, hrun, Result.andThen]
  exact hK _ _ h

theorem wpList_append_zero {P : Program} {w : World} {ops : Array Oper} {rest : List Oper} {o : Oper} {a : Act} {Q : Exit → Act → World → Prop} (hgd : o.guard = none) (s x : Operand) (t : TypeId)
    (ho : o.op = .call { callee := .builtin .append, args := #[s, x], argTypes := #[t, t] })
    (base : Nat) (e : TypeId) (i : TypeInfo) (size : Nat) (ht : P.underlying t = some (.slice e)) (hi : P.info? e = some i)
    (v : Value) (n : Nat) (xs : List Value) (hs : a.eval s = v) (hown : w.ownsRow base e size v n xs) (ad : Addr) (m c : Nat) (hm : m = 0) (hx : a.eval x = .slice (some ad) m c)
    (h : wpList P ops Q rest (a.put o.dst v) w) : wpList P ops Q (o :: rest) a w := by
  subst hm
  exact wpList_append_empty hgd s x t ho base e i size ht hi v n xs hs hown ad c hx h

/-- What the document's Scan hands back: a row of its own that holds these entries. -/
structure ScanQ (w w' : World) (v : Value) (l : List Ent) : Prop where
  row : w'.ownsRow w.heap.size 43 5 v l.length (ecells l)
  below : Below w.heap.size w w'

theorem q_info3 : (Tryd.prog.info? 43).map (fun i => (i.zero, i.size, i.bytes)) = some (some (.agg Ent.zero.cells.toArray), 5, 48) := by kernel_rfl

section
variable {w wr W : World} {v : Value} {l : List Ent} {e : Ent}
theorem ScanQ.later (h : ScanQ w wr v l) (hb : Below wr.heap.size wr W) : ScanQ w W v l :=
  ⟨ownsRow_block h.row (fun b hb' => hb.block b (own_lo h.row b hb').2), chain2 h.below hb⟩
/-- A row that grew, from a world without further blocks. -/
theorem ScanQ.grown {m : List Ent} {g' cap n : Nat} (h : ScanQ w wr v l) (hn : (l ++ m).length = n) (hrow : W.ownsRow w.heap.size 43 5 (.slice (some ⟨g', 0, none⟩) n cap) n (ecells l ++ ecells m)) (hgr : wr.grownBy W v.ownBlock) :
    ScanQ w W (.slice (some ⟨g', 0, none⟩) n cap) (l ++ m) := by
  refine ⟨by rw [hn, ecells_app]; exact hrow, h.below.trans (below_grown hgr (fun k hk => (own_lo h.row k hk).1) h.below.size)⟩
theorem ScanQ.alloc (h : ScanQ w wr v l) (o : Obj) : ScanQ w (wr.alloc o) v l := h.later ((Below.refl _ _).alloc (Nat.le_refl _) o)
theorem ScanQ.lt (h : ScanQ w wr v l) : w.heap.size ≤ wr.heap.size := h.below.size
theorem ScanQ.nil (w : World) : ScanQ w w (.slice none 0 0) [] := ⟨World.ownsRow_nil _ _ _ _, Below.refl _ _⟩
/-- Its two forms. -/
theorem ScanQ.form (h : ScanQ w wr v l) : (v = .slice none 0 0 ∧ l = []) ∨ ∃ g c, v = .slice (some ⟨g, 0, none⟩) l.length c ∧ l.length ≤ c := by
  rcases h.row.2 with ⟨hv, h0⟩ | ⟨g, cap, cur, hv, _, _, hc, _⟩
  · exact .inl ⟨hv, List.eq_nil_of_length_eq_zero h0⟩
  · exact .inr ⟨g, cap, hv, hc⟩
theorem ScanQ.at (h : ScanQ w wr v l) {g n c k : Nat} (hv : v = .slice (some ⟨g, 0, none⟩) n c) (hn : l.length = n) {x : Ent} (hk : l[k]? = some x) : wr.rangeAt g (k * 5) x.cells := by
  have hlt : k < l.length := (List.getElem?_eq_some_iff.1 hk).1
  have e : l = l.take k ++ x :: l.drop (k + 1) := by
    obtain ⟨hh, rfl⟩ := List.getElem?_eq_some_iff.1 hk
    rw [← List.drop_eq_getElem_cons, List.take_append_drop]
  have hr := own_zero h.row
  rw [hv, hn, e] at hr
  have := row_range hr
  rwa [List.length_take, Nat.min_eq_left (by omega)] at this
theorem ScanQ.rest (h : ScanQ w wr v l) {g n c : Nat} (hv : v = .slice (some ⟨g, 0, none⟩) n c) (hn : l.length = n) {k : Nat} (hk : k ≤ n) : wr.rangeAt g (k * 5) (ecells (l.drop k)) := by
  have hr := own_zero h.row
  rw [hv, hn] at hr
  have h2 := ownsRow_range hr
  rw [← List.take_append_drop k l, ecells_app] at h2
  have h3 := rangeAt_right (n := k * 5) h2 (by rw [ecells_length, List.length_take, Nat.min_eq_left (by omega)])
  rwa [Nat.zero_add] at h3
theorem ScanQ.news (h : ScanQ w wr v l) {g n c : Nat} (hv : v = .slice (some ⟨g, 0, none⟩) n c) (hn : l.length = n) {k : Nat} (hk : k ≤ n) : ∀ j u, (ecells (l.drop k))[j]? = some u → wr.cell? ((⟨g, k * 5, none⟩ : Addr).add j) = some u := fun j u hu => by
  rw [WideShapes.add_plain]; exact h.rest hv hn hk j u hu
theorem ScanQ.news0 (h : ScanQ w wr v l) {g n c : Nat} (hv : v = .slice (some ⟨g, 0, none⟩) n c) (hn : l.length = n) : ∀ j u, (ecells (l.drop 0))[j]? = some u → wr.cell? ((⟨g, 0, none⟩ : Addr).add j) = some u := fun j u hu => by
  have := h.news hv hn (Nat.zero_le n) j u hu
  rwa [Nat.zero_mul] at this
end

/-- A row of a later world's own. -/
theorem ScanQ.up {w W3 W : World} {v v' : Value} {l l' : List Ent} (h : ScanQ w W3 v l) (h2 : ScanQ W3 W v' l') : ScanQ w W v' l' :=
  ⟨own_from (own_zero h2.row) (fun b hb => Nat.le_trans h.lt (own_lo h2.row b hb).1), chain2 h.below h2.below⟩

/-! where an entry is put -/
theorem ins_at {l : List Ent} {e : Ent} {k : Nat} (hk : k ≤ l.length) (h1 : ∀ j x, j < k → l[j]? = some x → x.number < e.number) (h2 : ∀ x, l[k]? = some x → ¬x.number < e.number) : ins l e = l.take k ++ [e] ++ l.drop k := by
  have key : ∀ (l : List Ent) (k : Nat), k ≤ l.length → (∀ j x, j < k → l[j]? = some x → x.number < e.number) → (∀ x, l[k]? = some x → ¬x.number < e.number) →
      l.takeWhile (fun x => decide (x.number < e.number)) = l.take k ∧ l.dropWhile (fun x => decide (x.number < e.number)) = l.drop k := by
    intro l
    induction l with
    | nil => intro k hk _ _; have : k = 0 := by simpa using hk
             subst this; exact ⟨rfl, rfl⟩
    | cons a l ih =>
      intro k hk h1 h2
      cases k with
      | zero =>
        have ha : decide (a.number < e.number) = false := decide_eq_false (h2 a rfl)
        rw [List.takeWhile_cons, List.dropWhile_cons, ha]
        exact ⟨rfl, rfl⟩
      | succ k =>
        have ha : decide (a.number < e.number) = true := decide_eq_true (h1 0 a (Nat.succ_pos k) rfl)
        obtain ⟨i1, i2⟩ := ih k (by simpa using hk) (fun j x hj hx => h1 (j + 1) x (by omega) hx) (fun x hx => h2 x hx)
        rw [List.takeWhile_cons, List.dropWhile_cons, ha, if_pos rfl, if_pos rfl, i1, i2]
        exact ⟨rfl, rfl⟩
  obtain ⟨k1, k2⟩ := key l k hk h1 h2
  unfold ins
  rw [k1, k2]; simp

theorem scan_some {rd : Nat → Bytes} {i : Nat} {e : Ent} (h : parse (rd i) = some e) (hn : e.number % 8 = (i : Int)) : scan rd (i + 1) = ins (scan rd i) e := by
  have : found rd i = some e := by unfold found; rw [h]; exact if_pos hn
  show (match found rd i with | some e => ins (scan rd i) e | none => scan rd i) = _
  rw [this]
theorem scan_other {rd : Nat → Bytes} {i : Nat} {e : Ent} (h : parse (rd i) = some e) (hn : ¬e.number % 8 = (i : Int)) : scan rd (i + 1) = scan rd i := by
  have : found rd i = none := by unfold found; rw [h]; exact if_neg hn
  show (match found rd i with | some e => ins (scan rd i) e | none => scan rd i) = _
  rw [this]
theorem scan_none {rd : Nat → Bytes} {i : Nat} (h : parse (rd i) = none) : scan rd (i + 1) = scan rd i := by
  have : found rd i = none := by unfold found; rw [h]
  show (match found rd i with | some e => ins (scan rd i) e | none => scan rd i) = _
  rw [this]

set_option maxHeartbeats 400000 in
theorem rscan_off (F : Nat → Prop) (g : Nat) (S : DS) (w : World) (hD : RefAt w F g S) (hon : S.on = false) :
    Calls Tryd.prog 30 #[.pointer (some ⟨g, 0, none⟩)] w fun x w' => x = .returned (.tuple #[.slice none 0 0, .int .i64 7]) ∧ w = w' := by
  go_enter Tryd.func30, Tryd.ntmps30
  go_wp2
  go_loopw [5] (fun vk wr => vk = .int .i64 0 ∧ wr = w) (fun _ _ => 0)
  case atStart => exact ⟨rfl, rfl⟩
  case round =>
    obtain ⟨rfl, rfl⟩ := hrel
    go_wp2_with fail
    refine (ref_read_off g S 0 F wr hD hon).mono ?_
    rintro e w1 ⟨rfl, rfl⟩
    go_wp2
    go_ret2
    exact ⟨rfl, rfl⟩

theorem below_drewN' (w : World) (n : Nat) : Below w.heap.size w (w.drewN n) := by
  induction n with
  | zero => exact Below.refl _ _
  | succ n h =>
    have e : (w.drewN (n + 1)).heap = (w.drewN n).heap := rfl
    exact ⟨h.os, h.tape, h.output, by rw [e]; exact h.size, fun k hk => by rw [e]; exact h.block k hk⟩

set_option maxHeartbeats 4000000 in
set_option maxRecDepth 100000 in
theorem rscan_on (F : Nat → Prop) (g : Nat) (S : DS) (w : World) (hD : RefAt w F g S) (hok : S.Ok) (hon : S.on = true) (hc : S.c ≤ 2 ^ 40) :
    Calls Tryd.prog 30 #[.pointer (some ⟨g, 0, none⟩)] w fun x w' => ∃ v, x = .returned (.tuple #[v, .int .i64 0]) ∧ ScanQ w w' v (scan S.read 8) := by
  have HD := Lib.hid hD
  have hlo := hok.lo
  have CR : Hid (∀ (i : Nat) (W : World), i < 8 → Below w.heap.size w W → Calls Tryd.prog 69 #[.pointer (some ⟨g, 0, none⟩), .int .i64 (i : Int)] W fun e w' => e = .returned (.tuple #[.string (strOf (S.read i)), .int .i64 0]) ∧ W = w') :=
    Lib.hid (fun i W hi hb => ref_read_ok g S i F W (HD.out.below hb) hon (by omega) hc)
  have H0 : Hid (ScanQ w w (.slice none 0 0) (scan S.read 0)) := Lib.hid (ScanQ.nil w)
  obtain ⟨i0, hi0, hy0, hy1, hy2⟩ := info_parts q_info3
  clear hD hok hc hon hlo HD
  go_enter Tryd.func30, Tryd.ntmps30
  go_wp2
  go_loopw [4, 5] (fun vv vk wr => ∃ i : Nat, i ≤ 8 ∧ vk = .int .i64 i ∧ Hid (ScanQ w wr vv (scan S.read i))) (fun _ vk _ => 8 - (intOf vk).toNat)
  case atStart => exact ⟨0, Nat.zero_le _, rfl, H0⟩
  case round =>
    clear H0
    obtain ⟨i, hi, rfl, hI⟩ := hrel
    have z0 : (0 : Int) ≤ (i : Int) := by omega
    by_cases h8 : i < 8
    · have z1 : (i : Int) < 8 := by omega
      go_wp2_with fail
      refine (CR.out i wr h8 hI.out.below).mono ?_
      rintro x w1 ⟨rfl, rfl⟩
      have HP := Lib.hid (rparse_any (S.read i) wr)
      go_wp2_with fail
      refine HP.out.mono ?_
      rintro x w2 ⟨rfl, hb2⟩
      have HS2 := Lib.hid (hI.out.later hb2)
      clear hb2 HP hI
      have HZ := Lib.hid (ebt_zero w2 43)
      cases hp : parse (S.read i) with
      | none =>
        have HN : Hid (scan S.read (i + 1) = scan S.read i) := Lib.hid (scan_none hp)
        rw [show parsed (S.read i) = Ent.zero by unfold parsed; rw [hp]; rfl]
        generalize Ent.zero = E
        have HE := Lib.hid (ebt_put w2 43 E)
        go_wp2_with (first
          | (refine wpList_store_mid rfl 43 (.tmp 8) (.tmp 29) rfl w2.heap.size 0 E.cells.toArray rfl rfl HZ.out.room (ref_infoA E) (e_all E) ?_; generalize World.setCells _ _ _ _ = W3 at HE ⊢))
        have HS := Lib.hid (HS2.out.later HE.out.2)
        clear HE HS2
        go_roundw
        case rel => exact ⟨i + 1, by omega, by go_num, by rw [HN.out]; exact HS⟩
        case measure => simp [intOf]; omega
      | some e =>
        have HV := (parse_some hp).2.2.1
        have hnum := valid_number HV
        rw [show parsed (S.read i) = e by unfold parsed; rw [hp]; rfl]
        have n0 : (0 : Int) ≤ e.number := by omega
        have n1 : e.number ≤ 4294967295 := by omega
        have HE := Lib.hid (ebt_put w2 43 e)
        by_cases hn : e.number % 8 = (i : Int)
        · have HN : Hid (scan S.read (i + 1) = ins (scan S.read i) e) := Lib.hid (scan_some hp hn)
          have HNN := Lib.hid hn
          have hrl := scan_length S.read i
          have hm8 : e.number.tmod 8 = (i : Int) := by rw [Int.tmod_eq_emod_of_nonneg n0]; exact hn
          clear hn hp HV hnum
          generalize scan S.read i = l at HS2 HN hrl
          generalize e = E at *
          go_wp2_with (first
            | (refine wpList_store_mid rfl 43 (.tmp 8) (.tmp 29) rfl w2.heap.size 0 E.cells.toArray rfl rfl HZ.out.room (ref_infoA E) (e_all E) ?_; generalize World.setCells _ _ _ _ = W3 at HE ⊢; have HE3 := Lib.hid HE.out.1; have HS3 := Lib.hid (HS2.out.later HE.out.2); have ce := HE3.out.cell1; clear HE HS2))
          have hlw := HS3.out.lt
          have HNX0 : Hid (ScanQ W3 W3 (.slice none 0 0) (l.take 0)) := Lib.hid (ScanQ.nil W3)
          have hBlt := HE3.out.lt
          generalize w2.heap.size = B at HE3 ce hBlt ⊢
          clear ce
          go_loopw [10, 11] (fun vn vk wq => ∃ k : Nat, k ≤ l.length ∧ vk = .int .i64 k ∧ Hid (ScanQ W3 wq vn (l.take k)) ∧ Hid (∀ j x, j < k → l[j]? = some x → x.number < E.number)) (fun _ vk _ => l.length - (intOf vk).toNat)
          case atStart => exact ⟨0, Nat.zero_le _, rfl, HNX0, Lib.hid (fun j x hj => absurd hj (Nat.not_lt_zero j))⟩
          case round =>
            clear HNX0
            obtain ⟨k, hk, rfl, hX, hLow⟩ := hrel
            have k0 : (0 : Int) ≤ (k : Int) := by omega
            have HE4 := Lib.hid (HE3.out.later hX.out.below)
            have HS4 := Lib.hid (HS3.out.later hX.out.below)
            have ce := HE4.out.cell1
            have hwq := hX.out.lt
            -- INNER
            rcases HS4.out.form with ⟨hv, hl0⟩ | ⟨g1, c1, hv, hc1⟩
            · -- no entry yet
              subst hv
              have HKL : Hid (k ≤ l.length) := Lib.hid hk
              obtain rfl : k = 0 := by rw [hl0] at hk; simpa using hk
              have HLN : Hid (l.length = 0) := Lib.hid (by rw [hl0]; rfl)
              have HDROP : Hid (l.drop 0 = []) := Lib.hid hl0
              have HRES : Hid (ins l E = l.take 0 ++ [E] ++ l.drop 0) := Lib.hid (ins_at HKL.out hLow.out (fun y hy => absurd (List.getElem?_eq_some_iff.1 hy).1 (by rw [HLN.out]; omega)))
              have t0 : decide (((0 : Nat) : Int) < ((0 : Nat) : Int)) = false := rfl
              rw [HLN.out] at hk
              clear hl0
              go_wp2
              go_quiet (fail)
              have HX5 := Lib.hid (hX.out.later (below_drewN' wr nq))
              have HS5 := Lib.hid (HS4.out.later (below_drewN' wr nq))
              have HE5 := Lib.hid (HE4.out.later (below_drewN' wr nq))
              clear hX HS4 HE4 ce
              generalize wr.drewN nq = wd at HX5 HS5 HE5 ⊢
              have HTK : Hid ((l.take 0).length = 0) := Lib.hid (by rw [List.length_take, Nat.min_eq_left HKL.out])
              have hwd := HX5.out.lt
              clear t0 hLow
              have hb : ∀ W, (Instr.buildSlice 65 1 #[(0, .agg E.cells.toArray)]).run Tryd.prog W = .ok (.slice (some ⟨W.heap.size, 0, none⟩) 1 1) (W.alloc (.cells E.cells.toArray 43)) :=
                fun W => run_buildSlice_one 65 43 _ 48 5 E.cells W Tryd.underlying65 q_info3 rfl rfl (by decide) (by decide)
              have HNEW : Hid (∀ (W : World) (j : Nat) (u : Value), E.cells[j]? = some u → (W.alloc (.cells E.cells.toArray 43)).cell? ((⟨W.heap.size, 0, none⟩ : Addr).add j) = some u) := Lib.hid (fun W j u hu => news_at W E.cells.toArray _ j u (by simpa using hu))
              have HONE := Lib.hid (ecells_one E)
              have hl5 : E.cells.length = 5 := rfl
              have HIE := Lib.hid (ref_info E)
              rcases HX5.out.form with ⟨hv2, hk2⟩ | ⟨g3, c3, hv2, hc3⟩
              · subst hv2
                have HL9 : Hid ((l.take 0 ++ [E]).length = 0 + 1) := Lib.hid (by rw [List.length_append, HTK.out]; rfl)
                go_wp2_with (first
                  | (refine wpList_load_mid rfl 43 (.tmp 8) rfl B 0 rfl E.cells _ HE5.out.cells Tryd.underlying43 rfl HIE.out ?_)
                  | (refine wpList_append_lies _ rfl (.tmp 65) (.tmp 67) 65 rfl W3.heap.size 43 i0 _ 5 48 Tryd.underlying65 hi0 hy0 hy1 hy2 rfl (by decide) _ 0 (ecells (l.take 0)) rfl (by have := (HX5.out.alloc (.cells E.cells.toArray 43)).row; rw [HTK.out] at this; exact this) ⟨wd.heap.size, 0, none⟩ 1 1 E.cells rfl rfl (HNEW.out wd) HONE.out (by decide) (by unfold maxLen; omega) (by omega) (by simp; omega) (wd.heap.size + 1) (by simp) ?_; intro g2 cap2 W9 hrow hgr hgl hlt9; have HX9 := Lib.hid ((HX5.out.alloc _).grown (m := [E]) (n := 0 + 1) (by rw [List.length_append, HTK.out]; rfl) (by simpa [ecells] using hrow) hgr); have HS9 := Lib.hid (HS3.out.later HX9.out.below); have hw9 := HX9.out.lt; clear hrow hgr hgl hlt9 HX5)
                  | (refine wpList_append_nil rfl (.tmp 69) (.tmp 72) 65 rfl W3.heap.size 43 i0 5 Tryd.underlying65 hi0 _ (0 + 1) (ecells (l.take 0 ++ [E])) rfl (by have := HX9.out.row; rw [HL9.out] at this; exact this) rfl ?_; have HF := Lib.hid (HS3.out.up HX9.out)))
                all_goals
                  clear HNEW hb hl5
                  go_roundw
                  case rel => exact ⟨i + 1, by omega, by go_num, by rw [HN.out, HRES.out]; rw [HDROP.out, List.append_nil]; exact HF⟩
                  case measure => simp [intOf]; omega
              · rw [HTK.out] at hv2
                subst hv2
                have HL9 : Hid ((l.take 0 ++ [E]).length = 0 + 1) := Lib.hid (by rw [List.length_append, HTK.out]; rfl)
                go_wp2_with (first
                  | (refine wpList_load_mid rfl 43 (.tmp 8) rfl B 0 rfl E.cells _ HE5.out.cells Tryd.underlying43 rfl HIE.out ?_)
                  | (refine wpList_append_lies _ rfl (.tmp 65) (.tmp 67) 65 rfl W3.heap.size 43 i0 _ 5 48 Tryd.underlying65 hi0 hy0 hy1 hy2 rfl (by decide) _ 0 (ecells (l.take 0)) rfl (by have := (HX5.out.alloc (.cells E.cells.toArray 43)).row; rw [HTK.out] at this; exact this) ⟨wd.heap.size, 0, none⟩ 1 1 E.cells rfl rfl (HNEW.out wd) HONE.out (by decide) (by unfold maxLen; omega) (by omega) (by simp; omega) (wd.heap.size + 1) (by simp) ?_; intro g2 cap2 W9 hrow hgr hgl hlt9; have HX9 := Lib.hid ((HX5.out.alloc _).grown (m := [E]) (n := 0 + 1) (by rw [List.length_append, HTK.out]; rfl) (by simpa [ecells] using hrow) hgr); have HS9 := Lib.hid (HS3.out.later HX9.out.below); have hw9 := HX9.out.lt; clear hrow hgr hgl hlt9 HX5)
                  | (refine wpList_append_nil rfl (.tmp 69) (.tmp 72) 65 rfl W3.heap.size 43 i0 5 Tryd.underlying65 hi0 _ (0 + 1) (ecells (l.take 0 ++ [E])) rfl (by have := HX9.out.row; rw [HL9.out] at this; exact this) rfl ?_; have HF := Lib.hid (HS3.out.up HX9.out)))
                all_goals
                  clear HNEW hb hl5
                  go_roundw
                  case rel => exact ⟨i + 1, by omega, by go_num, by rw [HN.out, HRES.out]; rw [HDROP.out, List.append_nil]; exact HF⟩
                  case measure => simp [intOf]; omega
            · subst hv
              generalize hn : l.length = n at *
              have HLN := Lib.hid hn
              have HKL : Hid (k ≤ l.length) := Lib.hid (by rw [HLN.out]; exact hk)
              have hk' : k ≤ l.length := HKL.out
              have k2 : (n : Int) ≤ 8 := by omega
              by_cases hkn : k < n
              · obtain ⟨x, hx⟩ : ∃ x, l[k]? = some x := ⟨l[k]'(by omega), List.getElem?_eq_getElem (by omega)⟩
                have HXA := Lib.hid (fun W (h : ScanQ w W (.slice (some ⟨g1, 0, none⟩) n c1) l) => h.at rfl HLN.out hx)
                have cx := cell_of_range (HXA.out wr HS4.out)
                have HXX := Lib.hid hx
                have k1 : (k : Int) < (n : Int) := by omega
                by_cases hlt : x.number < E.number
                · have t0 : decide (x.number < E.number) = true := decide_eq_true hlt
                  have HLT := Lib.hid hlt
                  clear hlt hn hx
                  go_wp2
                  go_quiet (fail)
                  have HX5 := Lib.hid (hX.out.later (below_drewN' wr nq))
                  have HS5 := Lib.hid (HS4.out.later (below_drewN' wr nq))
                  have HE5 := Lib.hid (HE4.out.later (below_drewN' wr nq))
                  clear hX HS4 HE4 ce
                  generalize wr.drewN nq = wd at HX5 HS5 HE5 ⊢
                  have HTK : Hid ((l.take k).length = k) := Lib.hid (by rw [List.length_take, Nat.min_eq_left HKL.out])
                  have hwd := HX5.out.lt
                  have RX : Hid (wd.rangeAt g1 (k * 5) x.cells) := Lib.hid (HXA.out wd HS5.out)
                  have HIX := Lib.hid (ref_info x)
                  have hb : ∀ W, (Instr.buildSlice 65 1 #[(0, .agg x.cells.toArray)]).run Tryd.prog W = .ok (.slice (some ⟨W.heap.size, 0, none⟩) 1 1) (W.alloc (.cells x.cells.toArray 43)) :=
                    fun W => run_buildSlice_one 65 43 _ 48 5 x.cells W Tryd.underlying65 q_info3 rfl rfl (by decide) (by decide)
                  have HNEW : Hid (∀ (W : World) (j : Nat) (u : Value), x.cells[j]? = some u → (W.alloc (.cells x.cells.toArray 43)).cell? ((⟨W.heap.size, 0, none⟩ : Addr).add j) = some u) := Lib.hid (fun W j u hu => news_at W x.cells.toArray _ j u (by simpa using hu))
                  have HONE := Lib.hid (ecells_one x)
                  have hl5 : x.cells.length = 5 := rfl
                  have HNXT : Hid (l.take (k + 1) = l.take k ++ [x]) := Lib.hid (by rw [List.take_add_one, HXX.out]; rfl)
                  have HLOW2 : Hid (∀ j y, j < k + 1 → l[j]? = some y → y.number < E.number) := Lib.hid (fun j y hj hy => by
                    rcases Nat.lt_succ_iff_lt_or_eq.1 hj with h | h
                    · exact hLow.out j y h hy
                    · subst h; rw [HXX.out] at hy; cases hy; exact HLT.out)
                  clear t0 cx hLow HXA HXX HLT
                  go_wp2_with (first
                    | (refine wpList_load_mid rfl 43 (.tmp 59) rfl g1 (k * 5) rfl x.cells _ RX.out Tryd.underlying43 rfl HIX.out ?_)
                    | (refine wpList_append_lies _ rfl (.tmp 56) (.tmp 61) 65 rfl W3.heap.size 43 i0 _ 5 48 Tryd.underlying65 hi0 hy0 hy1 hy2 rfl (by decide) _ k (ecells (l.take k)) rfl (by have := (HX5.out.alloc (.cells x.cells.toArray 43)).row; rw [HTK.out] at this; exact this) ⟨wd.heap.size, 0, none⟩ 1 1 x.cells rfl rfl (HNEW.out wd) HONE.out (by decide) (by unfold maxLen; omega) (by omega) (by simp; omega) (wd.heap.size + 1) (by simp) ?_; intro g2 cap2 W9 hrow hgr hgl hlt9; have HX9 := Lib.hid ((HX5.out.alloc _).grown (m := [x]) (n := k + 1) (by rw [List.length_append, HTK.out]; rfl) (by simpa [ecells] using hrow) hgr); clear hrow hgr hgl hlt9 HX5))
                  clear HNEW hb hl5
                  go_roundw
                  case rel => exact ⟨k + 1, by omega, by go_num, by rw [HNXT.out]; exact HX9, HLOW2⟩
                  case measure => simp [intOf]; omega
                · have t0 : decide (x.number < E.number) = false := decide_eq_false hlt
                  have HRES : Hid (ins l E = l.take k ++ [E] ++ l.drop k) := Lib.hid (ins_at HKL.out hLow.out (fun y hy => by rw [hx] at hy; cases hy; exact hlt))
                  clear hlt hn hx
                  go_wp2
                  go_quiet (fail)
                  clear cx HXA HXX hk'
                  have HX5 := Lib.hid (hX.out.later (below_drewN' wr nq))
                  have HS5 := Lib.hid (HS4.out.later (below_drewN' wr nq))
                  have HE5 := Lib.hid (HE4.out.later (below_drewN' wr nq))
                  clear hX HS4 HE4 ce
                  generalize wr.drewN nq = wd at HX5 HS5 HE5 ⊢
                  have HTK : Hid ((l.take k).length = k) := Lib.hid (by rw [List.length_take, Nat.min_eq_left HKL.out])
                  have hwd := HX5.out.lt
                  clear t0 hLow
                  have hb : ∀ W, (Instr.buildSlice 65 1 #[(0, .agg E.cells.toArray)]).run Tryd.prog W = .ok (.slice (some ⟨W.heap.size, 0, none⟩) 1 1) (W.alloc (.cells E.cells.toArray 43)) :=
                    fun W => run_buildSlice_one 65 43 _ 48 5 E.cells W Tryd.underlying65 q_info3 rfl rfl (by decide) (by decide)
                  have HNEW : Hid (∀ (W : World) (j : Nat) (u : Value), E.cells[j]? = some u → (W.alloc (.cells E.cells.toArray 43)).cell? ((⟨W.heap.size, 0, none⟩ : Addr).add j) = some u) := Lib.hid (fun W j u hu => news_at W E.cells.toArray _ j u (by simpa using hu))
                  have HONE := Lib.hid (ecells_one E)
                  have hl5 : E.cells.length = 5 := rfl
                  have HIE := Lib.hid (ref_info E)
                  rcases HX5.out.form with ⟨hv2, hk2⟩ | ⟨g3, c3, hv2, hc3⟩
                  · have hk0 : k = 0 := by have := congrArg List.length hk2; rw [HTK.out] at this; exact this
                    subst hk0
                    subst hv2
                    have HL9 : Hid ((l.take 0 ++ [E]).length = 0 + 1) := Lib.hid (by rw [List.length_append, HTK.out]; rfl)
                    go_wp2_with (first
                      | (refine wpList_load_mid rfl 43 (.tmp 8) rfl B 0 rfl E.cells _ HE5.out.cells Tryd.underlying43 rfl HIE.out ?_)
                      | (refine wpList_append_lies _ rfl (.tmp 65) (.tmp 67) 65 rfl W3.heap.size 43 i0 _ 5 48 Tryd.underlying65 hi0 hy0 hy1 hy2 rfl (by decide) _ 0 (ecells (l.take 0)) rfl (by have := (HX5.out.alloc (.cells E.cells.toArray 43)).row; rw [HTK.out] at this; exact this) ⟨wd.heap.size, 0, none⟩ 1 1 E.cells rfl rfl (HNEW.out wd) HONE.out (by decide) (by unfold maxLen; omega) (by omega) (by simp; omega) (wd.heap.size + 1) (by simp) ?_; intro g2 cap2 W9 hrow hgr hgl hlt9; have HX9 := Lib.hid ((HX5.out.alloc _).grown (m := [E]) (n := 0 + 1) (by rw [List.length_append, HTK.out]; rfl) (by simpa [ecells] using hrow) hgr); have HS9 := Lib.hid (HS3.out.later HX9.out.below); have hw9 := HX9.out.lt; clear hrow hgr hgl hlt9 HX5)
                      | (refine wpList_append_lies _ rfl (.tmp 69) (.tmp 72) 65 rfl W3.heap.size 43 i0 _ 5 48 Tryd.underlying65 hi0 hy0 hy1 hy2 rfl (by decide) _ (0 + 1) (ecells (l.take 0 ++ [E])) rfl (by have := HX9.out.row; rw [HL9.out] at this; exact this) ⟨g1, 0, none⟩ n c1 (ecells (l.drop 0)) rfl (by simp [ecells_length, HLN.out]) (HS9.out.news0 rfl HLN.out) (ecells_ones _) (by omega) (by unfold maxLen; omega) (by omega) hw9 W9.heap.size rfl ?_; intro g4 cap4 W10 hrow hgr hgl hlt9; have HX10 := Lib.hid (HX9.out.grown (m := l.drop 0) (n := 0 + 1 + n) (by rw [List.length_append, HL9.out, List.length_drop, HLN.out]; rfl) hrow hgr); have HF := Lib.hid (HS3.out.up HX10.out); clear hrow hgr hgl hlt9 HX10))
                    all_goals
                      clear HNEW hb hl5
                      go_roundw
                      case rel => exact ⟨i + 1, by omega, by go_num, by rw [HN.out, HRES.out]; exact HF⟩
                      case measure => simp [intOf]; omega
                  · rw [HTK.out] at hv2
                    subst hv2
                    have HL9 : Hid ((l.take k ++ [E]).length = k + 1) := Lib.hid (by rw [List.length_append, HTK.out]; rfl)
                    go_wp2_with (first
                      | (refine wpList_load_mid rfl 43 (.tmp 8) rfl B 0 rfl E.cells _ HE5.out.cells Tryd.underlying43 rfl HIE.out ?_)
                      | (refine wpList_append_lies _ rfl (.tmp 65) (.tmp 67) 65 rfl W3.heap.size 43 i0 _ 5 48 Tryd.underlying65 hi0 hy0 hy1 hy2 rfl (by decide) _ k (ecells (l.take k)) rfl (by have := (HX5.out.alloc (.cells E.cells.toArray 43)).row; rw [HTK.out] at this; exact this) ⟨wd.heap.size, 0, none⟩ 1 1 E.cells rfl rfl (HNEW.out wd) HONE.out (by decide) (by unfold maxLen; omega) (by omega) (by simp; omega) (wd.heap.size + 1) (by simp) ?_; intro g2 cap2 W9 hrow hgr hgl hlt9; have HX9 := Lib.hid ((HX5.out.alloc _).grown (m := [E]) (n := k + 1) (by rw [List.length_append, HTK.out]; rfl) (by simpa [ecells] using hrow) hgr); have HS9 := Lib.hid (HS3.out.later HX9.out.below); have hw9 := HX9.out.lt; clear hrow hgr hgl hlt9 HX5)
                      | (refine wpList_append_lies _ rfl (.tmp 69) (.tmp 72) 65 rfl W3.heap.size 43 i0 _ 5 48 Tryd.underlying65 hi0 hy0 hy1 hy2 rfl (by decide) _ (k + 1) (ecells (l.take k ++ [E])) rfl (by have := HX9.out.row; rw [HL9.out] at this; exact this) ⟨g1, k * 5, none⟩ (n - k) (c1 - k) (ecells (l.drop k)) rfl (by rw [ecells_length, List.length_drop, HLN.out]) (HS9.out.news rfl HLN.out (by omega)) (ecells_ones _) (by omega) (by unfold maxLen; omega) (by omega) hw9 W9.heap.size rfl ?_; intro g4 cap4 W10 hrow hgr hgl hlt9; have HX10 := Lib.hid (HX9.out.grown (m := l.drop k) (n := k + 1 + (n - k)) (by rw [List.length_append, HL9.out, List.length_drop, HLN.out]) hrow hgr); have HF := Lib.hid (HS3.out.up HX10.out); clear hrow hgr hgl hlt9 HX10))
                    all_goals
                      clear HNEW hb hl5
                      go_roundw
                      case rel => exact ⟨i + 1, by omega, by go_num, by rw [HN.out, HRES.out]; exact HF⟩
                      case measure => simp [intOf]; omega
              · obtain rfl : k = n := by omega
                have t0 : decide ((k : Int) < (k : Int)) = false := decide_eq_false (by omega)
                have HRES : Hid (ins l E = l.take k ++ [E] ++ l.drop k) := Lib.hid (ins_at HKL.out hLow.out (fun y hy => absurd (List.getElem?_eq_some_iff.1 hy).1 (by rw [HLN.out]; omega)))
                have HDROP : Hid (l.drop k = []) := Lib.hid (by rw [List.drop_eq_nil_iff, HLN.out]; exact Nat.le_refl _)
                clear hn hk'
                by_cases hcc : c1 = k
                · obtain rfl : k = c1 := hcc.symm
                  go_wp2
                  go_quiet (fail)
                  have HX5 := Lib.hid (hX.out.later (below_drewN' wr nq))
                  have HS5 := Lib.hid (HS4.out.later (below_drewN' wr nq))
                  have HE5 := Lib.hid (HE4.out.later (below_drewN' wr nq))
                  clear hX HS4 HE4 ce
                  generalize wr.drewN nq = wd at HX5 HS5 HE5 ⊢
                  have HTK : Hid ((l.take k).length = k) := Lib.hid (by rw [List.length_take, Nat.min_eq_left HKL.out])
                  have hwd := HX5.out.lt
                  clear t0 hLow
                  have hb : ∀ W, (Instr.buildSlice 65 1 #[(0, .agg E.cells.toArray)]).run Tryd.prog W = .ok (.slice (some ⟨W.heap.size, 0, none⟩) 1 1) (W.alloc (.cells E.cells.toArray 43)) :=
                    fun W => run_buildSlice_one 65 43 _ 48 5 E.cells W Tryd.underlying65 q_info3 rfl rfl (by decide) (by decide)
                  have HNEW : Hid (∀ (W : World) (j : Nat) (u : Value), E.cells[j]? = some u → (W.alloc (.cells E.cells.toArray 43)).cell? ((⟨W.heap.size, 0, none⟩ : Addr).add j) = some u) := Lib.hid (fun W j u hu => news_at W E.cells.toArray _ j u (by simpa using hu))
                  have HONE := Lib.hid (ecells_one E)
                  have hl5 : E.cells.length = 5 := rfl
                  have HIE := Lib.hid (ref_info E)
                  rcases HX5.out.form with ⟨hv2, hk2⟩ | ⟨g3, c3, hv2, hc3⟩
                  · have hk0 : k = 0 := by have := congrArg List.length hk2; rw [HTK.out] at this; exact this
                    subst hk0
                    subst hv2
                    have HL9 : Hid ((l.take 0 ++ [E]).length = 0 + 1) := Lib.hid (by rw [List.length_append, HTK.out]; rfl)
                    go_wp2_with (first
                      | (refine wpList_load_mid rfl 43 (.tmp 8) rfl B 0 rfl E.cells _ HE5.out.cells Tryd.underlying43 rfl HIE.out ?_)
                      | (refine wpList_append_lies _ rfl (.tmp 65) (.tmp 67) 65 rfl W3.heap.size 43 i0 _ 5 48 Tryd.underlying65 hi0 hy0 hy1 hy2 rfl (by decide) _ 0 (ecells (l.take 0)) rfl (by have := (HX5.out.alloc (.cells E.cells.toArray 43)).row; rw [HTK.out] at this; exact this) ⟨wd.heap.size, 0, none⟩ 1 1 E.cells rfl rfl (HNEW.out wd) HONE.out (by decide) (by unfold maxLen; omega) (by omega) (by simp; omega) (wd.heap.size + 1) (by simp) ?_; intro g2 cap2 W9 hrow hgr hgl hlt9; have HX9 := Lib.hid ((HX5.out.alloc _).grown (m := [E]) (n := 0 + 1) (by rw [List.length_append, HTK.out]; rfl) (by simpa [ecells] using hrow) hgr); have HS9 := Lib.hid (HS3.out.later HX9.out.below); have hw9 := HX9.out.lt; clear hrow hgr hgl hlt9 HX5)
                      | (refine wpList_append_zero rfl (.tmp 69) (.tmp 72) 65 rfl W3.heap.size 43 i0 5 Tryd.underlying65 hi0 _ (0 + 1) (ecells (l.take 0 ++ [E])) rfl (by have := HX9.out.row; rw [HL9.out] at this; exact this) _ (0 - 0) _ (by omega) rfl ?_; have HF := Lib.hid (HS3.out.up HX9.out))
                      | (refine wpList_append_empty rfl (.tmp 69) (.tmp 72) 65 rfl W3.heap.size 43 i0 5 Tryd.underlying65 hi0 _ (0 + 1) (ecells (l.take 0 ++ [E])) rfl (by have := HX9.out.row; rw [HL9.out] at this; exact this) _ _ rfl ?_; have HF := Lib.hid (HS3.out.up HX9.out)))
                    all_goals
                      clear HNEW hb hl5
                      go_roundw
                      case rel => exact ⟨i + 1, by omega, by go_num, by rw [HN.out, HRES.out]; rw [HDROP.out, List.append_nil]; exact HF⟩
                      case measure => simp [intOf]; omega
                  · rw [HTK.out] at hv2
                    subst hv2
                    have HL9 : Hid ((l.take k ++ [E]).length = k + 1) := Lib.hid (by rw [List.length_append, HTK.out]; rfl)
                    go_wp2_with (first
                      | (refine wpList_load_mid rfl 43 (.tmp 8) rfl B 0 rfl E.cells _ HE5.out.cells Tryd.underlying43 rfl HIE.out ?_)
                      | (refine wpList_append_lies _ rfl (.tmp 65) (.tmp 67) 65 rfl W3.heap.size 43 i0 _ 5 48 Tryd.underlying65 hi0 hy0 hy1 hy2 rfl (by decide) _ k (ecells (l.take k)) rfl (by have := (HX5.out.alloc (.cells E.cells.toArray 43)).row; rw [HTK.out] at this; exact this) ⟨wd.heap.size, 0, none⟩ 1 1 E.cells rfl rfl (HNEW.out wd) HONE.out (by decide) (by unfold maxLen; omega) (by omega) (by simp; omega) (wd.heap.size + 1) (by simp) ?_; intro g2 cap2 W9 hrow hgr hgl hlt9; have HX9 := Lib.hid ((HX5.out.alloc _).grown (m := [E]) (n := k + 1) (by rw [List.length_append, HTK.out]; rfl) (by simpa [ecells] using hrow) hgr); have HS9 := Lib.hid (HS3.out.later HX9.out.below); have hw9 := HX9.out.lt; clear hrow hgr hgl hlt9 HX5)
                      | (refine wpList_append_zero rfl (.tmp 69) (.tmp 72) 65 rfl W3.heap.size 43 i0 5 Tryd.underlying65 hi0 _ (k + 1) (ecells (l.take k ++ [E])) rfl (by have := HX9.out.row; rw [HL9.out] at this; exact this) _ (k - k) _ (by omega) rfl ?_; have HF := Lib.hid (HS3.out.up HX9.out))
                      | (refine wpList_append_empty rfl (.tmp 69) (.tmp 72) 65 rfl W3.heap.size 43 i0 5 Tryd.underlying65 hi0 _ (k + 1) (ecells (l.take k ++ [E])) rfl (by have := HX9.out.row; rw [HL9.out] at this; exact this) _ _ rfl ?_; have HF := Lib.hid (HS3.out.up HX9.out)))
                    all_goals
                      clear HNEW hb hl5
                      go_roundw
                      case rel => exact ⟨i + 1, by omega, by go_num, by rw [HN.out, HRES.out]; rw [HDROP.out, List.append_nil]; exact HF⟩
                      case measure => simp [intOf]; omega
                · have hc2 : ¬k = c1 := fun e => hcc e.symm
                  have hc3 : ¬c1 - k = 0 := by omega
                  go_wp2
                  go_quiet (fail)
                  have HX5 := Lib.hid (hX.out.later (below_drewN' wr nq))
                  have HS5 := Lib.hid (HS4.out.later (below_drewN' wr nq))
                  have HE5 := Lib.hid (HE4.out.later (below_drewN' wr nq))
                  clear hX HS4 HE4 ce
                  generalize wr.drewN nq = wd at HX5 HS5 HE5 ⊢
                  have HTK : Hid ((l.take k).length = k) := Lib.hid (by rw [List.length_take, Nat.min_eq_left HKL.out])
                  have hwd := HX5.out.lt
                  clear t0 hLow
                  have hb : ∀ W, (Instr.buildSlice 65 1 #[(0, .agg E.cells.toArray)]).run Tryd.prog W = .ok (.slice (some ⟨W.heap.size, 0, none⟩) 1 1) (W.alloc (.cells E.cells.toArray 43)) :=
                    fun W => run_buildSlice_one 65 43 _ 48 5 E.cells W Tryd.underlying65 q_info3 rfl rfl (by decide) (by decide)
                  have HNEW : Hid (∀ (W : World) (j : Nat) (u : Value), E.cells[j]? = some u → (W.alloc (.cells E.cells.toArray 43)).cell? ((⟨W.heap.size, 0, none⟩ : Addr).add j) = some u) := Lib.hid (fun W j u hu => news_at W E.cells.toArray _ j u (by simpa using hu))
                  have HONE := Lib.hid (ecells_one E)
                  have hl5 : E.cells.length = 5 := rfl
                  have HIE := Lib.hid (ref_info E)
                  rcases HX5.out.form with ⟨hv2, hk2⟩ | ⟨g3, c3, hv2, hc4⟩
                  · have hk0 : k = 0 := by have := congrArg List.length hk2; rw [HTK.out] at this; exact this
                    subst hk0
                    subst hv2
                    have HL9 : Hid ((l.take 0 ++ [E]).length = 0 + 1) := Lib.hid (by rw [List.length_append, HTK.out]; rfl)
                    go_wp2_with (first
                      | (refine wpList_load_mid rfl 43 (.tmp 8) rfl B 0 rfl E.cells _ HE5.out.cells Tryd.underlying43 rfl HIE.out ?_)
                      | (refine wpList_append_lies _ rfl (.tmp 65) (.tmp 67) 65 rfl W3.heap.size 43 i0 _ 5 48 Tryd.underlying65 hi0 hy0 hy1 hy2 rfl (by decide) _ 0 (ecells (l.take 0)) rfl (by have := (HX5.out.alloc (.cells E.cells.toArray 43)).row; rw [HTK.out] at this; exact this) ⟨wd.heap.size, 0, none⟩ 1 1 E.cells rfl rfl (HNEW.out wd) HONE.out (by decide) (by unfold maxLen; omega) (by omega) (by simp; omega) (wd.heap.size + 1) (by simp) ?_; intro g2 cap2 W9 hrow hgr hgl hlt9; have HX9 := Lib.hid ((HX5.out.alloc _).grown (m := [E]) (n := 0 + 1) (by rw [List.length_append, HTK.out]; rfl) (by simpa [ecells] using hrow) hgr); have HS9 := Lib.hid (HS3.out.later HX9.out.below); have hw9 := HX9.out.lt; clear hrow hgr hgl hlt9 HX5)
                      | (refine wpList_append_zero rfl (.tmp 69) (.tmp 72) 65 rfl W3.heap.size 43 i0 5 Tryd.underlying65 hi0 _ (0 + 1) (ecells (l.take 0 ++ [E])) rfl (by have := HX9.out.row; rw [HL9.out] at this; exact this) _ (0 - 0) _ (by omega) rfl ?_; have HF := Lib.hid (HS3.out.up HX9.out))
                      | (refine wpList_append_empty rfl (.tmp 69) (.tmp 72) 65 rfl W3.heap.size 43 i0 5 Tryd.underlying65 hi0 _ (0 + 1) (ecells (l.take 0 ++ [E])) rfl (by have := HX9.out.row; rw [HL9.out] at this; exact this) _ _ rfl ?_; have HF := Lib.hid (HS3.out.up HX9.out)))
                    all_goals
                      clear HNEW hb hl5
                      go_roundw
                      case rel => exact ⟨i + 1, by omega, by go_num, by rw [HN.out, HRES.out]; rw [HDROP.out, List.append_nil]; exact HF⟩
                      case measure => simp [intOf]; omega
                  · rw [HTK.out] at hv2
                    subst hv2
                    have HL9 : Hid ((l.take k ++ [E]).length = k + 1) := Lib.hid (by rw [List.length_append, HTK.out]; rfl)
                    go_wp2_with (first
                      | (refine wpList_load_mid rfl 43 (.tmp 8) rfl B 0 rfl E.cells _ HE5.out.cells Tryd.underlying43 rfl HIE.out ?_)
                      | (refine wpList_append_lies _ rfl (.tmp 65) (.tmp 67) 65 rfl W3.heap.size 43 i0 _ 5 48 Tryd.underlying65 hi0 hy0 hy1 hy2 rfl (by decide) _ k (ecells (l.take k)) rfl (by have := (HX5.out.alloc (.cells E.cells.toArray 43)).row; rw [HTK.out] at this; exact this) ⟨wd.heap.size, 0, none⟩ 1 1 E.cells rfl rfl (HNEW.out wd) HONE.out (by decide) (by unfold maxLen; omega) (by omega) (by simp; omega) (wd.heap.size + 1) (by simp) ?_; intro g2 cap2 W9 hrow hgr hgl hlt9; have HX9 := Lib.hid ((HX5.out.alloc _).grown (m := [E]) (n := k + 1) (by rw [List.length_append, HTK.out]; rfl) (by simpa [ecells] using hrow) hgr); have HS9 := Lib.hid (HS3.out.later HX9.out.below); have hw9 := HX9.out.lt; clear hrow hgr hgl hlt9 HX5)
                      | (refine wpList_append_zero rfl (.tmp 69) (.tmp 72) 65 rfl W3.heap.size 43 i0 5 Tryd.underlying65 hi0 _ (k + 1) (ecells (l.take k ++ [E])) rfl (by have := HX9.out.row; rw [HL9.out] at this; exact this) _ (k - k) _ (by omega) rfl ?_; have HF := Lib.hid (HS3.out.up HX9.out))
                      | (refine wpList_append_empty rfl (.tmp 69) (.tmp 72) 65 rfl W3.heap.size 43 i0 5 Tryd.underlying65 hi0 _ (k + 1) (ecells (l.take k ++ [E])) rfl (by have := HX9.out.row; rw [HL9.out] at this; exact this) _ _ rfl ?_; have HF := Lib.hid (HS3.out.up HX9.out)))
                    all_goals
                      clear HNEW hb hl5
                      go_roundw
                      case rel => exact ⟨i + 1, by omega, by go_num, by rw [HN.out, HRES.out]; rw [HDROP.out, List.append_nil]; exact HF⟩
                      case measure => simp [intOf]; omega
        -- OUTER
        · have HN : Hid (scan S.read (i + 1) = scan S.read i) := Lib.hid (scan_other hp hn)
          have hm8 : e.number.tmod 8 = e.number % 8 := Int.tmod_eq_emod_of_nonneg n0
          have v0 : (e.number % 8 == (i : Int)) = false := by simpa using hn
          have v1 : decide (e.number % 8 = (i : Int)) = false := decide_eq_false hn
          clear hn hp hnum HV
          generalize e = E at *
          go_wp2_with (first
            | (refine wpList_store_mid rfl 43 (.tmp 8) (.tmp 29) rfl w2.heap.size 0 E.cells.toArray rfl rfl HZ.out.room (ref_infoA E) (e_all E) ?_; generalize World.setCells _ _ _ _ = W3 at HE ⊢; have ce := HE.out.1.cell1))
          have HS := Lib.hid (HS2.out.later HE.out.2)
          clear HE HS2 ce v0 v1
          go_roundw
          case rel => exact ⟨i + 1, by omega, by go_num, by rw [HN.out]; exact HS⟩
          case measure => simp [intOf]; omega
    · obtain rfl : i = 8 := by omega
      go_wp2
      go_ret2
      exact ⟨_, rfl, hI.out⟩

end Go.Proofs.YtkplmaaeggnbgaaDoor.Rg
