/- The walk of the law TreeRight. No condition but those that each states. -/
import Derived.Test.YtcfgngaabledpaaTrRP
import Derived.Test.YtcfgngaabledpaaTrL
namespace Go.Proofs.Ytcfgngaabledpaa.Tr
open Go.RowKit Dk Lx

theorem nds_to {W : World} {p : Option Addr} {m c : Nat} {ts : List Nd} (h : Nds W (.slice p m c) ts) (q : Nat) (hq : q ≤ ts.length) : Nds W (.slice p q c) (ts.take q) := by
  obtain ⟨p', c', e, hc, hf, hp⟩ := h
  simp only [Value.slice.injEq] at e
  obtain ⟨rfl, -, rfl⟩ := e
  have hlen : (ts.take q).length = q := by rw [List.length_take]; omega
  refine ⟨_, _, by rw [hlen], by rw [hlen]; omega, fun x hx => hf x (List.mem_of_mem_take hx), ?_⟩
  rcases hp with rfl | ⟨g, o, rfl, hg, hr⟩
  · exact .inl (by simp)
  · refine .inr ⟨g, o, rfl, hg, ?_⟩
    have e : ncells ts = ncells (ts.take q) ++ ncells (ts.drop q) := by rw [← ncells_app, List.take_append_drop]
    rw [e] at hr
    exact rangeAt_left hr

theorem run_slice_to (p : Option Addr) (m c q : Nat) (hq : q ≤ c) (hp : ∃ g o, p = some (⟨g, o, none⟩ : Addr)) (W : World) :
    (Instr.slice 22 (.slice p m c) none (some (.int .i64 (q : Int))) none).run Try.prog W = .ok (.slice p q c) W := by
  obtain ⟨g, o, rfl⟩ := hp
  rw [run_slice_h W 22 _ m c (by kernel_rfl) .i64 (q : Int) (by omega) (by omega), nd_size]
  show Result.ok (sliced _ 0 (q : Int).toNat c 5) W = _
  unfold sliced
  simp [Addr.add_mid]

def ndNil : Nd := ⟨18, 0, [], 0, []⟩

set_option maxHeartbeats 2000000 in
set_option maxRecDepth 100000 in
theorem right_main (ts : List Nd) (p : Option Addr) (n c : Nat) (w : World) (hnn : n = ts.length) (h : Nds w (.slice p n c) ts) :
    Calls Try.prog 7 #[.slice p n c] w fun e w' => e = .returned (.bool true) ∧ Below w.heap.size w w' := by
  have HNd := Lib.hid h
  have L1 := Lib.hid (light_any ts _ w h)
  have KN := Lib.hid (fun W => known9 W)
  have HN := Lib.hid hnn
  clear h hnn
  go_enter Try.func7, Try.ntmps7
  go_wp2_with fail
  refine L1.out.mono ?_
  rintro e w1 ⟨⟨b1, rfl, h1⟩, rfl⟩
  cases b1 with
  | false =>
    clear h1 L1
    go_wp2_with fail
    refine (KN.out _).mono ?_
    rintro e w3 ⟨rfl, hb3⟩
    have HB3 := Lib.hid hb3
    clear hb3
    go_wp2
    go_ret
    exact ⟨rfl, HB3.out⟩
  | true =>
    obtain ⟨hl, hs⟩ := h1 rfl
    have HS := Lib.hid hs
    clear h1 L1 hs
    have hn4 : n ≤ 2100 := by rw [HN.out]; exact hl
    have C1 : Hid (Calls Try.prog 11 #[.slice p n c] w fun e w' => e = .returned (.tuple #[.int .i64 (checkL ts).1, .int .i64 (checkL ts).2]) ∧ Below w.heap.size w w') := Lib.hid (check_any ts _ w HNd.out (by omega) HS.out)
    have HE : Hid ((checkL ts).1 = (checkL ts).1) := Lib.hid rfl
    obtain ⟨e0, he0⟩ : ∃ e0, e0 = (checkL ts).1 := ⟨_, rfl⟩
    obtain ⟨a0, ha0⟩ : ∃ a0, a0 = (checkL ts).2 := ⟨_, rfl⟩
    rw [← he0, ← ha0] at C1
    clear HE hl ha0
    by_cases hz : e0 = 0
    case neg =>
      have v1 : (e0 == 0) = false := by simpa using hz
      have v2 : (e0 != 0) = true := by simpa using hz
      clear he0 hz
      go_wp2_with fail
      refine C1.out.mono ?_
      rintro e w2 ⟨rfl, hb2⟩
      have HB2 := Lib.hid hb2
      clear hb2
      go_wp2_with fail
      refine (KN.out _).mono ?_
      rintro e w3 ⟨rfl, hb3⟩
      have HB3 := Lib.hid (chain2 HB2.out hb3)
      clear hb3
      go_wp2
      go_ret
      exact ⟨rfl, HB3.out⟩
    subst hz
    have HOK : Hid ((checkL ts).1 = 0) := Lib.hid he0.symm
    have hpos : 0 < n := by rw [HN.out]; exact (check_ok HOK.out).2.1
    have hn2 : n ≤ 2000 := by rw [HN.out]; exact (check_ok HOK.out).1
    clear he0
    obtain ⟨g, o, rfl, -⟩ := HNd.out.node 0 (by rw [← HN.out]; exact hpos)
    have hcm : n ≤ c := by
      obtain ⟨_, _, e, hc, -⟩ := HNd.out
      simp only [Value.slice.injEq] at e
      omega
    go_wp2_with fail
    refine C1.out.mono ?_
    rintro e w2 ⟨rfl, hb2⟩
    have HB2 := Lib.hid hb2
    have HN2 := Lib.hid (HNd.out.later hb2)
    clear hb2 C1
    go_wp2_with fail
    go_loopw [5] (fun vi wr => ∃ i : Nat, i ≤ n ∧ vi = .int .i64 (i : Int) ∧ wr = w2) (fun vi _ => n - (intOf vi).toNat)
    case atStart => exact ⟨0, Nat.zero_le _, rfl, rfl⟩
    case round =>
      obtain ⟨i, hi, rfl, rfl⟩ := hrel
      by_cases hlt : i < n
      · have hil : i < ts.length := by rw [← HN.out]; exact hlt
        obtain ⟨ni, q1, q2, q3⟩ := right_node HOK.out hil
        have E1 := Lib.hid (end_any ts _ (i : Int) wr HN2.out (by rw [← HN.out]; omega))
        rw [q1] at E1
        obtain ⟨g', o', hp, -, c0, -⟩ := HN2.out.node i hil
        cases hp
        generalize ts[i].kind = kd at *
        have z0 : (0 : Int) ≤ (i : Int) := by omega
        have z1 : (i : Int) < (n : Int) := by omega
        have z2 : ¬(i : Int) + (ni : Int) < 0 := by omega
        generalize (i : Int) + (ni : Int) = E at *
        by_cases h0 : i = 0
        · have hk := q2 h0
          subst hk
          have z3 : ¬(i : Int) > 0 := by omega
          clear q1 q2 q3 h0 hil
          go_wp2_with fail
          refine E1.out.mono ?_
          rintro e w3 ⟨rfl, rfl⟩
          go_wp2
          go_roundw
          case rel => exact ⟨i + 1, by omega, by go_num, by trivial⟩
          case measure => simp [intOf]; omega
        · obtain ⟨k1, k2⟩ := q3 (by omega)
          have z3 : (i : Int) > 0 := by omega
          have z4 : ¬kd < 1 := by omega
          have z5 : ¬kd > 30 := by omega
          have z6 : (kd == 1) = false := by simp; omega
          clear q1 q2 q3 h0 hil k1 k2
          go_wp2_with fail
          refine E1.out.mono ?_
          rintro e w3 ⟨rfl, rfl⟩
          go_wp2
          go_roundw
          case rel => exact ⟨i + 1, by omega, by go_num, by trivial⟩
          case measure => simp [intOf]; omega
      · obtain rfl : i = n := by omega
        obtain ⟨q, hq⟩ : ∃ q, i = q + 1 := ⟨i - 1, by omega⟩
        have e1 : IntKind.i64.wrap ((i : Int) - 1) = (q : Int) := by rw [wrap_in _ (by omega)]; omega
        have z1 : ((i : Int) == 0) = false := by simp; omega
        have hsl := fun W => run_slice_to (some ⟨g, o, none⟩) i c q (by omega) ⟨g, o, rfl⟩ W
        have HT := Lib.hid (nds_to HN2.out q (by rw [← HN.out]; omega))
        have hql : (ts.take q).length ≤ 4000 := by rw [List.length_take]; omega
        have C2 : Hid (Calls Try.prog 11 #[.slice (some ⟨g, o, none⟩) q c] wr fun e w' => ∃ e2 a2 : Int, e2 ≠ 0 ∧ e = .returned (.tuple #[.int .i64 e2, .int .i64 a2]) ∧ Below wr.heap.size wr w') := Lib.hid ((check_any (ts.take q) _ wr HT.out hql (fun x hx => HS.out x (List.mem_of_mem_take hx))).mono fun e w' ⟨h1, h2⟩ => ⟨_, _, by have := check_less HOK.out; rw [show ts.length - 1 = q by rw [← HN.out, hq]; rfl] at this; exact this, h1, h2⟩)
        have C3 : Hid (∀ W v, Nds W v (ts ++ [ndNil]) → Calls Try.prog 11 #[v] W fun e w' => ∃ e2 a2 : Int, e2 ≠ 0 ∧ e = .returned (.tuple #[.int .i64 e2, .int .i64 a2]) ∧ Below W.heap.size W w') := Lib.hid (fun W v hv => (check_any (ts ++ [ndNil]) v W hv (by rw [List.length_append, ← HN.out]; simp; omega) (fun x hx => by
          rcases List.mem_append.1 hx with hx | hx
          · exact HS.out x hx
          · rw [List.mem_singleton.1 hx]; exact ⟨by decide, by decide⟩)).mono fun e w' ⟨h1, h2⟩ => ⟨_, _, check_more HOK.out ndNil, h1, h2⟩)
        clear hq hql HT
        go_wp2_with fail
        refine C2.out.mono ?_
        rintro e w3 ⟨e2, a2, he2, rfl, hb3⟩
        have HB3 := Lib.hid (chain2 HB2.out hb3)
        have HN3 := Lib.hid (HN2.out.later hb3)
        have v1 : (e2 == 0) = false := by simpa using he2
        have v2 : (e2 != 0) = true := by simpa using he2
        clear hb3 he2 HB2 HN2 C2 e1 hsl
        have hb := build_none 22 36 _ 5 56 Try.underlying22 n_info3 rfl (by decide) (by decide)
        obtain ⟨i0, hi0, hz0, hz1, hz2⟩ := info_parts n_info3
        have HL : Hid ((ncells ts).length = i * 5) := Lib.hid (by rw [ncells_length, HN.out])
        have H1 := Lib.hid (ncells_ones ts)
        have HOWN : Hid ((w3.alloc (.cells #[] 36)).ownsRow w3.heap.size 36 5 (.slice (some ⟨w3.heap.size, 0, none⟩) 0 0) 0 []) := Lib.hid (World.ownsRow_lit w3 #[] 0 (Nat.le_refl _) (Nat.zero_le _) rfl)
        have HNW : Hid (∀ j u, (ncells ts)[j]? = some u → (w3.alloc (.cells #[] 36)).cell? ((⟨g, o, none⟩ : Addr).add j) = some u) := Lib.hid (fun j u hu => by
          rw [WideShapes.add_plain]
          obtain ⟨p', c', e, hc, -, h0 | ⟨g', o', hp, hg, hr⟩⟩ := HN3.out
          · have := HN.out; rw [h0] at this; simp at this; omega
          · simp only [Value.slice.injEq] at e
            obtain ⟨rfl, -, rfl⟩ := e
            cases hp
            exact (World.cell?_of_block (a := ⟨g, o + j, none⟩) (Below.heap_alloc w3 _ g hg)).trans (hr j u hu))
        have HNEW2 : Hid (∀ (W : World) (j : Nat) (u : Value), ndNil.cells[j]? = some u → (W.alloc (.cells #[.int .i64 18, .int .i64 0, .string ⟨#[]⟩, .int .i64 0, .string ⟨#[]⟩] 36)).cell? ((⟨W.heap.size, 0, none⟩ : Addr).add j) = some u) := Lib.hid (fun W j u hu => news_at W #[.int .i64 18, .int .i64 0, .string ⟨#[]⟩, .int .i64 0, .string ⟨#[]⟩] _ j u hu)
        have HFIT : Hid (Fit (ts ++ [ndNil])) := Lib.hid (fun x hx => by
          rcases List.mem_append.1 hx with hx | hx
          · exact HN3.out.fit x hx
          · rw [List.mem_singleton.1 hx]; decide)
        go_wp2_with (first
          | (refine wpList_append_lies _ rfl (.tmp 73) (.tmp 74) 22 rfl w3.heap.size 36 i0 _ 5 56 Try.underlying22 hi0 hz0 hz1 hz2 rfl (by decide) _ 0 [] rfl HOWN.out ⟨g, o, none⟩ i c (ncells ts) rfl HL.out HNW.out H1.out hpos (by unfold maxLen; omega) (by omega) (by simp) (w3.heap.size + 1) (by simp) ?_; intro g' cap W7 hrow hgr hgl hlt7; have hgr' : (w3.alloc (.cells #[] 36)).grownBy W7 (some w3.heap.size) := hgr; have HR7 : Hid (NR w3 W7 (.slice (some ⟨g', 0, none⟩) i cap) ts) := Lib.hid ⟨by rw [Nat.zero_add, List.nil_append] at hrow; rw [← HN.out]; exact hrow, below_grown hgr' ((Below.refl _ _).alloc (Nat.le_refl _) _) (fun k e => by cases e; exact Nat.le_refl _) (by simp) (Nat.le_refl _)⟩; clear hrow hgr hgl hlt7 hgr')
          | (refine wpList_append_lies _ rfl (.tmp 76) (.tmp 78) 22 rfl w3.heap.size 36 i0 _ 5 56 Try.underlying22 hi0 hz0 hz1 hz2 rfl (by decide) _ i (ncells ts) rfl (by have := HR7.out.row.alloc (.cells #[.int .i64 18, .int .i64 0, .string ⟨#[]⟩, .int .i64 0, .string ⟨#[]⟩] 36); rw [← HN.out] at this; exact this) ⟨W7.heap.size, 0, none⟩ 1 1 ndNil.cells rfl rfl (HNEW2.out W7) (n_one ndNil) (by decide) (by unfold maxLen; omega) (by omega) (by have := HR7.out.below.size; simp; omega) (W7.heap.size + 1) (by simp) ?_; intro g9 cap9 W9 hrow hgr hgl hlt9; have hb9 : Below w3.heap.size w3 W9 := below_grown hgr (HR7.out.below.alloc HR7.out.below.size _) (fun k hk => (own_lo HR7.out.row k hk).1) (by have := HR7.out.below.size; simp; omega) (Nat.le_refl _); have HN9 : Hid (Nds W9 (.slice (some ⟨g9, 0, none⟩) (i + 1) cap9) (ts ++ [ndNil])) := Lib.hid (NR.nds (w := w3) ⟨by rw [List.length_append, ← HN.out, ncells_app]; exact hrow, hb9⟩ HFIT.out); have HB9 := Lib.hid (chain2 HB3.out hb9); clear hrow hgr hgl hlt9 hb9 HR7))
        refine (C3.out _ _ HN9.out).mono ?_
        rintro e w10 ⟨e3, a3, he3, rfl, hb10⟩
        have HB10 := Lib.hid (chain2 HB9.out hb10)
        have v3 : (e3 == 0) = false := by simpa using he3
        have v4 : (e3 != 0) = true := by simpa using he3
        clear hb10 he3 HN9
        go_wp2_with fail
        refine (KN.out _).mono ?_
        rintro e w11 ⟨rfl, hb11⟩
        have HB11 := Lib.hid (chain2 HB10.out hb11)
        clear hb11
        go_wp2
        go_ret
        exact ⟨rfl, HB11.out⟩

theorem treeRight_law {H : Type} {enc : TypeId × Value → H} {w : World} {b0 : Nat} {v : Value} {d : DataW H} {p : List MemPlace}
    (hv : Value.okWide Try.prog w .any b0 22 v) (h : DataW.Trod enc Try.prog w 0 (fun _ => true) true 22 v d p) :
    Calls Try.prog 7 #[v] w fun e w' => e = .returned (.bool true) ∧ Below w.heap.size w w' := by
  obtain ⟨ts, ht⟩ := open_nds hv h
  obtain ⟨q, c, rfl, -⟩ := id ht
  exact right_main ts q _ c w rfl ht

end Go.Proofs.Ytcfgngaabledpaa.Tr
