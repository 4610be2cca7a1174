/- The walk of the law LexPlaces. No condition but that the library's error lies where its variable is. -/
import Derived.Test.YtcfmjnhagpmnpaaDoorLxRT
import Derived.Test.YtcfmjnhagpmnpaaDoorLxKeW
import Derived.Test.YtcfmjnhagpmnpaaDoorLxG
namespace Go.Proofs.YtcfmjnhagpmnpaaDoor.Lx
open Go.RowKit Dk

theorem alike_moved' (d : Int) (y : List Tk) : Alike (y.map (moved d)) y := by unfold Alike; rw [List.map_map]; rfl

theorem places_at {T : List UInt8} {ts : List Tk} (h : Scans 0 T ts) (i : Nat) (hi : i < ts.length) : ∃ a : Nat, ts[i].place = (a : Int) ∧ a < T.length ∧ (∃ us, Scans 0 (T.drop a) us ∧ Alike us (ts.drop i)) ∧
    (∀ j (hj : j < i), (ts[j]'(by omega)).place < ts[i].place) ∧ ((ts[i].kind = 3 ∧ ∃ r, T.drop a = 34 :: r) ∨ (ts[i].kind ≠ 3 ∧ ts[i].text.length ≠ 0 ∧ (T.drop a).take ts[i].text.length = ts[i].text ∧ a + ts[i].text.length ≤ T.length)) := by
  have e : ts = ts.take i ++ ts[i] :: ts.drop (i + 1) := by rw [← List.drop_eq_getElem_cons hi, List.take_append_drop]
  obtain ⟨a, c, r, k, n, len, h1, h2, h3, h4, h5, h6, h7⟩ := scans_split h _ _ _ e
  rw [Nat.zero_add] at h1 h6
  have hl := congrArg List.length h2
  rw [List.length_drop, List.length_cons] at hl
  have hlen := oneL_len _ _ _ _ _ h4
  rw [List.length_cons] at hlen
  refine ⟨a, h1, by omega, ?_, ?_, ?_⟩
  · rw [h2, List.drop_eq_getElem_cons hi]
    exact ⟨_, h6.move 0, alike_moved' _ _⟩
  · intro j hj
    refine h7 _ ?_
    rw [List.mem_take_iff_getElem]
    exact ⟨j, by omega, rfl⟩
  · rcases one_text h4 with ⟨rfl, r', e1, _⟩ | ⟨hk, e1, _⟩
    · exact .inl ⟨h5, r', by rw [h2, e1]⟩
    · have ht : ts[i].text.length = len := by
        have := congrArg List.length e1
        rw [List.length_take, List.length_cons] at this
        omega
      refine .inr ⟨by rw [h5]; omega, by omega, ?_, by omega⟩
      rw [ht, h2, ← e1]

set_option maxHeartbeats 16000000 in
set_option maxRecDepth 100000 in
theorem places_main (T : List UInt8) (hb : T.length ≤ 4000) (w : World) (HE : HasE w) :
    Calls Tryd.prog 7 #[.string (strOf T)] w fun e w' => e = .returned (.bool true) ∧ Below w.heap.size w w' := by
  have HHE := Lib.hid HE
  have KN := Lib.hid (fun W h => known8 W h)
  have hsz := strOf_size T
  have h1 : ¬((strOf T).size : Int) > 4000 := by omega
  have S := Lib.hid (scan_ways T (by omega))
  have S2 : Hid (∀ (a : Nat) us, a ≤ T.length → Scans 0 (T.drop a) us → ∀ W, HasE W → Calls Tryd.prog 11 #[.string (strOf (T.drop a))] W fun x w' => ∃ v, x = .returned (.tuple #[v, .int .i64 0, .int .i64 0]) ∧ TR W w' v us) :=
    Lib.hid (fun a us ha hu => scan_toks _ us (scans_iff.2 hu) (by rw [List.length_drop]; omega))
  have HF : Hid (∀ (a : Nat) W, a ≤ T.length → (Instr.slice 9 (.string (strOf T)) (some (.int .i64 (a : Int))) none none).run Tryd.prog W = .ok (.string (strOf (T.drop a))) W) := Lib.hid (fun a W ha => by
    have := run_from (P := Tryd.prog) (strOf T) a (by omega) 9 Tryd.underlying9 W
    rw [← strOf_self ((strOf T).extract a (strOf T).size), extract_list] at this
    unfold from' at this
    rw [strOf_toList] at this
    exact this)
  have HM : Hid (∀ (a m : Nat) W, a + m ≤ T.length → (Instr.slice 9 (.string (strOf T)) (some (.int .i64 (a : Int))) (some (.int .i64 ((a : Int) + (m : Int)))) none).run Tryd.prog W = .ok (.string (strOf ((T.drop a).take m))) W) := Lib.hid (fun a m W ha => by
    have := run_mid (P := Tryd.prog) (strOf T) a m (by omega) 9 Tryd.underlying9 W
    unfold from' at this
    rw [strOf_toList] at this
    exact this)
  have HIX : Hid (∀ (a : Nat) c r W, T.drop a = c :: r → (Instr.index 9 (.string (strOf T)) (.int .i64 (a : Int))).run Tryd.prog W = .ok (.int .u8 (c.toNat : Int)) W) := Lib.hid (fun a c r W h =>
    byte_at (P := Tryd.prog) (strOf T) a c r (by unfold from'; rw [strOf_toList]; exact h) 9 Tryd.underlying9 W)
  have HTL := Lib.hid hb
  have HSZ := Lib.hid hsz
  clear hb HE hsz
  go_enter Tryd.func7, Tryd.ntmps7
  go_wp2_with fail
  refine (S.out w HHE.out).mono ?_
  rintro x w1 ⟨hb1, ⟨ts, v1, hs1, rfl, hr1⟩ | ⟨e1, a1, -, he1, ha1, rfl⟩⟩
  · obtain ⟨p, cp, hv1⟩ := own_forms hr1.row
    rw [hv1] at hr1 ⊢
    obtain ⟨n, hn⟩ : ∃ n, n = ts.length := ⟨_, rfl⟩
    have hnl : n ≤ 4000 := by rw [hn]; exact Nat.le_trans hs1.len HTL.out
    have HS := Lib.hid hs1
    have HN := Lib.hid hn
    have HT1 : Hid (Toks w1 (.slice p n cp) ts ∧ Below w.heap.size w w1) := Lib.hid (by rw [hn]; exact ⟨hr1.toks, hb1⟩)
    have HL0 : Hid (∀ (h : 0 < ts.length), (-1 : Int) < (ts[0]).place) := Lib.hid (fun h => by
      obtain ⟨a, h2, -⟩ := places_at hs1 0 h
      rw [h2]; omega)
    rw [← hn]
    clear hb1 hr1 hs1 hv1 hn S
    go_wp2
    go_loopw [6, 7] (fun vl vi wr => ∃ (i : Nat) (last : Int), i ≤ n ∧ vi = .int .i64 (i : Int) ∧ vl = .int .i64 last ∧ Hid (Toks wr (.slice p n cp) ts ∧ Below w.heap.size w wr) ∧ Hid (∀ (h : i < ts.length), last < (ts[i]).place)) (fun _ vi _ => n - (intOf vi).toNat)
    case atStart => exact ⟨0, -1, Nat.zero_le _, rfl, rfl, HT1, HL0⟩
    case round =>
      clear HT1 HL0
      obtain ⟨i, last, hi, rfl, rfl, hI, hlast⟩ := hrel
      by_cases hlt : i < n
      · have z0 : (0 : Int) ≤ (i : Int) := by omega
        have z1 : (i : Int) < (n : Int) := by omega
        have h1' : i < ts.length := by rw [← HN.out]; exact hlt
        obtain ⟨a, ha, haT, ⟨us, hus, hus2⟩, -, hcase⟩ := places_at HS.out i h1'
        have hla := hlast.out h1'
        rw [ha] at hla
        have HNX : Hid (∀ (h : i + 1 < ts.length), (a : Int) < (ts[i + 1]).place) := Lib.hid (fun h => by
          obtain ⟨-, -, -, -, h5, -⟩ := places_at HS.out (i + 1) h
          have := h5 i (by omega)
          rw [ha] at this
          exact this)
        have SC := Lib.hid (S2.out a us (by omega) hus)
        have hfr := fun W => HF.out a W (by omega)
        obtain ⟨q, cq, e, -, hg⟩ := hI.out.1
        obtain ⟨g, o, e2, hgl, hrg⟩ := hg.resolve_left (fun e => by rw [e] at h1'; simp at h1')
        have ep : p = some ⟨g, o, none⟩ := by injection e with e3; rw [e3, e2]
        subst ep
        clear e e2
        have cx : ∀ j (hj : j < 4) u, (ts[i]).cells[j]? = some u → wr.cell? ⟨g, o + (i * 4 + j), none⟩ = some u := fun j hj u hu => hrg (i * 4 + j) u (by rw [tcells_at h1' j hj]; exact hu)
        have a0 : wr.cell? ⟨g, o + i * 4, none⟩ = some (.int .i64 (ts[i]).kind) := cx 0 (by decide) _ rfl
        have a1 : wr.cell? ⟨g, o + i * 4 + 1, none⟩ = some (.string (strOf (ts[i]).text)) := cx 1 (by decide) _ rfl
        have a3 : wr.cell? ⟨g, o + i * 4 + 3, none⟩ = some (.int .i64 (ts[i]).place) := cx 3 (by decide) _ rfl
        rw [ha] at a3
        obtain ⟨W1, hW1⟩ : ∃ W1, wr.drew = W1 := ⟨_, rfl⟩
        have HW1 := Lib.hid hW1
        have HD : Hid (Toks W1 (.slice (some ⟨g, o, none⟩) n cp) ts ∧ Below w.heap.size w W1) := Lib.hid (by
          have hb : Below wr.heap.size wr W1 := by rw [← hW1]; exact ⟨rfl, rfl, rfl, Nat.le_refl _, fun _ _ => rfl⟩
          exact ⟨hI.out.1.later hb, chain2 hI.out.2 hb⟩)
        have d0 : W1.cell? ⟨g, o + i * 4, none⟩ = some (.int .i64 (ts[i]).kind) := by rw [← hW1]; exact a0
        have d1 : W1.cell? ⟨g, o + i * 4 + 1, none⟩ = some (.string (strOf (ts[i]).text)) := by rw [← hW1]; exact a1
        have d3 : W1.cell? ⟨g, o + i * 4 + 3, none⟩ = some (.int .i64 (a : Int)) := by rw [← hW1]; exact a3
        have u1 : ¬(a : Int) ≤ last := by omega
        have u2 : ¬(a : Int) ≥ ((strOf T).size : Int) := by have := HSZ.out; omega
        have u0 : (0 : Int) ≤ (a : Int) := by omega
        have hts := strOf_size (ts[i]).text
        have heq : ((strOf (ts[i]).text).toList == (strOf (ts[i]).text).toList) = true := by simp
        clear cx hW1 hrg hgl hg hI hla hlast a0 a1
        rcases hcase with ⟨hk3, r, hr34⟩ | ⟨hk3, ht0, htk, htl⟩
        · have hix := fun W => HIX.out a 34 r W hr34
          rw [hk3] at d0
          generalize strOf (ts[i]).text = tx at *
          clear ha hts h1' hk3 hus hr34
          go_wp2_with fail
          refine ws_region (by kernel_rfl) (by kernel_rfl) W1 HW1.out ?_
          clear a3
          iterate 7 (refine ws_step (fun K hK => ?_); go_simp; refine hK _ ?_; clear hK K)
          iterate 39 (refine ws_skip (by kernel_rfl) ?_)
          iterate 15 (refine ws_step (fun K hK => ?_); go_simp; refine hK _ ?_; clear hK K)
          refine ws_nil ?_
          clear d0 d1 d3 HW1
          go_wp2_with fail
          refine (SC.out W1 (HHE.out.later HD.out.2)).mono ?_
          rintro e w2 ⟨v2, rfl, hr2⟩
          obtain ⟨q2, c2, hv2⟩ := own_forms hr2.row
          rw [hv2] at hr2 ⊢
          have HD2 : Hid (Toks w2 (.slice (some ⟨g, o, none⟩) n cp) ts ∧ Below w.heap.size w w2) := Lib.hid ⟨HD.out.1.later hr2.below, chain2 HD.out.2 hr2.below⟩
          have hpt := HD2.out.1
          rw [HN.out] at hpt
          obtain ⟨-, -, q3, hs3, ht3⟩ := hpt.parts i (by rw [← HN.out]; omega)
          rw [← HN.out] at hs3 ht3
          have hul : us.length = n - i := by
            have := congrArg List.length hus2
            rw [List.length_map, List.length_map, List.length_drop, ← HN.out] at this
            exact this
          have C1 := Lib.hid (fun W (hb : Below w2.heap.size w2 W) => same_any false us (ts.drop i) _ _ W (hr2.toks.later hb) (ht3.later hb) (alikeP_of hus2) (by rw [hul]; omega))
          rw [hul] at C1 ⊢
          have hsub : ((n - i : Nat) : Int) = (n : Int) - (i : Int) := by omega
          have hsub2 : (((n - i : Nat) : Int) == (n : Int) - (i : Int)) = true := by rw [hsub]; simp
          have hsub3 : (((n - i : Nat) : Int) != (n : Int) - (i : Int)) = false := by rw [hsub]; simp
          generalize cp - i = cc at *
          generalize n - i = ni at *
          clear hr2 hv2 hpt ht3 hul hus2 SC
          go_wp2_with fail
          refine (C1.out w2 (Below.refl _ _)).mono ?_
          rintro e w3 ⟨rfl, hb3⟩
          have HD3 : Hid (Toks w3 (.slice (some ⟨g, o, none⟩) n cp) ts ∧ Below w.heap.size w w3) := Lib.hid ⟨HD2.out.1.later hb3, chain2 HD2.out.2 hb3⟩
          clear hb3 C1 HD2 HD hs3 hsub hsub2 hsub3
          by_cases h20 : i > 20
          · have h20' : (i : Int) > 20 := by omega
            go_wp2_with (go_at_call 10; refine (KN.out _ (HHE.out.later HD3.out.2)).mono ?_; rintro e w6 ⟨rfl, hb6⟩; have HB6 := Lib.hid (chain2 HD3.out.2 hb6); clear hb6)
            go_ret
            exact ⟨rfl, HB6.out⟩
          · have h20' : ¬(i : Int) > 20 := by omega
            go_wp2
            go_roundw
            case rel => exact ⟨i + 1, (a : Int), by omega, by go_num, rfl, HD3, HNX⟩
            case measure => simp [intOf]; omega
        · have hmd := fun W => HM.out a (ts[i]).text.length W htl
          rw [htk] at hmd
          rw [← hts] at hmd htl ht0
          have v1 : (((ts[i]).kind) == 3) = false := by simpa using hk3
          have v2 : (((ts[i]).kind) != 3) = true := by simpa using hk3
          have v3 : ¬((strOf T).size : Int) - (a : Int) < ((strOf (ts[i]).text).size : Int) := by have := HSZ.out; omega
          have v3d : decide (((strOf T).size : Int) - (a : Int) < ((strOf (ts[i]).text).size : Int)) = false := decide_eq_false v3
          have v4 : (((strOf (ts[i]).text).size : Int) == 0) = false := beq_false_of_ne (by omega)
          have v5 : IntKind.i64.wrap (((strOf T).size : Int) - (a : Int)) = ((strOf T).size : Int) - (a : Int) := IntWalk.i64_in _ (by have := HSZ.out; omega)
          have v6 : IntKind.i64.wrap ((a : Int) + ((strOf (ts[i]).text).size : Int)) = (a : Int) + ((strOf (ts[i]).text).size : Int) := IntWalk.i64_in _ (by omega)
          generalize strOf (ts[i]).text = tx at *
          generalize (ts[i]).kind = kx at *
          clear ha htk hts h1' hus
          go_wp2_with fail
          refine ws_region (by kernel_rfl) (by kernel_rfl) W1 HW1.out ?_
          clear a3
          iterate 55 (refine ws_step (fun K hK => ?_); go_simp; refine hK _ ?_; clear hK K)
          iterate 4 (refine ws_skip (by kernel_rfl) ?_)
          iterate 2 (refine ws_step (fun K hK => ?_); go_simp; refine hK _ ?_; clear hK K)
          clear hmd v1 v2 v3 v3d v4 v5 v6
          refine ws_nil ?_
          clear d0 d1 d3 HW1
          go_wp2_with fail
          refine (SC.out W1 (HHE.out.later HD.out.2)).mono ?_
          rintro e w2 ⟨v2, rfl, hr2⟩
          obtain ⟨q2, c2, hv2⟩ := own_forms hr2.row
          rw [hv2] at hr2 ⊢
          have HD2 : Hid (Toks w2 (.slice (some ⟨g, o, none⟩) n cp) ts ∧ Below w.heap.size w w2) := Lib.hid ⟨HD.out.1.later hr2.below, chain2 HD.out.2 hr2.below⟩
          have hpt := HD2.out.1
          rw [HN.out] at hpt
          obtain ⟨-, -, q3, hs3, ht3⟩ := hpt.parts i (by rw [← HN.out]; omega)
          rw [← HN.out] at hs3 ht3
          have hul : us.length = n - i := by
            have := congrArg List.length hus2
            rw [List.length_map, List.length_map, List.length_drop, ← HN.out] at this
            exact this
          have C1 := Lib.hid (fun W (hb : Below w2.heap.size w2 W) => same_any false us (ts.drop i) _ _ W (hr2.toks.later hb) (ht3.later hb) (alikeP_of hus2) (by rw [hul]; omega))
          rw [hul] at C1 ⊢
          have hsub : ((n - i : Nat) : Int) = (n : Int) - (i : Int) := by omega
          have hsub2 : (((n - i : Nat) : Int) == (n : Int) - (i : Int)) = true := by rw [hsub]; simp
          have hsub3 : (((n - i : Nat) : Int) != (n : Int) - (i : Int)) = false := by rw [hsub]; simp
          generalize cp - i = cc at *
          generalize n - i = ni at *
          clear hr2 hv2 hpt ht3 hul hus2 SC
          go_wp2_with fail
          refine (C1.out w2 (Below.refl _ _)).mono ?_
          rintro e w3 ⟨rfl, hb3⟩
          have HD3 : Hid (Toks w3 (.slice (some ⟨g, o, none⟩) n cp) ts ∧ Below w.heap.size w w3) := Lib.hid ⟨HD2.out.1.later hb3, chain2 HD2.out.2 hb3⟩
          clear hb3 C1 HD2 HD hs3 hsub hsub2 hsub3
          by_cases h20 : i > 20
          · have h20' : (i : Int) > 20 := by omega
            go_wp2_with (go_at_call 10; refine (KN.out _ (HHE.out.later HD3.out.2)).mono ?_; rintro e w6 ⟨rfl, hb6⟩; have HB6 := Lib.hid (chain2 HD3.out.2 hb6); clear hb6)
            go_ret
            exact ⟨rfl, HB6.out⟩
          · have h20' : ¬(i : Int) > 20 := by omega
            go_wp2
            go_roundw
            case rel => exact ⟨i + 1, (a : Int), by omega, by go_num, rfl, HD3, HNX⟩
            case measure => simp [intOf]; omega
      · obtain rfl : i = n := by omega
        go_wp2_with (go_at_call 10; refine (KN.out _ (HHE.out.later hI.out.2)).mono ?_; rintro e w6 ⟨rfl, hb6⟩; have HB6 := Lib.hid (chain2 hI.out.2 hb6); clear hb6)
        go_ret
        exact ⟨rfl, HB6.out⟩
  · have HB1 := Lib.hid hb1
    have hz : ((e1 : Int) != 0) = true := by rw [bne_iff_ne]; omega
    have z0 : (a1 : Int) ≥ 0 := by omega
    have z1 : (a1 : Int) < ((strOf T).size : Int) := by have := HSZ.out; omega
    clear hb1 he1 ha1 S S2 HF HM HIX
    go_wp2_with (go_at_call 10; refine (KN.out _ (HHE.out.later HB1.out)).mono ?_; rintro e w6 ⟨rfl, hb6⟩; have HB6 := Lib.hid (chain2 HB1.out hb6); clear hb6)
    go_ret
    exact ⟨rfl, HB6.out⟩

set_option maxHeartbeats 400000 in
theorem lexPlaces_law (s : ByteArray) (_hs : s.size ≤ maxLen) (w : World) (HE : HasE w) :
    Calls Tryd.prog 7 #[.string s] w fun e w' => e = .returned (.bool true) ∧ Below w.heap.size w w' := by
  obtain ⟨T, rfl, hT⟩ := toS s
  by_cases hb : T.length ≤ 4000
  · exact places_main T hb w HE
  · have KN := Lib.hid (known8 w HE)
    have h1 : ((strOf T).size : Int) > 4000 := by omega
    clear hT HE
    go_enter Tryd.func7, Tryd.ntmps7
    go_wp2_with (go_at_call 10; refine KN.out.mono ?_; rintro e w3 ⟨rfl, hb3⟩; have HB3 := Lib.hid hb3; clear hb3)
    go_ret
    exact ⟨rfl, HB3.out⟩

end Go.Proofs.YtcfmjnhagpmnpaaDoor.Lx
