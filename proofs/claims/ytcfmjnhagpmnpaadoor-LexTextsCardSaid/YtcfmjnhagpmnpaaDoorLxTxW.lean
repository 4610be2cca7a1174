/- The walk of the law LexTexts. No condition but that the library's error lies where its variable is. -/
import Derived.Test.YtcfmjnhagpmnpaaDoorLxRJ
import Derived.Test.YtcfmjnhagpmnpaaDoorLxTO
import Derived.Test.YtcfmjnhagpmnpaaDoorLxKeW
import Derived.Test.YtcfmjnhagpmnpaaDoorLxRB
import Derived.Test.YtcfmjnhagpmnpaaDoorLxRA
namespace Go.Proofs.YtcfmjnhagpmnpaaDoor.Lx
open Go.RowKit Dk

set_option maxHeartbeats 4000000 in
set_option maxRecDepth 100000 in
theorem texts_main (T : List UInt8) (hT : T.length ≤ 2000) (ts : List Tk) (p : Option Addr) (c : Nat) (w : World) (ht : Toks w (.slice p ts.length c) ts) (hn : ts.length ≤ 300) (HE : HasE w) :
    Calls Tryd.prog 4 #[.slice p ts.length c, .string (strOf T)] w fun e w' => e = .returned (.bool true) ∧ Below w.heap.size w w' := by
  have HHE := Lib.hid HE
  have KN := Lib.hid (fun W h => known8 W h)
  have g1 : ¬((strOf T).size : Int) > 2000 := by rw [strOf_size]; omega
  have HTS := Lib.hid ht
  have TX := Lib.hid (fun hw => text_any (.slice p ts.length c) ts w ht (by omega) (fun t h => Nat.le_trans (hw t h) (by decide)) (Nat.le_trans (write_len ts hw) (by omega)))
  have RX := Lib.hid (fun hw W h => rtext_any (.slice p ts.length c) ts W h hn hw)
  have Q1 := Lib.hid (fun W => quote_any T W (by omega))
  have Q2 := Lib.hid (fun W => rquote_any T W (by omega))
  have K1 := Lib.hid (fun W => key_any T W)
  have K2 := Lib.hid (fun W => rkey_any T W)
  have N1 := Lib.hid (fun W => name_any T W (by omega))
  have N2 := Lib.hid (fun W => rname_any T W (by omega))
  have HAT : Hid (∀ i (h : i < ts.length), ∃ g o, p = some ⟨g, o, none⟩ ∧ w.cell? ⟨g, o + i * 4 + 1, none⟩ = some (.string (strOf ts[i].text))) := Lib.hid (fun i h => by
    obtain ⟨p', c', e, -, h0 | ⟨g, o, hp, -, hr⟩⟩ := ht
    · rw [h0] at h; simp at h
    · cases e
      refine ⟨g, o, hp, ?_⟩
      have := hr (i * 4 + 1) _ ((tcells_at h 1 (by decide)).trans rfl)
      rwa [← Nat.add_assoc] at this)
  have e1 : ((strOf (writeL ts)).toList == (strOf (writeL ts)).toList) = true := by simp
  have e2 : ((strOf (quoteL T)).toList == (strOf (quoteL T)).toList) = true := by simp
  have e3 : (isKey T == isKey T) = true := by simp
  have e4 : (isName T == isName T) = true := by simp
  obtain ⟨n, hnn⟩ : ∃ n, n = ts.length := ⟨_, rfl⟩
  rw [← hnn] at HTS TX RX hn ⊢
  have HN := Lib.hid hnn
  have gn : ¬(n : Int) > 300 := by omega
  generalize strOf T = s at *
  generalize strOf (writeL ts) = A at *
  generalize strOf (quoteL T) = B at *
  generalize isKey T = bk at *
  generalize isName T = bn at *
  clear ht hT HE hnn
  go_enter Tryd.func4, Tryd.ntmps4
  go_wp2
  go_loopw [5] (fun vi wr => ∃ i : Nat, i ≤ n ∧ vi = .int .i64 (i : Int) ∧ w = wr ∧ Hid (∀ j (h : j < ts.length), j < i → ts[j].text.length ≤ 500)) (fun vi _ => n - (intOf vi).toNat)
  case atStart => exact ⟨0, Nat.zero_le _, rfl, rfl, Lib.hid (fun j _ h => absurd h (Nat.not_lt_zero j))⟩
  case round =>
    obtain ⟨i, hi, rfl, rfl, hW⟩ := hrel
    by_cases hlt : i < n
    · have z0 : (0 : Int) ≤ (i : Int) := by omega
      have z1 : (i : Int) < (n : Int) := by omega
      have hil : i < ts.length := by rw [← HN.out]; exact hlt
      obtain ⟨g, o, rfl, a1⟩ := HAT.out i hil
      have hsz := strOf_size ts[i].text
      by_cases h5 : ts[i].text.length ≤ 500
      · have v5 : ¬((strOf ts[i].text).size : Int) > 500 := by omega
        have HW : Hid (∀ j (h : j < ts.length), j < i + 1 → ts[j].text.length ≤ 500) := Lib.hid (fun j h hj => by
          by_cases hji : j = i
          · subst hji; exact h5
          · exact hW.out j h (by omega))
        generalize strOf ts[i].text = x at *
        clear h5 hW hsz hil HAT e1 e2 e3 e4
        go_wp2
        go_roundw
        case rel => exact ⟨i + 1, by omega, by go_num, by trivial, HW⟩
        case measure => simp [intOf]; omega
      · have v5 : ((strOf ts[i].text).size : Int) > 500 := by omega
        generalize strOf ts[i].text = x at *
        clear h5 hW hsz hil HAT e1 e2 e3 e4
        go_wp2_with (go_at_call 10; refine (KN.out _ HHE.out).mono ?_; rintro e w3 ⟨rfl, hb3⟩; have HB3 := Lib.hid hb3; clear hb3)
        go_ret
        exact ⟨rfl, HB3.out⟩
    · obtain rfl : i = n := by omega
      have hall : ∀ t ∈ ts, t.text.length ≤ 500 := fun t h => by
        obtain ⟨j, hj, rfl⟩ := List.getElem_of_mem h
        exact hW.out j hj (by rw [HN.out]; exact hj)
      have C1 := Lib.hid (TX.out hall)
      have C2 := Lib.hid (fun W h => RX.out hall W h)
      clear hall hW TX RX HAT hlt
      go_wp2_with (first
        | (go_at_call 14; refine C1.out.mono ?_; rintro e w1 ⟨rfl, hb1⟩; have HB1 := Lib.hid hb1; clear hb1)
        | (go_at_call 15; refine (C2.out _ (HTS.out.later HB1.out)).mono ?_; rintro e w2 ⟨rfl, hb2⟩; have HB2 := Lib.hid (chain2 HB1.out hb2); clear hb2)
        | (go_at_call 16; refine (Q1.out _).mono ?_; rintro e w3 ⟨rfl, hb3⟩; have HB3 := Lib.hid (chain2 HB2.out hb3); clear hb3)
        | (go_at_call 17; refine (Q2.out _).mono ?_; rintro e w4 ⟨rfl, hb4⟩; have HB4 := Lib.hid (chain2 HB3.out hb4); clear hb4)
        | (go_at_call 18; refine (K1.out _).mono ?_; rintro e w' ⟨rfl, rfl⟩)
        | (go_at_call 19; refine (K2.out _).mono ?_; rintro e w5 ⟨rfl, hb5⟩; have HB5 := Lib.hid (chain2 HB4.out hb5); clear hb5)
        | (go_at_call 20; refine (N1.out _).mono ?_; rintro e w6 ⟨rfl, hb6⟩; have HB6 := Lib.hid (chain2 HB5.out hb6); clear hb6)
        | (go_at_call 21; refine (N2.out _).mono ?_; rintro e w7 ⟨rfl, hb7⟩; have HB7 := Lib.hid (chain2 HB6.out hb7); clear hb7)
        | (go_at_call 10; refine (KN.out _ (HHE.out.later HB7.out)).mono ?_; rintro e w8 ⟨rfl, hb8⟩; have HB8 := Lib.hid (chain2 HB7.out hb8); clear hb8))
      go_ret
      exact ⟨rfl, HB8.out⟩

set_option maxHeartbeats 400000 in
theorem texts_over (s : ByteArray) (p : Option Addr) (n c : Nat) (w : World) (h : n > 300 ∨ s.size > 2000) (HE : HasE w) :
    Calls Tryd.prog 4 #[.slice p n c, .string s] w fun e w' => e = .returned (.bool true) ∧ Below w.heap.size w w' := by
  have KN := Lib.hid (known8 w HE)
  by_cases hn : n > 300
  · have g1 : (n : Int) > 300 := by omega
    clear h hn HE
    go_enter Tryd.func4, Tryd.ntmps4
    go_wp2_with (go_at_call 10; refine KN.out.mono ?_; rintro e w3 ⟨rfl, hb3⟩; have HB3 := Lib.hid hb3; clear hb3)
    go_ret
    exact ⟨rfl, HB3.out⟩
  · have g1 : ¬(n : Int) > 300 := by omega
    have g2 : (s.size : Int) > 2000 := by omega
    clear h hn HE
    go_enter Tryd.func4, Tryd.ntmps4
    go_wp2_with (go_at_call 10; refine KN.out.mono ?_; rintro e w3 ⟨rfl, hb3⟩; have HB3 := Lib.hid hb3; clear hb3)
    go_ret
    exact ⟨rfl, HB3.out⟩

theorem lexTexts_law {H : Type} {enc : TypeId × Value → H} {w : World} {b0 : Nat} {v : Value} {d : DataW H} {p : List MemPlace}
    (hv : Value.okWide Tryd.prog w .any b0 23 v) (h : DataW.Trod enc Tryd.prog w 0 (fun _ => true) true 23 v d p) (s : ByteArray) (_hs : s.size ≤ maxLen) (HE : HasE w) :
    Calls Tryd.prog 4 #[v, .string s] w fun e w' => e = .returned (.bool true) ∧ Below w.heap.size w w' := by
  obtain ⟨ts, ht⟩ := open_toks hv h
  obtain ⟨T, rfl, hT⟩ := toS s
  obtain ⟨q, c, rfl, hr⟩ := id ht
  by_cases hn : ts.length ≤ 300
  · by_cases h2 : T.length ≤ 2000
    · exact texts_main T h2 ts q c w ht hn HE
    · exact texts_over _ _ _ _ w (.inr (by omega)) HE
  · exact texts_over _ _ _ _ w (.inl (by omega)) HE

end Go.Proofs.YtcfmjnhagpmnpaaDoor.Lx
