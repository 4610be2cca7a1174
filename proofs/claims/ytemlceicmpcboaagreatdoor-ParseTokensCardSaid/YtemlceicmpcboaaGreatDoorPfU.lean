/- The walks of light and of the law ParseTokens. No condition but that the library's error lies where its variable is. -/
import Derived.Test.YtemlceicmpcboaaGreatDoorMgZ
import Derived.Test.YtemlceicmpcboaaGreatDoorMgO
import Derived.Test.YtemlceicmpcboaaGreatDoorLxTO
namespace Go.Proofs.YtemlceicmpcboaaGreatDoor.Pa
open Go.RowKit Go.Shelf Dk Lx Tr

/-- Tokens are few and small enough to be gone through. -/
def TkLight (ts : List Tk) : Prop := ts.length ≤ 1500 ∧ ∀ t ∈ ts, t.text.length ≤ 2000 ∧ t.place ≤ 1099511627776
def TkLtOk (ts : List Tk) (e : Ending) : Prop := ∃ b, e = .returned (.bool b) ∧ (b = true → TkLight ts)
theorem Toks.tok {W : World} {p : Option Addr} {m c : Nat} {ts : List Tk} (h : Toks W (.slice p m c) ts) (i : Nat) (hi : i < ts.length) :
    ∃ r o, p = some ⟨r, o, none⟩ ∧ W.cell? ⟨r, o + i * 4 + 1, none⟩ = some (.string (strOf ts[i].text)) ∧ W.cell? ⟨r, o + i * 4 + 3, none⟩ = some (.int .i64 ts[i].place) := by
  obtain ⟨p', c', e, hc, h0 | ⟨r, o, hp, hg, hr⟩⟩ := h
  · subst h0; simp at hi
  · cases e
    have q : ∀ j (hj : j < 4) u, (ts[i]).cells[j]? = some u → W.cell? ⟨r, o + i * 4 + j, none⟩ = some u := fun j hj u hu => by
      have := hr (i * 4 + j) u (by rw [tcells_at hi j hj]; exact hu)
      rwa [← Nat.add_assoc] at this
    exact ⟨r, o, hp, q 1 (by decide) _ rfl, q 3 (by decide) _ rfl⟩

set_option maxHeartbeats 2000000 in
set_option maxRecDepth 100000 in
theorem tlight_any (ts : List Tk) (v : Value) (w : World) (h : Toks w v ts) :
    Calls Tryz.prog 17 #[v] w fun e w' => TkLtOk ts e ∧ w = w' := by
  obtain ⟨p, c, rfl, -⟩ := id h
  have HNd := Lib.hid h
  obtain ⟨n, hn⟩ : ∃ n, n = ts.length := ⟨_, rfl⟩
  rw [← hn] at HNd ⊢
  have HN := Lib.hid hn
  clear h hn
  by_cases g1 : n ≤ 1500
  · have v1 : ¬(n : Int) > 1500 := by omega
    go_enter Tryz.func17, Tryz.ntmps17
    go_wp2
    go_loopw [3] (fun vi wr => ∃ i : Nat, i ≤ n ∧ vi = .int .i64 (i : Int) ∧ wr = w ∧ Hid (∀ j (h : j < ts.length), j < i → ts[j].text.length ≤ 2000 ∧ ts[j].place ≤ 1099511627776)) (fun vi _ => n - (intOf vi).toNat)
    case atStart => exact ⟨0, Nat.zero_le _, rfl, rfl, Lib.hid (fun j _ h => absurd h (Nat.not_lt_zero j))⟩
    case round =>
      obtain ⟨i, hi, rfl, rfl, hS⟩ := hrel
      by_cases hlt : i < n
      · have hil : i < ts.length := by rw [← HN.out]; exact hlt
        obtain ⟨g, o, rfl, c1, c3⟩ := Toks.tok HNd.out i hil
        have z0 : (0 : Int) ≤ (i : Int) := by omega
        have z1 : (i : Int) < (n : Int) := by omega
        have s1 := strOf_size ts[i].text
        have HA : Hid (ts[i].text.length ≤ 2000 → ts[i].place ≤ 1099511627776 → ∀ j (h : j < ts.length), j < i + 1 → ts[j].text.length ≤ 2000 ∧ ts[j].place ≤ 1099511627776) := Lib.hid (fun h1 h2 j h hj => by
          by_cases hji : j = i
          · subst hji; exact ⟨h1, h2⟩
          · exact hS.out j h (by omega))
        generalize ts[i].text.length = l1 at *
        generalize ts[i].place = pl at *
        generalize strOf ts[i].text = q1 at *
        by_cases k1 : l1 ≤ 2000
        · have v2 : ¬(q1.size : Int) > 2000 := by omega
          by_cases k2 : pl ≤ 1099511627776
          · have v3 : ¬pl > 1099511627776 := by omega
            have HS := Lib.hid (HA.out k1 k2)
            clear s1 k1 k2 hS hil
            go_wp2
            go_roundw
            case rel => exact ⟨i + 1, by omega, by go_num, by trivial, HS⟩
            case measure => simp [intOf]; omega
          · have v3 : pl > 1099511627776 := by omega
            clear s1 k1 k2 hS hil
            go_wp2
            go_ret
            exact ⟨⟨_, rfl, (fun h => by cases h)⟩, rfl⟩
        · have v2 : (q1.size : Int) > 2000 := by omega
          clear s1 k1 hS hil
          go_wp2
          go_ret
          exact ⟨⟨_, rfl, (fun h => by cases h)⟩, rfl⟩
      · obtain rfl : i = n := by omega
        have HL : Hid (TkLight ts) := Lib.hid ⟨by rw [← HN.out]; exact g1, fun x hx => by
          obtain ⟨j, hj, rfl⟩ := List.getElem_of_mem hx
          exact hS.out j hj (by rw [HN.out]; exact hj)⟩
        clear hS
        go_wp2
        go_ret
        exact ⟨⟨_, rfl, fun _ => HL.out⟩, rfl⟩
  · have v1 : (n : Int) > 1500 := by omega
    go_enter Tryz.func17, Tryz.ntmps17
    go_wp2
    go_ret
    exact ⟨⟨_, rfl, (fun h => by cases h)⟩, rfl⟩

set_option maxHeartbeats 4000000 in
set_option maxRecDepth 100000 in
theorem parseTokens_main (ts : List Tk) (v : Value) (w : World) (h : Toks w v ts) (hI : ∀ t ∈ ts, TkI t) (HE : HasE w) :
    Calls Tryz.prog 4 #[v] w fun e w' => e = .returned (.bool true) ∧ Below w.heap.size w w' := by
  have KN := Lib.hid (fun W h => known10 W h)
  have HHE := Lib.hid HE
  have LT := Lib.hid (tlight_any ts v w h)
  have HT := Lib.hid h
  obtain ⟨p, c, rfl, -⟩ := id h
  have HII := Lib.hid hI
  obtain ⟨n, hn⟩ : ∃ n, n = ts.length := ⟨_, rfl⟩
  rw [← hn] at LT HT ⊢
  have HN := Lib.hid hn
  clear h HE hI hn
  go_enter Tryz.func4, Tryz.ntmps4
  go_wp2_with fail
  refine LT.out.mono ?_
  rintro e w1 ⟨⟨b, rfl, hb⟩, rfl⟩
  have HLT := Lib.hid hb
  clear hb LT
  cases b with
  | false =>
    go_wp2_with (go_at_call 13; refine (KN.out _ HHE.out).mono ?_; rintro e w3 ⟨rfl, hb3⟩; have HB3 := Lib.hid hb3; clear hb3)
    go_ret
    exact ⟨rfl, HB3.out⟩
  | true =>
    obtain ⟨hl1, hl2⟩ := HLT.out rfl
    obtain ⟨E, P, T, ho, h1, h2⟩ := tree_both ts (by omega) (fun t ht => ⟨HII.out t ht, (hl2 t ht).2⟩) (fun t ht => by have := (hl2 t ht).1; omega)
    have H1 := Lib.hid (h1 _ w HT.out)
    have H2 := Lib.hid h2
    have HO := Lib.hid ho
    clear hl1 hl2 ho h1 h2
    go_wp2_with fail
    refine H1.out.mono ?_
    rintro e w1 ⟨v1, rfl, hnr⟩
    obtain ⟨q1, m1, c1, hv1⟩ : ∃ q m c, v1 = .slice q m c := by
      obtain ⟨p, c, hv, -⟩ := hnr.nds HO.out.fit
      exact ⟨p, _, c, hv⟩
    subst hv1
    have HNR := Lib.hid hnr
    have R2 := Lib.hid (H2.out _ w1 (HT.out.later hnr.below))
    clear hnr H1 H2
    go_wp2_with fail
    refine R2.out.mono ?_
    rintro e w2 ⟨v2, rfl, hnd, hb2⟩
    obtain ⟨q2, m2, c2, hv2⟩ := hnd.form
    subst hv2
    have S3 := Lib.hid (rsame_any T T _ _ w2 ((HNR.out.nds HO.out.fit).later hb2) (hnd.nds HO.out.fit) HO.out.few HO.out.few)
    rw [show decide (T = T) = true from decide_eq_true rfl] at S3
    have HB2 := Lib.hid (chain2 HNR.out.below hb2)
    clear hb2 hnd R2 HNR
    have e1 : (E == E) = true := by simp
    have e2 : (P == P) = true := by simp
    go_wp2_with (first
      | (go_at_call 16; refine S3.out.mono ?_; rintro e w3 ⟨rfl, hb3⟩; have HB3 := Lib.hid (chain2 HB2.out hb3); clear hb3)
      | (go_at_call 13; refine (KN.out _ (HHE.out.later HB3.out)).mono ?_; rintro e w6 ⟨rfl, hb6⟩; have HB6 := Lib.hid (chain2 HB3.out hb6); clear hb6))
    go_ret
    exact ⟨rfl, HB6.out⟩

open Go.ChangeShapes Go.WideShapes Go.Deep in
set_option maxRecDepth 100000 in
theorem parseTokens_law {H : Type} {enc : TypeId × Value → H} {w : World} {b0 : Nat} {v : Value} {d : DataW H} {p : List MemPlace}
    (hv : Value.okWide Tryz.prog w .any b0 31 v) (h : DataW.Trod enc Tryz.prog w 0 (fun _ => true) true 31 v d p) (HE : HasE w) :
    Calls Tryz.prog 4 #[v] w fun e w' => e = .returned (.bool true) ∧ Below w.heap.size w w' := by
  obtain ⟨ts, hT, hI⟩ := open_toks hv h
  exact parseTokens_main ts v w hT hI HE

end Go.Proofs.YtemlceicmpcboaaGreatDoor.Pa
