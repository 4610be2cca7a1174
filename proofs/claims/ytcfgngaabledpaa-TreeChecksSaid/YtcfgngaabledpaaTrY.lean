/- The walks of tree.validFields, whole, and of tree.Check: their contracts. No condition but those that each states. -/
import Derived.Test.YtcfgngaabledpaaTrVx0
import Derived.Test.YtcfgngaabledpaaTrVx1
import Derived.Test.YtcfgngaabledpaaTrVx2
import Derived.Test.YtcfgngaabledpaaTrVx3
import Derived.Test.YtcfgngaabledpaaTrVx19
import Derived.Test.YtcfgngaabledpaaTrVx20
import Derived.Test.YtcfgngaabledpaaTrVx23
import Derived.Test.YtcfgngaabledpaaTrVx27
import Derived.Test.YtcfgngaabledpaaTrVx28
import Derived.Test.YtcfgngaabledpaaTrX
import Derived.Test.YtcfgngaabledpaaTrDR
namespace Go.Proofs.Ytcfgngaabledpaa.Tr
open Go.RowKit Dk Lx

/-- Whether a node's fields are as the table says, its kind aside. -/
def fieldsP (x : Nd) : Bool :=
  if x.kind = 1 then isName x.name && decide (1 ≤ x.n) && decide (x.n ≤ 2147483647) && (x.text == [])
  else if x.kind = 2 then isName x.name && decide (0 ≤ x.n) && decide (x.n ≤ 8) && isName x.text
  else if x.kind = 3 ∨ x.kind = 4 ∨ x.kind = 6 ∨ x.kind = 7 ∨ x.kind = 21 then isName x.name && decide (x.n = 0) && (x.text == [])
  else if x.kind = 19 then (x.name == []) && decide (x.n ≥ 0) && (x.text == [])
  else if x.kind = 20 then (x.name == []) && decide (x.n = 0) && decide ((x.text.length : Int) ≤ 1024)
  else if x.kind = 23 then isName x.name && decide (x.n = 0) && isName x.text
  else if x.kind = 27 then (x.name == []) && decide (x.n = 0) && isBin x.text
  else if x.kind = 28 then (x.name == []) && decide (x.n = 0) && isUn x.text
  else (x.name == []) && decide (x.n = 0) && (x.text == [])

/-- Names and texts are no longer than so. -/
def Short (ts : List Nd) : Prop := ∀ x ∈ ts, x.name.length ≤ 2000 ∧ x.text.length ≤ 2000

theorem vf_any (x : Nd) (h : x.name.length ≤ 2000 ∧ x.text.length ≤ 2000) (w : World) :
    Calls Try.prog 28 #[.agg x.cells.toArray] w fun e w' => e = .returned (.bool (fieldsP x)) ∧ Below w.heap.size w w' := by
  obtain ⟨k, d, q, z, s⟩ := x
  obtain ⟨h1, h2⟩ : q.length ≤ 2000 ∧ s.length ≤ 2000 := h
  have Ca := Lib.hid (fun W => name_any q W (by omega))
  have Cb := Lib.hid (fun W => name_any s W (by omega))
  have Bb := Lib.hid (fun W => bin_any s W)
  have Ub := Lib.hid (fun W => un_any s W)
  have ea : ((strOf q).toList == []) = (q == []) := by rw [strOf_tl]
  have eb : ((strOf s).toList == []) = (s == []) := by rw [strOf_tl]
  show Calls _ _ #[.agg #[.int .i64 k, .int .i64 d, .string (strOf q), .int .i64 z, .string (strOf s)]] w _
  by_cases a1 : k = 1
  · rw [show fieldsP ⟨k, d, q, z, s⟩ = _ from if_pos a1]; exact vf_1 k d z _ _ _ _ a1 Ca eb w
  by_cases a2 : k = 2
  · rw [show fieldsP ⟨k, d, q, z, s⟩ = _ from (if_neg a1).trans (if_pos a2)]; exact vf_2 k d z _ _ _ _ a2 Ca Cb w
  by_cases a3 : k = 3 ∨ k = 4 ∨ k = 6 ∨ k = 7 ∨ k = 21
  · rw [show fieldsP ⟨k, d, q, z, s⟩ = _ from (if_neg a1).trans ((if_neg a2).trans (if_pos a3))]; exact vf_3 k d z _ _ _ _ a3 Ca eb w
  by_cases a4 : k = 19
  · rw [show fieldsP ⟨k, d, q, z, s⟩ = _ from (if_neg a1).trans ((if_neg a2).trans ((if_neg a3).trans (if_pos a4)))]; exact vf_19 k d z _ _ _ _ a4 ea eb w
  by_cases a5 : k = 20
  · rw [show fieldsP ⟨k, d, q, z, s⟩ = _ from (if_neg a1).trans ((if_neg a2).trans ((if_neg a3).trans ((if_neg a4).trans (if_pos a5))))]
    have := vf_20 k d z (strOf q) (strOf s) _ a5 ea w
    rw [strOf_size] at this
    exact this
  by_cases a6 : k = 23
  · rw [show fieldsP ⟨k, d, q, z, s⟩ = _ from (if_neg a1).trans ((if_neg a2).trans ((if_neg a3).trans ((if_neg a4).trans ((if_neg a5).trans (if_pos a6)))))]; exact vf_23 k d z _ _ _ _ a6 Ca Cb w
  by_cases a7 : k = 27
  · rw [show fieldsP ⟨k, d, q, z, s⟩ = _ from (if_neg a1).trans ((if_neg a2).trans ((if_neg a3).trans ((if_neg a4).trans ((if_neg a5).trans ((if_neg a6).trans (if_pos a7))))))]; exact vf_27 k d z _ _ _ _ a7 ea Bb w
  by_cases a8 : k = 28
  · rw [show fieldsP ⟨k, d, q, z, s⟩ = _ from (if_neg a1).trans ((if_neg a2).trans ((if_neg a3).trans ((if_neg a4).trans ((if_neg a5).trans ((if_neg a6).trans ((if_neg a7).trans (if_pos a8)))))))]; exact vf_28 k d z _ _ _ _ a8 ea Ub w
  rw [show fieldsP ⟨k, d, q, z, s⟩ = _ from (if_neg a1).trans ((if_neg a2).trans ((if_neg a3).trans ((if_neg a4).trans ((if_neg a5).trans ((if_neg a6).trans ((if_neg a7).trans (if_neg a8)))))))]
  exact vf_0 k d z _ _ _ _ (by omega) ea eb w

/-- Whether a node and its kids' kinds are right. -/
def goodAt (ts : List Nd) (i : Nat) : Bool := fieldsP (ts.getD i Nd.zero) && matchG (groupsL (kindAt ts (i : Int))) (kindsL ts (i : Int))
/-- The first place from one on that isn't. -/
def scanG (g : Nat → Bool) : Nat → Nat → Option Nat
  | 0, _ => none
  | f + 1, j => if g j then scanG g f (j + 1) else some j
theorem scanG_succ (g : Nat → Bool) (f j : Nat) : scanG g (f + 1) j = if g j then scanG g f (j + 1) else some j := rfl
theorem scanG_none (g : Nat → Bool) : ∀ f j, scanG g f j = none → ∀ i, j ≤ i → i < j + f → g i = true
  | 0, j, _, i, h1, h2 => by omega
  | f + 1, j, h, i, h1, h2 => by
    rw [scanG_succ] at h
    split at h
    · rename_i hg
      by_cases hij : i = j
      · rw [hij]; exact hg
      · exact scanG_none g f (j + 1) h i (by omega) (by omega)
    · cases h

/-- What is wrong of a module's tree, and where. -/
def checkL (ts : List Nd) : Int × Int :=
  if 2000 < ts.length then (3, 0)
  else if endI (kidsOf ts) 0 ≠ (ts.length : Int) then (2, 0)
  else if 60 < depI (kidsOf ts) then (3, 0)
  else if kindAt ts 0 ≠ 1 then (4, 0)
  else match scanG (goodAt ts) ts.length 0 with
    | some i => (4, (i : Int))
    | none => (0, 0)

def pairV (x : Int × Int) : Value := .tuple #[.int .i64 x.1, .int .i64 x.2]

theorem results_tmp2' {P : Program} {fn : Func} {t u : Tmp} (h : fn.results = #[.tmp t, .tmp u]) (tmps : Array Value) (w : World) : (results fn tmps).run P w = .ok (.tuple #[tmps.getD t undef, tmps.getD u undef]) w := by
  simp [results, h, go_sem]

set_option maxHeartbeats 2000000 in
set_option maxRecDepth 100000 in
theorem check_nat (ts : List Nd) (p : Option Addr) (n c : Nat) (w : World) (hn : n = ts.length) (h : Nds w (.slice p n c) ts) (hl : n ≤ 4000) (hs : Short ts) :
    Calls Try.prog 11 #[.slice p n c] w fun e w' => e = .returned (pairV (checkL ts)) ∧ Below w.heap.size w w' := by
  have HN := Lib.hid hn
  by_cases g1 : 2000 < ts.length
  · have HF : Hid (checkL ts = (3, 0)) := Lib.hid (if_pos g1)
    have v1 : (n : Int) > 2000 := by omega
    rw [HF.out]
    clear h hn g1 hl
    go_enter Try.func11, Try.ntmps11
    go_wp2
    go_ret2
    exact ⟨rfl, Below.refl _ _⟩
  have v1 : ¬(n : Int) > 2000 := by omega
  have CE := Lib.hid (end_any ts (.slice p n c) 0 w h (by omega))
  generalize hE : endI (kidsOf ts) 0 = E at *
  by_cases g2 : E = (n : Int)
  case neg =>
    have HF : Hid (checkL ts = (2, 0)) := Lib.hid ((if_neg g1).trans (if_pos (by rw [hE, ← hn]; exact g2)))
    have v2 : (E == (n : Int)) = false := by simpa using g2
    have v3 : (E != (n : Int)) = true := by simpa using g2
    rw [HF.out]
    clear h hn g1 g2 hl hE
    go_enter Try.func11, Try.ntmps11
    go_wp2_with (go_at_call 14; refine CE.out.mono ?_; rintro e w1 ⟨rfl, rfl⟩)
    go_ret2
    exact ⟨rfl, Below.refl _ _⟩
  subst g2
  have hpos : 0 < ts.length := by
    rcases endI_cases (kidsOf ts) 0 with h1 | ⟨a, m, -, -, h1, h2, -⟩
    · omega
    · rw [kidsOf_len] at h2; omega
  have v2 : ((n : Int) == (n : Int)) = true := by simp
  have v3 : ((n : Int) != (n : Int)) = false := by simp
  have CD := Lib.hid (depth_any ts (.slice p n c) w h (by omega))
  generalize hD : depI (kidsOf ts) = D at *
  by_cases g3 : 60 < D
  · have HF : Hid (checkL ts = (3, 0)) := Lib.hid ((if_neg g1).trans ((if_neg (by rw [hE, hn]; exact fun h => h rfl)).trans (if_pos (by rw [hD]; exact g3))))
    have v4 : D > 60 := g3
    rw [HF.out]
    clear h hn g1 g3 hl hE hD
    go_enter Try.func11, Try.ntmps11
    go_wp2_with (first
      | (go_at_call 14; refine CE.out.mono ?_; rintro e w1 ⟨rfl, rfl⟩)
      | (go_at_call 21; refine CD.out.mono ?_; rintro e w2 ⟨rfl, hb2⟩; have HB2 := Lib.hid hb2; clear hb2))
    go_ret2
    exact ⟨rfl, HB2.out⟩
  have v4 : ¬D > 60 := g3
  have HNd := Lib.hid h
  have HK0 : Hid (∀ W, Below w.heap.size w W → ∃ g o, p = some ⟨g, o, none⟩ ∧ W.cell? ⟨g, o, none⟩ = some (.int .i64 (kindAt ts 0))) := Lib.hid (fun W hb => by
    obtain ⟨g, o, hp, -, h1, -⟩ := (h.later hb).node 0 hpos
    refine ⟨g, o, hp, ?_⟩
    rw [Nat.zero_mul, Nat.add_zero] at h1
    rw [h1]; unfold kindAt; simp [hpos])
  obtain ⟨g, o, rfl, -⟩ := HK0.out w (Below.refl _ _)
  have HK1 : Hid (∀ W, Below w.heap.size w W → W.cell? ⟨g, o, none⟩ = some (.int .i64 (kindAt ts 0))) := Lib.hid (fun W hb => by
    obtain ⟨g', o', hp, h1⟩ := HK0.out W hb
    cases hp; exact h1)
  generalize hK : kindAt ts 0 = K at *
  have hn0 : (0 : Int) < (n : Int) := by omega
  by_cases g4 : K = 1
  case neg =>
    have HF : Hid (checkL ts = (4, 0)) := Lib.hid ((if_neg g1).trans ((if_neg (by rw [hE, hn]; exact fun h => h rfl)).trans ((if_neg (by rw [hD]; exact g3)).trans (if_pos (by rw [hK]; exact g4)))))
    have v5 : (K == 1) = false := by simpa using g4
    have v6 : (K != 1) = true := by simpa using g4
    rw [HF.out]
    clear h hn g1 g3 g4 hl hE hD hK HK0
    go_enter Try.func11, Try.ntmps11
    go_wp2_with (first
      | (go_at_call 14; refine CE.out.mono ?_; rintro e w1 ⟨rfl, rfl⟩)
      | (go_at_call 21; refine CD.out.mono ?_; rintro e w2 ⟨rfl, hb2⟩; have HB2 := Lib.hid hb2; have c0 := HK1.out _ hb2; clear hb2))
    go_ret2
    exact ⟨rfl, HB2.out⟩
  subst g4
  have HF : Hid (checkL ts = match scanG (goodAt ts) ts.length 0 with
    | some i => (4, (i : Int))
    | none => (0, 0)) := Lib.hid ((if_neg g1).trans ((if_neg (by rw [hE, hn]; exact fun h => h rfl)).trans ((if_neg (by rw [hD]; exact g3)).trans (if_neg (by rw [hK]; exact fun h => h rfl)))))
  obtain ⟨R, hR⟩ : ∃ R, R = checkL ts := ⟨_, rfl⟩
  rw [← hR] at HF ⊢
  have HS := Lib.hid hs
  clear h g1 g3 hE hD hK HK0 hn hR hs
  go_enter Try.func11, Try.ntmps11
  go_wp2_with (first
    | (go_at_call 14; refine CE.out.mono ?_; rintro e w1 ⟨rfl, rfl⟩)
    | (go_at_call 21; refine CD.out.mono ?_; rintro e w2 ⟨rfl, hb2⟩; have HB2 := Lib.hid hb2; have c0 := HK1.out _ hb2; clear hb2))
  clear CE CD HK1 c0 v2 v3 v4
  go_loopw [28] (fun vi wr => ∃ i : Nat, i ≤ n ∧ vi = .int .i64 (i : Int) ∧ Hid (Below w.heap.size w wr) ∧ Hid (scanG (goodAt ts) ts.length 0 = scanG (goodAt ts) (n - i) i)) (fun vi _ => n - (intOf vi).toNat)
  case atStart => exact ⟨0, Nat.zero_le _, rfl, HB2, Lib.hid (by rw [HN.out]; rfl)⟩
  case round =>
    clear HB2
    obtain ⟨i, hi, rfl, hB, hG⟩ := hrel
    by_cases hlt : i < n
    · have hil : i < ts.length := by rw [← HN.out]; exact hlt
      have z0 : (0 : Int) ≤ (i : Int) := by omega
      have z1 : (i : Int) < (n : Int) := by omega
      have hG' := hG.out
      obtain ⟨f, hf⟩ : ∃ f, n - i = f + 1 ∧ n - (i + 1) = f := ⟨n - i - 1, by omega, by omega⟩
      rw [hf.1, scanG_succ, ← hf.2] at hG'
      obtain ⟨g', o', hp, -, -, -, -, -, -, hr⟩ := (HNd.out.later hB.out).node i hil
      cases hp
      have hsx := HS.out ts[i] (List.getElem_mem hil)
      have hga : goodAt ts i = (fieldsP ts[i] && matchG (groupsL (kindAt ts (i : Int))) (kindsL ts (i : Int))) := by unfold goodAt; simp [hil]
      have CV : Hid (∀ W, Below w.heap.size w W → Calls Try.prog 29 #[.slice (some ⟨g, o, none⟩) n c, .int .i64 (i : Int)] W fun e w' => e = .returned (.bool (matchG (groupsL (kindAt ts (i : Int))) (kindsL ts (i : Int)))) ∧ Below W.heap.size W w') := Lib.hid (fun W hb => vkids_nat ts _ n c i W HN.out (HNd.out.later hb) hl hlt)
      generalize matchG (groupsL (kindAt ts (i : Int))) (kindsL ts (i : Int)) = mg at *
      have CF := Lib.hid (fun W => vf_any ts[i] hsx W)
      generalize hfx : fieldsP ts[i] = fx at *
      generalize ts[i] = x at *
      rw [hga] at hG'
      have HR := Lib.hid hr
      have HXI := Lib.hid (n_info x)
      have HZ := Lib.hid (nb_zero wr)
      have HP := Lib.hid (nb_put wr x)
      clear hf hr hsx hfx hil hga hG
      cases fx with
      | false =>
        have HF2 : Hid (R = (4, (i : Int))) := Lib.hid (by rw [HF.out, hG', Bool.false_and]; rfl)
        clear hG' CV
        go_wp2_with (first
          | (refine wpList_load_mid rfl 36 (.tmp 31) rfl g (o + i * 5) rfl x.cells _ HR.out Try.underlying36 rfl HXI.out ?_)
          | (refine wpList_store_mid rfl 36 (.tmp 5) (.tmp 32) rfl wr.heap.size 0 x.cells.toArray rfl rfl HZ.out.room (n_infoA x) (n_all x) ?_; generalize World.setCells _ _ _ _ = W3 at HP ⊢; have HP3 := Lib.hid HP.out; have HB3 := Lib.hid (chain2 hB.out HP.out.2); clear HP)
          | (refine wpList_load_mid rfl 36 (.tmp 5) rfl wr.heap.size 0 rfl x.cells _ HP3.out.1.cells Try.underlying36 rfl HXI.out ?_)
          | (go_at_call 28; refine (CF.out _).mono ?_; rintro e W4 ⟨rfl, hb4⟩; have HB4 := Lib.hid (chain2 HB3.out hb4); clear hb4))
        go_ret2
        exact ⟨by rw [HF2.out]; rfl, HB4.out⟩
      | true =>
        rw [Bool.true_and] at hG'
        cases mg with
        | false =>
          have HF2 : Hid (R = (4, (i : Int))) := Lib.hid (by rw [HF.out, hG']; rfl)
          clear hG'
          go_wp2_with (first
            | (refine wpList_load_mid rfl 36 (.tmp 31) rfl g (o + i * 5) rfl x.cells _ HR.out Try.underlying36 rfl HXI.out ?_)
            | (refine wpList_store_mid rfl 36 (.tmp 5) (.tmp 32) rfl wr.heap.size 0 x.cells.toArray rfl rfl HZ.out.room (n_infoA x) (n_all x) ?_; generalize World.setCells _ _ _ _ = W3 at HP ⊢; have HP3 := Lib.hid HP.out; have HB3 := Lib.hid (chain2 hB.out HP.out.2); clear HP)
            | (refine wpList_load_mid rfl 36 (.tmp 5) rfl wr.heap.size 0 rfl x.cells _ HP3.out.1.cells Try.underlying36 rfl HXI.out ?_)
            | (go_at_call 28; refine (CF.out _).mono ?_; rintro e W4 ⟨rfl, hb4⟩; have HB4 := Lib.hid (chain2 HB3.out hb4); clear hb4)
            | (go_at_call 29; refine (CV.out _ HB4.out).mono ?_; rintro e W5 ⟨rfl, hb5⟩; have HB5 := Lib.hid (chain2 HB4.out hb5); clear hb5))
          go_ret2
          exact ⟨by rw [HF2.out]; rfl, HB5.out⟩
        | true =>
          rw [if_pos rfl] at hG'
          have HG2 := Lib.hid hG'
          clear hG'
          go_wp2_with (first
            | (refine wpList_load_mid rfl 36 (.tmp 31) rfl g (o + i * 5) rfl x.cells _ HR.out Try.underlying36 rfl HXI.out ?_)
            | (refine wpList_store_mid rfl 36 (.tmp 5) (.tmp 32) rfl wr.heap.size 0 x.cells.toArray rfl rfl HZ.out.room (n_infoA x) (n_all x) ?_; generalize World.setCells _ _ _ _ = W3 at HP ⊢; have HP3 := Lib.hid HP.out; have HB3 := Lib.hid (chain2 hB.out HP.out.2); clear HP)
            | (refine wpList_load_mid rfl 36 (.tmp 5) rfl wr.heap.size 0 rfl x.cells _ HP3.out.1.cells Try.underlying36 rfl HXI.out ?_)
            | (go_at_call 28; refine (CF.out _).mono ?_; rintro e W4 ⟨rfl, hb4⟩; have HB4 := Lib.hid (chain2 HB3.out hb4); clear hb4)
            | (go_at_call 29; refine (CV.out _ HB4.out).mono ?_; rintro e W5 ⟨rfl, hb5⟩; have HB5 := Lib.hid (chain2 HB4.out hb5); clear hb5))
          go_roundw
          case rel => exact ⟨i + 1, by omega, by go_num, HB5, HG2⟩
          case measure => simp [intOf]; omega
    · obtain rfl : i = n := by omega
      have HF2 : Hid (R = (0, 0)) := Lib.hid (by rw [HF.out, hG.out, Nat.sub_self]; rfl)
      clear hG
      go_wp2
      go_ret2
      exact ⟨by rw [HF2.out]; rfl, hB.out⟩

theorem check_any (ts : List Nd) (v : Value) (w : World) (h : Nds w v ts) (hl : ts.length ≤ 4000) (hs : Short ts) :
    Calls Try.prog 11 #[v] w fun e w' => e = .returned (pairV (checkL ts)) ∧ Below w.heap.size w w' := by
  obtain ⟨p, c, rfl, -⟩ := id h
  exact check_nat ts p _ c w rfl h hl hs

end Go.Proofs.Ytcfgngaabledpaa.Tr
