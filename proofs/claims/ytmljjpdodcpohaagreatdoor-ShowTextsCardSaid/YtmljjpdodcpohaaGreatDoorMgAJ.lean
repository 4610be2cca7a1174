/- The walks of tree; A name for a text that stands elsewhere; What a module's tree that is right says of each of its nodes; The walk of lex. No condition but those that each states. -/
import Derived.Test.YtmljjpdodcpohaaGreatDoorMgAF
import Derived.Test.YtmljjpdodcpohaaGreatDoorMgAG
import Derived.Test.YtmljjpdodcpohaaGreatDoorMgAH
import Derived.Test.YtmljjpdodcpohaaGreatDoorMgAI
import Derived.Test.YtmljjpdodcpohaaGreatDoorMgAE
import Derived.Lib.AtoiAllCases
import Derived.Lib.ParseIntBTie
import Derived.LaidLaws
import Derived.Lib.AtoiErrMem
namespace Go.Proofs.YtmljjpdodcpohaaGreatDoor.Tr
open Lib (hid)
set_option maxRecDepth 100000
set_option maxHeartbeats 2000000
open Go.RowKit Dk Lx
def fieldsP (x : Nd) : Bool :=
  if x.kind = 1 then isName x.name && decide (1 ≤ x.n) && decide (x.n ≤ 2147483647) && (x.text == [])
  else if x.kind = 2 then isName x.name && decide (0 ≤ x.n) && decide (x.n ≤ 8) && isName x.text
  else if x.kind = 3 ∨ x.kind = 4 ∨ x.kind = 6 ∨ x.kind = 7 ∨ x.kind = 21 then isName x.name && decide (x.n = 0) && (x.text == [])
  else if x.kind = 19 then (x.name == []) && decide (x.n ≥ 0) && (x.text == [])
  else if x.kind = 20 then (x.name == []) && decide (x.n = 0) && decide ((x.text.length : Int) ≤ 1024)
  else if x.kind = 23 then isName x.name && decide (x.n = 0) && isName x.text
  else if x.kind = 27 then (x.name == []) && decide (x.n = 0) && isBin x.text
  else if x.kind = 28 then (x.name == []) && decide (x.n = 0) && isUn x.text
  else (x.name == []) && decide (x.n = 0) && (x.text == [])
def Short (ts : List Nd) : Prop := ∀ x ∈ ts, x.name.length ≤ 9000 ∧ x.text.length ≤ 9000
theorem vf_any (x : Nd) (h : x.name.length ≤ 9000 ∧ x.text.length ≤ 9000) (w : World) :
    Calls Tryz.prog 53 #[.agg x.cells.toArray] w fun e w' => e = .returned (.bool (fieldsP x)) ∧ Below w.heap.size w w' := by
  obtain ⟨k, d, q, z, s⟩ := x; obtain ⟨h1, h2⟩ : q.length ≤ 9000 ∧ s.length ≤ 9000 := h; have Ca := hid (fun W => name_any q W (by omega)); have Cb := hid (fun W => name_any s W (by omega)); have Bb := hid (fun W => bin_any s W); have Ub := hid (fun W => un_any s W); have ea : ((strOf q).toList == []) = (q == []) := by rw [strOf_tl]
  have eb : ((strOf s).toList == []) = (s == []) := by rw [strOf_tl]
  show Calls _ _ #[.agg #[.int .i64 k, .int .i64 d, .string (strOf q), .int .i64 z, .string (strOf s)]] w _
  by_cases a1 : k = 1
  · rw [show fieldsP ⟨k, d, q, z, s⟩ = _ from if_pos a1]; exact vf_1 k d z _ _ _ _ a1 Ca eb w
  by_cases a2 : k = 2
  · rw [show fieldsP ⟨k, d, q, z, s⟩ = _ from (if_neg a1).trans (if_pos a2)]; exact vf_2 k d z _ _ _ _ a2 Ca Cb w
  by_cases a3 : k = 3 ∨ k = 4 ∨ k = 6 ∨ k = 7 ∨ k = 21
  · rw [show fieldsP ⟨k, d, q, z, s⟩ = _ from (if_neg a1).trans ((if_neg a2).trans (if_pos a3))]; exact vf_3 k d z _ _ _ _ a3 Ca eb w
  by_cases a4 : k = 19
  · rw [show fieldsP ⟨k, d, q, z, s⟩ = _ from (if_neg a1).trans ((if_neg a2).trans ((if_neg a3).trans (if_pos a4)))]; exact vf_19 k d z _ _ _ _ a4 ea eb w
  by_cases a5 : k = 20
  · rw [show fieldsP ⟨k, d, q, z, s⟩ = _ from (if_neg a1).trans ((if_neg a2).trans ((if_neg a3).trans ((if_neg a4).trans (if_pos a5))))]
    have := vf_20 k d z (strOf q) (strOf s) _ a5 ea w; rw [strOf_size] at this; exact this
  by_cases a6 : k = 23
  · rw [show fieldsP ⟨k, d, q, z, s⟩ = _ from (if_neg a1).trans ((if_neg a2).trans ((if_neg a3).trans ((if_neg a4).trans ((if_neg a5).trans (if_pos a6)))))]; exact vf_23 k d z _ _ _ _ a6 Ca Cb w
  by_cases a7 : k = 27
  · rw [show fieldsP ⟨k, d, q, z, s⟩ = _ from (if_neg a1).trans ((if_neg a2).trans ((if_neg a3).trans ((if_neg a4).trans ((if_neg a5).trans ((if_neg a6).trans (if_pos a7))))))]; exact vf_27 k d z _ _ _ _ a7 ea Bb w
  by_cases a8 : k = 28
  · rw [show fieldsP ⟨k, d, q, z, s⟩ = _ from (if_neg a1).trans ((if_neg a2).trans ((if_neg a3).trans ((if_neg a4).trans ((if_neg a5).trans ((if_neg a6).trans ((if_neg a7).trans (if_pos a8)))))))]; exact vf_28 k d z _ _ _ _ a8 ea Ub w
  rw [show fieldsP ⟨k, d, q, z, s⟩ = _ from (if_neg a1).trans ((if_neg a2).trans ((if_neg a3).trans ((if_neg a4).trans ((if_neg a5).trans ((if_neg a6).trans ((if_neg a7).trans (if_neg a8)))))))]; exact vf_0 k d z _ _ _ _ (by omega) ea eb w
def goodAt (ts : List Nd) (i : Nat) : Bool := fieldsP (ts.getD i Nd.zero) && matchG (groupsL (kindAt ts (i : Int))) (kindsL ts (i : Int))
def scanG (g : Nat → Bool) : Nat → Nat → Option Nat
  | 0, _ => none
  | f + 1, j => if g j then scanG g f (j + 1) else some j
theorem scanG_succ (g : Nat → Bool) (f j : Nat) : scanG g (f + 1) j = if g j then scanG g f (j + 1) else some j := rfl
theorem scanG_none (g : Nat → Bool) : ∀ f j, scanG g f j = none → ∀ i, j ≤ i → i < j + f → g i = true
  | 0, j, _, i, h1, h2 => by omega
  | f + 1, j, h, i, h1, h2 => by
    rw [scanG_succ] at h; split at h
    · rename_i hg
      by_cases hij : i = j
      · rw [hij]; exact hg
      · exact scanG_none g f (j + 1) h i (by omega) (by omega)
    · cases h
def checkL (ts : List Nd) : Int × Int :=
  if 2000 < ts.length then (3, 0)
  else if endI (kidsOf ts) 0 ≠ (ts.length : Int) then (2, 0)
  else if 60 < depI (kidsOf ts) then (3, 0)
  else if kindAt ts 0 ≠ 1 then (4, 0)
  else match scanG (goodAt ts) ts.length 0 with
    | some i => (4, (i : Int))
    | none => (0, 0)
def pairV (x : Int × Int) : Value := .tuple #[.int .i64 x.1, .int .i64 x.2]
theorem check_nat (ts : List Nd) (p : Option Addr) (n c : Nat) (w : World) (hn : n = ts.length) (h : Nds w (.slice p n c) ts) (hl : n ≤ 1000000) (hs : Short ts) :
    Calls Tryz.prog 27 #[.slice p n c] w fun e w' => e = .returned (pairV (checkL ts)) ∧ Below w.heap.size w w' := by
  have HN := hid hn; by_cases g1 : 2000 < ts.length
  · have HF : Hid (checkL ts = (3, 0)) := hid (if_pos g1)
    have v1 : (n : Int) > 2000 := by omega
    rw [HF.out]; clear h hn g1 hl; go_enter Tryz.func27, Tryz.ntmps27
    go_wp2; go_ret2; exact ⟨rfl, Below.refl _ _⟩
  have v1 : ¬(n : Int) > 2000 := by omega
  replace hl : n ≤ 4000 := by omega
  have CE := hid (end_any ts (.slice p n c) 0 w h (by omega)); generalize hE : endI (kidsOf ts) 0 = E at *; by_cases g2 : E = (n : Int)
  case neg =>
    have HF : Hid (checkL ts = (2, 0)) := hid ((if_neg g1).trans (if_pos (by rw [hE, ← hn]; exact g2)))
    have v2 : (E == (n : Int)) = false := by simpa using g2
    have v3 : (E != (n : Int)) = true := by simpa using g2
    rw [HF.out]; clear h hn g1 g2 hl hE; go_enter Tryz.func27, Tryz.ntmps27
    go_wp2_with (go_at_call 51; refine CE.out.mono ?_; rintro e w1 ⟨rfl, rfl⟩)
    go_ret2; exact ⟨rfl, Below.refl _ _⟩
  subst g2
  have hpos : 0 < ts.length := by
    rcases endI_cases (kidsOf ts) 0 with h1 | ⟨a, m, -, -, h1, h2, -⟩
    · omega
    · rw [kidsOf_len] at h2; omega
  have v2 : ((n : Int) == (n : Int)) = true := by simp
  have v3 : ((n : Int) != (n : Int)) = false := by simp
  have CD := hid (depth_any ts (.slice p n c) w h (by omega)); generalize hD : depI (kidsOf ts) = D at *; by_cases g3 : 60 < D
  · have HF : Hid (checkL ts = (3, 0)) := hid ((if_neg g1).trans ((if_neg (by rw [hE, hn]; exact fun h => h rfl)).trans (if_pos (by rw [hD]; exact g3))))
    have v4 : D > 60 := g3; rw [HF.out]; clear h hn g1 g3 hl hE hD; go_enter Tryz.func27, Tryz.ntmps27
    go_wp2_with (first
      | (go_at_call 51; refine CE.out.mono ?_; rintro e w1 ⟨rfl, rfl⟩)
      | (go_at_call 52; refine CD.out.mono ?_; rintro e w2 ⟨rfl, hb2⟩; have HB2 := hid hb2; clear hb2))
    go_ret2; exact ⟨rfl, HB2.out⟩
  have v4 : ¬D > 60 := g3; have HNd := hid h
  have HK0 : Hid (∀ W, Below w.heap.size w W → ∃ g o, p = some ⟨g, o, none⟩ ∧ W.cell? ⟨g, o, none⟩ = some (.int .i64 (kindAt ts 0))) := hid (fun W hb => by
    obtain ⟨g, o, hp, -, h1, -⟩ := (h.later hb).node 0 hpos; refine ⟨g, o, hp, ?_⟩; rw [Nat.zero_mul, Nat.add_zero] at h1
    rw [h1]; unfold kindAt; simp [hpos])
  obtain ⟨g, o, rfl, -⟩ := HK0.out w (Below.refl _ _)
  have HK1 : Hid (∀ W, Below w.heap.size w W → W.cell? ⟨g, o, none⟩ = some (.int .i64 (kindAt ts 0))) := hid (fun W hb => by
    obtain ⟨g', o', hp, h1⟩ := HK0.out W hb
    cases hp; exact h1)
  generalize hK : kindAt ts 0 = K at *; have hn0 : (0 : Int) < (n : Int) := by omega
  by_cases g4 : K = 1
  case neg =>
    have HF : Hid (checkL ts = (4, 0)) := hid ((if_neg g1).trans ((if_neg (by rw [hE, hn]; exact fun h => h rfl)).trans ((if_neg (by rw [hD]; exact g3)).trans (if_pos (by rw [hK]; exact g4)))))
    have v5 : (K == 1) = false := by simpa using g4
    have v6 : (K != 1) = true := by simpa using g4
    rw [HF.out]; clear h hn g1 g3 g4 hl hE hD hK HK0; go_enter Tryz.func27, Tryz.ntmps27
    go_wp2_with (first
      | (go_at_call 51; refine CE.out.mono ?_; rintro e w1 ⟨rfl, rfl⟩)
      | (go_at_call 52; refine CD.out.mono ?_; rintro e w2 ⟨rfl, hb2⟩; have HB2 := hid hb2; have c0 := HK1.out _ hb2; clear hb2))
    go_ret2; exact ⟨rfl, HB2.out⟩
  subst g4
  have HF : Hid (checkL ts = match scanG (goodAt ts) ts.length 0 with
    | some i => (4, (i : Int))
    | none => (0, 0)) := hid ((if_neg g1).trans ((if_neg (by rw [hE, hn]; exact fun h => h rfl)).trans ((if_neg (by rw [hD]; exact g3)).trans (if_neg (by rw [hK]; exact fun h => h rfl)))))
  obtain ⟨R, hR⟩ : ∃ R, R = checkL ts := ⟨_, rfl⟩; rw [← hR] at HF ⊢; have HS := hid hs; clear h g1 g3 hE hD hK HK0 hn hR hs; go_enter Tryz.func27, Tryz.ntmps27
  go_wp2_with (first
    | (go_at_call 51; refine CE.out.mono ?_; rintro e w1 ⟨rfl, rfl⟩)
    | (go_at_call 52; refine CD.out.mono ?_; rintro e w2 ⟨rfl, hb2⟩; have HB2 := hid hb2; have c0 := HK1.out _ hb2; clear hb2))
  clear CE CD HK1 c0 v2 v3 v4; go_loopw [28] (fun vi wr => ∃ i : Nat, i ≤ n ∧ vi = .int .i64 (i : Int) ∧ Hid (Below w.heap.size w wr) ∧ Hid (scanG (goodAt ts) ts.length 0 = scanG (goodAt ts) (n - i) i)) (fun vi _ => n - (intOf vi).toNat)
  case atStart => exact ⟨0, Nat.zero_le _, rfl, HB2, hid (by rw [HN.out]; rfl)⟩
  case round =>
    clear HB2; obtain ⟨i, hi, rfl, hB, hG⟩ := hrel; by_cases hlt : i < n
    · have hil : i < ts.length := by rw [← HN.out]; exact hlt
      have z0 : (0 : Int) ≤ (i : Int) := by omega
      have z1 : (i : Int) < (n : Int) := by omega
      have hG' := hG.out; obtain ⟨f, hf⟩ : ∃ f, n - i = f + 1 ∧ n - (i + 1) = f := ⟨n - i - 1, by omega, by omega⟩; rw [hf.1, scanG_succ, ← hf.2] at hG'; obtain ⟨g', o', hp, -, -, -, -, -, -, hr⟩ := (HNd.out.later hB.out).node i hil; cases hp
      have hsx := HS.out ts[i] (List.getElem_mem hil); have hga : goodAt ts i = (fieldsP ts[i] && matchG (groupsL (kindAt ts (i : Int))) (kindsL ts (i : Int))) := by unfold goodAt; simp [hil]
      have CV : Hid (∀ W, Below w.heap.size w W → Calls Tryz.prog 54 #[.slice (some ⟨g, o, none⟩) n c, .int .i64 (i : Int)] W fun e w' => e = .returned (.bool (matchG (groupsL (kindAt ts (i : Int))) (kindsL ts (i : Int)))) ∧ Below W.heap.size W w') := hid (fun W hb => vkids_nat ts _ n c i W HN.out (HNd.out.later hb) hl hlt); generalize matchG (groupsL (kindAt ts (i : Int))) (kindsL ts (i : Int)) = mg at *; have CF := hid (fun W => vf_any ts[i] hsx W); generalize hfx : fieldsP ts[i] = fx at *; generalize ts[i] = x at *; rw [hga] at hG'; have HR := hid hr; have HXI := hid (n_info x); have HZ := hid (nb_zero wr); have HP := hid (nb_put wr x); clear hf hr hsx hfx hil hga hG; cases fx with
      | false =>
        have HF2 : Hid (R = (4, (i : Int))) := hid (by rw [HF.out, hG', Bool.false_and]; rfl)
        clear hG' CV
        go_wp2_with (first
          | (refine wpList_load_mid rfl 58 (.tmp 31) rfl g (o + i * 5) rfl x.cells _ HR.out Tryz.underlying58 rfl HXI.out ?_)
          | (refine wpList_store_mid rfl 58 (.tmp 5) (.tmp 32) rfl wr.heap.size 0 x.cells.toArray rfl rfl HZ.out.room (n_infoA x) (n_all x) ?_; generalize World.setCells _ _ _ _ = W3 at HP ⊢; have HP3 := hid HP.out; have HB3 := hid (chain2 hB.out HP.out.2); clear HP)
          | (refine wpList_load_mid rfl 58 (.tmp 5) rfl wr.heap.size 0 rfl x.cells _ HP3.out.1.cells Tryz.underlying58 rfl HXI.out ?_)
          | (go_at_call 53; refine (CF.out _).mono ?_; rintro e W4 ⟨rfl, hb4⟩; have HB4 := hid (chain2 HB3.out hb4); clear hb4))
        go_ret2; exact ⟨by rw [HF2.out]; rfl, HB4.out⟩
      | true =>
        rw [Bool.true_and] at hG'; cases mg with
        | false =>
          have HF2 : Hid (R = (4, (i : Int))) := hid (by rw [HF.out, hG']; rfl)
          clear hG'
          go_wp2_with (first
            | (refine wpList_load_mid rfl 58 (.tmp 31) rfl g (o + i * 5) rfl x.cells _ HR.out Tryz.underlying58 rfl HXI.out ?_)
            | (refine wpList_store_mid rfl 58 (.tmp 5) (.tmp 32) rfl wr.heap.size 0 x.cells.toArray rfl rfl HZ.out.room (n_infoA x) (n_all x) ?_; generalize World.setCells _ _ _ _ = W3 at HP ⊢; have HP3 := hid HP.out; have HB3 := hid (chain2 hB.out HP.out.2); clear HP)
            | (refine wpList_load_mid rfl 58 (.tmp 5) rfl wr.heap.size 0 rfl x.cells _ HP3.out.1.cells Tryz.underlying58 rfl HXI.out ?_)
            | (go_at_call 53; refine (CF.out _).mono ?_; rintro e W4 ⟨rfl, hb4⟩; have HB4 := hid (chain2 HB3.out hb4); clear hb4)
            | (go_at_call 54; refine (CV.out _ HB4.out).mono ?_; rintro e W5 ⟨rfl, hb5⟩; have HB5 := hid (chain2 HB4.out hb5); clear hb5))
          go_ret2; exact ⟨by rw [HF2.out]; rfl, HB5.out⟩
        | true =>
          rw [if_pos rfl] at hG'; have HG2 := hid hG'; clear hG'
          go_wp2_with (first
            | (refine wpList_load_mid rfl 58 (.tmp 31) rfl g (o + i * 5) rfl x.cells _ HR.out Tryz.underlying58 rfl HXI.out ?_)
            | (refine wpList_store_mid rfl 58 (.tmp 5) (.tmp 32) rfl wr.heap.size 0 x.cells.toArray rfl rfl HZ.out.room (n_infoA x) (n_all x) ?_; generalize World.setCells _ _ _ _ = W3 at HP ⊢; have HP3 := hid HP.out; have HB3 := hid (chain2 hB.out HP.out.2); clear HP)
            | (refine wpList_load_mid rfl 58 (.tmp 5) rfl wr.heap.size 0 rfl x.cells _ HP3.out.1.cells Tryz.underlying58 rfl HXI.out ?_)
            | (go_at_call 53; refine (CF.out _).mono ?_; rintro e W4 ⟨rfl, hb4⟩; have HB4 := hid (chain2 HB3.out hb4); clear hb4)
            | (go_at_call 54; refine (CV.out _ HB4.out).mono ?_; rintro e W5 ⟨rfl, hb5⟩; have HB5 := hid (chain2 HB4.out hb5); clear hb5))
          go_roundw
          case rel => exact ⟨i + 1, by omega, by go_num, HB5, HG2⟩
          case measure => simp [intOf]; omega
    · obtain rfl : i = n := by omega
      have HF2 : Hid (R = (0, 0)) := hid (by rw [HF.out, hG.out, Nat.sub_self]; rfl)
      clear hG; go_wp2; go_ret2; exact ⟨by rw [HF2.out]; rfl, hB.out⟩
theorem check_any (ts : List Nd) (v : Value) (w : World) (h : Nds w v ts) (hl : ts.length ≤ 1000000) (hs : Short ts) :
    Calls Tryz.prog 27 #[v] w fun e w' => e = .returned (pairV (checkL ts)) ∧ Below w.heap.size w w' := by
  obtain ⟨p, c, rfl, -⟩ := id h; exact check_nat ts p _ c w rfl h hl hs
end Go.Proofs.YtmljjpdodcpohaaGreatDoor.Tr

namespace Go.Proofs.YtmljjpdodcpohaaGreatDoor.Tr
open Go.RowKit Dk Lx
theorem parent {ks : List Int} {i : Nat} : ∀ (f p n : Nat), i - p ≤ f → p < i → endW 1 (ks.drop p) = some n → i < p + n → ∃ (a c m j : Nat), a < i ∧ endW 1 (ks.drop a) = some m ∧ ks[a]? = some (c : Int) ∧ j < c ∧ pos ks (a + 1) j = i
  | 0, p, n, hf, hp, _, _ => by omega
  | f + 1, p, n, hf, hp, h, hi => by
    obtain ⟨k, hk, hk0, hF, hn1⟩ := endW_node h; obtain ⟨c, rfl⟩ : ∃ c : Nat, k = (c : Int) := ⟨k.toNat, by omega⟩; rw [Int.toNat_natCast] at hF; have hend : pos ks (p + 1) c = p + n := by rw [pos_end hF]; omega
    -- the kid in whose tree it lies
    have key : ∀ t, t ≤ c → i < pos ks (p + 1) t → ∃ j, j < t ∧ pos ks (p + 1) j ≤ i ∧ i < pos ks (p + 1) (j + 1) := by
      intro t; induction t with
      | zero => intro _ h0; have : pos ks (p + 1) 0 = p + 1 := rfl; omega
      | succ t ih =>
        intro ht hlt; by_cases hle : pos ks (p + 1) t ≤ i
        · exact ⟨t, by omega, hle, hlt⟩
        · obtain ⟨j, h1, h2, h3⟩ := ih (by omega) (by omega)
          exact ⟨j, by omega, h2, h3⟩
    obtain ⟨j, hj, h1, h2⟩ := key c (Nat.le_refl _) (by omega); by_cases he : pos ks (p + 1) j = i
    · exact ⟨p, c, n, j, hp, h, hk, hj, he⟩
    · obtain ⟨m, t1, t2, t3, t4⟩ := pos_tree hF hj
      have hge := (pos_at hF j (by omega)).2.2; exact parent f _ m (by omega) (by omega) t1 (by omega)
theorem cntG_pr (pr : Int → Bool) : ∀ (h : Nat) (l : List Int) (x : Int), x ∈ l.take (cntG pr h l) → pr x = true
  | 0, l, x, hx => by rw [cntG_zero] at hx; simp at hx
  | h + 1, [], x, hx => by simp at hx
  | h + 1, y :: r, x, hx => by
    rw [cntG] at hx; split at hx
    · rename_i hy
      rw [List.take_succ_cons] at hx; rcases List.mem_cons.1 hx with rfl | hx
      · exact hy
      · exact cntG_pr pr h r x hx
    · simp at hx
theorem matchG_mem : ∀ (gs : List Gp) (K : List Int), matchG gs K = true → ∀ x ∈ K, ∃ g ∈ gs, g.f.pr x = true
  | [], K, h, x, hx => by
    have h' : decide (K.length = 0) = true := h; have := of_decide_eq_true h'; rw [List.eq_nil_of_length_eq_zero this] at hx; cases hx
  | g :: gs, K, h, x, hx => by
    rw [matchG_cons] at h; split at h
    · cases h
    · rw [← List.take_append_drop (cntG g.f.pr g.hi.toNat K) K] at hx
      rcases List.mem_append.1 hx with hx | hx
      · exact ⟨g, by simp, cntG_pr _ _ _ _ hx⟩
      · obtain ⟨g', h1, h2⟩ := matchG_mem gs _ h x hx
        exact ⟨g', by simp [h1], h2⟩
theorem pr_range {f : FK} {x : Int} (hf : f = .e ∨ f = .s ∨ ∃ c, f = .k c ∧ 2 ≤ c ∧ c ≤ 5) (h : f.pr x = true) : 2 ≤ x ∧ x ≤ 30 := by
  rcases hf with rfl | rfl | ⟨c, rfl, h1, h2⟩
  · have h' : isExpr x = true := h
    unfold isExpr at h'; simp at h'; omega
  · have h' : isStmt x = true := h
    unfold isStmt at h'; simp at h'; omega
  · have h' : (x == c) = true := h
    have := eq_of_beq h'; omega
theorem groups_range (k : Int) : ∀ g ∈ groupsL k, g.f = .e ∨ g.f = .s ∨ ∃ c, g.f = .k c ∧ 2 ≤ c ∧ c ≤ 5 := by
  intro g hg; unfold groupsL at hg; repeat' split at hg
  all_goals
    simp only [List.mem_cons, List.not_mem_nil, or_false] at hg
  all_goals
    first
    | exact hg.elim
    | (rcases hg with rfl | rfl <;> first | exact .inl rfl | exact .inr (.inl rfl) | exact .inr (.inr ⟨_, rfl, by decide, by decide⟩))
    | (subst hg; first | exact .inl rfl | exact .inr (.inl rfl) | exact .inr (.inr ⟨_, rfl, by decide, by decide⟩))
theorem check_ok {ts : List Nd} (h : (checkL ts).1 = 0) : ts.length ≤ 2000 ∧ 0 < ts.length ∧ endW 1 ((kidsOf ts).drop 0) = some ts.length ∧ kindAt ts 0 = 1 ∧ ∀ i, i < ts.length → goodAt ts i = true := by
  unfold checkL at h; split at h
  · cases h
  · rename_i h1
    split at h
    · cases h
    · rename_i h2
      split at h
      · cases h
      · split at h
        · cases h
        · rename_i h4
          split at h
          · cases h
          · rename_i h5
            have h2' : endI (kidsOf ts) 0 = (ts.length : Int) := Decidable.of_not_not h2
            have hw : ∃ n, endW 1 ((kidsOf ts).drop 0) = some n ∧ 1 ≤ n ∧ n = ts.length := by
              rcases endI_cases (kidsOf ts) 0 with e | ⟨k, n, e0, e1, e2, e3, e4⟩
              · omega
              · obtain rfl : k = 0 := by omega
                exact ⟨n, e1, e2, by omega⟩
            obtain ⟨n, e1, e2, e3⟩ := hw; exact ⟨by omega, by omega, by rw [e1, e3], Decidable.of_not_not h4, fun i hi => scanG_none _ _ _ h5 i (Nat.zero_le _) (by omega)⟩
end Go.Proofs.YtmljjpdodcpohaaGreatDoor.Tr

namespace Go.Proofs.YtmljjpdodcpohaaGreatDoor.Lx
open Lib (hid)
open Go.RowKit Dk
theorem foldl_mono (l : List UInt8) (a : Nat) : a ≤ l.foldl (fun a c => a * 10 + (c.toNat - 48)) a := by
  induction l generalizing a with
  | nil => exact Nat.le_refl _
  | cons c r ih => exact Nat.le_trans (by omega) (ih (a * 10 + (c.toNat - 48)))
theorem parseUintM_digits : ∀ (l : List UInt8) (acc : Nat), (∀ c ∈ l, isD c = true) → acc < 2 ^ 64 →
    Lib.parseUintM (2 ^ 64 - 1) acc l = (if l.foldl (fun a c => a * 10 + (c.toNat - 48)) acc < 2 ^ 64 then .ok (l.foldl (fun a c => a * 10 + (c.toNat - 48)) acc) else .range)
  | [], acc, _, h => by rw [Lib.parseUintM, List.foldl_nil, if_pos h]
  | c :: r, acc, hd, h => by
    have hc := hd c (by simp); have hc2 : 48 ≤ c.toNat ∧ c.toNat ≤ 57 := by unfold isD rD at hc; simp at hc; omega
    have hm := foldl_mono r (acc * 10 + (c.toNat - 48)); rw [Lib.parseUintM, if_pos hc2, List.foldl_cons]; by_cases h1 : 1844674407370955162 ≤ acc
    · rw [if_pos h1, if_neg (by omega)]
    · rw [if_neg h1]
      by_cases h2 : 2 ^ 64 - 1 < acc * 10 + (c.toNat - 48)
      · rw [if_pos h2, if_neg (by omega)]
      · rw [if_neg h2, parseUintM_digits r _ (fun x hx => hd x (by simp [hx])) (by omega)]
theorem parse_digits (l : List UInt8) (hne : l ≠ []) (hd : ∀ c ∈ l, isD c = true) : Lib.parseIntB 64 l = if numV l < 2 ^ 63 then .ok (numV l : Int) else .range := by
  obtain ⟨c, r, rfl⟩ := List.exists_cons_of_ne_nil hne; have hc := hd c (by simp); have hc2 : 48 ≤ c.toNat ∧ c.toNat ≤ 57 := by unfold isD rD at hc; simp at hc; omega
  unfold Lib.parseIntB; dsimp only
  rw [if_neg (by omega)]; unfold Lib.parseUintB; rw [if_neg (by simp), parseUintM_digits (c :: r) 0 hd (by decide)]; show (match (if numV (c :: r) < 2 ^ 64 then Lib.NumEnd.ok (numV (c :: r)) else .range) with | .syntax => _ | .range => _ | .ok u => _) = _
  have n45 : ¬c.toNat = 45 := by omega
  by_cases h1 : numV (c :: r) < 2 ^ 64
  · rw [if_pos h1]
    dsimp only
    by_cases h2 : numV (c :: r) < 2 ^ 63
    · rw [if_neg (by simp only [n45, not_false_eq_true, true_and]; omega), if_neg (by simp only [n45, false_and, not_false_eq_true]), if_neg n45, if_pos h2]
    · rw [if_pos (by simp only [n45, not_false_eq_true, true_and]; omega), if_neg h2]
  · rw [if_neg h1, if_neg (by omega)]
theorem spanN_all (p : UInt8 → Bool) : ∀ l : List UInt8, ∀ c ∈ l.take (spanN p l), p c = true
  | [], c, h => by simp at h
  | x :: r, c, h => by
    unfold spanN at h; split at h
    · rename_i hx
      rw [List.take_succ_cons] at h; rcases List.mem_cons.1 h with rfl | h
      · exact hx
      · exact spanN_all p r c h
    · simp at h
def HasE (w : World) : Prop := ∃ g tp p, Tryz.prog.globalNamed "strconv.ErrRange" = some g ∧ g < w.heap.size ∧ w.var? Tryz.prog "strconv.ErrRange" = some #[.iface tp p]
theorem HasE.later {w w' : World} (h : HasE w) (k : Below w.heap.size w w') : HasE w' := by
  obtain ⟨g, tp, p, h1, h2, h3⟩ := h; exact ⟨g, tp, p, h1, Nat.lt_of_lt_of_le h2 k.size, var?_below k h1 h2 h3⟩
theorem parse_yes (T : List UInt8) (hne : T ≠ []) (hd : ∀ c ∈ T, isD c = true) (hl : T.length ≤ 2 ^ 40) (hv : numV T < 2 ^ 63) (w : World) :
    Calls Tryz.prog 177 #[.string (strOf T), .int .i64 10, .int .i64 64] w fun e w' => e = .returned (.tuple #[.int .i64 (numV T : Nat), .nilIface]) ∧ Below w.heap.size w w' := by
  have h := parse_digits T hne hd; rw [if_pos hv] at h; refine (strconv_ParseInt_10_at64_ok (strOf T) (by rw [strOf_size]; omega) _ (by rw [strOf_toList]; exact h) w).mono ?_
  rintro e w' ⟨rfl, rfl | ⟨t, rfl⟩⟩
  · exact ⟨rfl, Below.refl _ _⟩
  · exact ⟨rfl, Lib.bytesWorld_below _ _ _⟩
theorem parse_no (T : List UInt8) (hne : T ≠ []) (hd : ∀ c ∈ T, isD c = true) (hl : T.length ≤ 2 ^ 40) (hv : ¬numV T < 2 ^ 63) (w : World) (HE : HasE w) :
    Calls Tryz.prog 177 #[.string (strOf T), .int .i64 10, .int .i64 64] w fun e w' => ∃ n tp q, e = .returned (.tuple #[.int .i64 n, .iface tp (.pointer (some q))]) ∧ Below w.heap.size w w' := by
  have h := parse_digits T hne hd; rw [if_neg hv] at h; obtain ⟨g, tp, p, -, -, h3⟩ := HE; refine (strconv_ParseInt_10_at64_range_var (strOf T) (by rw [strOf_size]; omega) (by rw [strOf_toList]; exact h) tp p w h3).mono ?_
  rintro e w' ⟨N, rfl, -, -, hb⟩; exact ⟨_, _, _, rfl, hb⟩
set_option maxHeartbeats 2000000 in
theorem nextInt_any (s : ByteArray) (a : Nat) (c : UInt8) (r : List UInt8) (w : World) (hl : from' s a = c :: r) (hc : isD c = true) (hs : s.size ≤ 2 ^ 40) (HE : HasE w) :
    Calls Tryz.prog 141 #[.string s, .int .i64 (a : Int)] w fun e w' => e = .returned (oneV a (intOf' (from' s a) (spanN isD (from' s a)))) ∧ Below w.heap.size w w' := by
  have hlen := from_length s a; have hle := spanN_le isD (from' s a); have hpos : 1 ≤ spanN isD (from' s a) := by rw [hl, spanN_first hc]; omega
  have ha : a ≤ s.size := by rw [hl] at hlen; simp at hlen; omega
  have C := hid (fun W => digitsEnd_any s a W ha hs); have hmid := fun W => run_mid (P := Tryz.prog) s a (spanN isD (from' s a)) (by omega) 9 Tryz.underlying9 W
  have hall := spanN_all isD (from' s a)
  have hT : ∃ r', (from' s a).take (spanN isD (from' s a)) = c :: r' := by
    rw [hl]; obtain ⟨k, hk⟩ : ∃ k, spanN isD (c :: r) = k + 1 := ⟨spanN isD (c :: r) - 1, by rw [hl] at hpos; omega⟩
    rw [hk, List.take_succ_cons]; exact ⟨_, rfl⟩
  obtain ⟨r', hT⟩ := hT; have hlt : (c :: r').length = spanN isD (from' s a) := by rw [← hT, List.length_take, Nat.min_eq_left hle]
  obtain ⟨R, hR⟩ : ∃ R, R = oneV a (intOf' (from' s a) (spanN isD (from' s a))) := ⟨_, rfl⟩; rw [← hR]; unfold intOf' at hR; rw [hT] at hmid hall hR; generalize spanN isD (from' s a) = n at *; clear hT hl; have hsz : (strOf (c :: r')).size = n := by rw [strOf_size, hlt]
  have hidx : ∀ W : World, (Instr.index 9 (.string (strOf (c :: r'))) (.int .i64 0)).run Tryz.prog W = .ok (.int .u8 (c.toNat : Int)) W := fun W => by
    have h1 : ((strOf (c :: r'))[0]'(by omega)) = c := rfl; rw [← h1]; go_simp
    omega
  have PY := hid (fun h W => parse_yes (c :: r') (by simp) hall (by omega) h W); have PN := hid (fun h W => parse_no (c :: r') (by simp) hall (by omega) h W)
  have HV1 : Hid (1 < n ∧ c.toNat = 48 → numL (c :: r') = none) := hid (fun h => by
    unfold numL; rw [if_pos ⟨by rw [hlt]; exact h.1, by rw [List.head?_cons]; congr 1; exact UInt8.toNat_inj.1 h.2⟩])
  have hnl : ¬(1 < n ∧ c.toNat = 48) → numL (c :: r') = if numV (c :: r') < 2 ^ 63 then some (numV (c :: r')) else none := fun h => by
    unfold numL; rw [if_neg]; rintro ⟨h1, h2⟩; exact h ⟨by rw [hlt] at h1; exact h1, by rw [List.head?_cons] at h2; rw [Option.some.inj h2]; rfl⟩
  have HNL := hid hnl; generalize numL (c :: r') = M at *; have HT := hid (show c :: r' = c :: r' from rfl); generalize numV (c :: r') = V at *; generalize hx : c :: r' = T at *; have HRR := hid hR; clear hx hall hnl hlt hlen hle HT hR; rw [Int.natCast_add] at C; have HZ := hid (tw_new w); have HHE := hid HE; go_enter Tryz.func141, Tryz.ntmps141
  go_wp2_with fail
  generalize w.alloc _ = W1 at HZ ⊢; refine (C.out _).mono ?_; rintro e W2 ⟨rfl, hb⟩; have HY := hid (HZ.out.later hb); clear hb HZ C HE; by_cases h0 : c.toNat = 48
  · by_cases h1 : 1 < n
    · have hM := HV1.out ⟨h1, h0⟩
      have HM := hid hM; clear hM; have e0 : ((c.toNat : Int) == 48) = true := by rw [h0]; rfl
      have e1 : ((strOf T).size : Int) > 1 := by omega
      clear h0; go_wp2_with (refine wpList_store_mid rfl 73 _ _ rfl w.heap.size 0 Tk.zero.cells.toArray rfl rfl HY.out.1.room (t_infoA _) (t_all _) ?_; have HR := hid (HY.out.put Tk.zero); generalize World.setCells _ _ _ _ = W8 at HR ⊢)
      refine bodyPost_ret (results_cell3 rfl _ _ rfl HR.out.1.cells Tryz.underlying73 rfl (t_info _)) rfl ?_; exact ⟨by rw [HRR.out, HM.out]; rfl, HR.out.2⟩
    · have HM0 := hid (HNL.out (fun h => h1 h.1))
      have e0 : ((c.toNat : Int) == 48) = true := by rw [h0]; rfl
      have e1 : ¬((strOf T).size : Int) > 1 := by omega
      clear h0; by_cases hv : V < 2 ^ 63
      · have HM : Hid (M = some V) := hid (by rw [HM0.out, if_pos hv])
        have P := hid (fun W => PY.out hv W); clear HM0 HV1 HNL PY PN
        go_wp2_with (first
          | (go_at_call 177; refine (P.out _).mono ?_; rintro e W3 ⟨rfl, hb3⟩; have HW := hid (HY.out.later hb3); clear hb3)
          | (refine wpList_store_mid rfl 73 _ _ rfl w.heap.size 0 (Tk.mk 2 T V a).cells.toArray rfl rfl HW.out.1.room (t_infoA _) (t_all _) ?_; have HR := hid (HW.out.put (Tk.mk 2 T V a)); generalize World.setCells _ _ _ _ = W8 at HR ⊢))
        refine bodyPost_ret (results_cell3 rfl _ _ rfl HR.out.1.cells Tryz.underlying73 rfl (t_info _)) rfl ?_; exact ⟨by rw [HRR.out, HM.out]; rfl, HR.out.2⟩
      · have HM : Hid (M = none) := hid (by rw [HM0.out, if_neg hv])
        have P := hid (fun W h => PN.out hv W h); clear HM0 HV1 HNL PY PN
        go_wp2_with (first
          | (go_at_call 177; refine (P.out _ (HHE.out.later HY.out.2)).mono ?_; rintro e W3 ⟨x3, x4, x5, rfl, hb3⟩; have HW := hid (HY.out.later hb3); clear hb3)
          | (refine wpList_store_mid rfl 73 _ _ rfl w.heap.size 0 Tk.zero.cells.toArray rfl rfl HW.out.1.room (t_infoA _) (t_all _) ?_; have HR := hid (HW.out.put Tk.zero); generalize World.setCells _ _ _ _ = W8 at HR ⊢))
        refine bodyPost_ret (results_cell3 rfl _ _ rfl HR.out.1.cells Tryz.underlying73 rfl (t_info _)) rfl ?_; exact ⟨by rw [HRR.out, HM.out]; rfl, HR.out.2⟩
  · have HM0 := hid (HNL.out (fun h => h0 h.2))
    have e0 : ((c.toNat : Int) == 48) = false := by simp; omega
    clear h0; by_cases hv : V < 2 ^ 63
    · have HM : Hid (M = some V) := hid (by rw [HM0.out, if_pos hv])
      have P := hid (fun W => PY.out hv W); clear HM0 HV1 HNL PY PN
      go_wp2_with (first
        | (go_at_call 177; refine (P.out _).mono ?_; rintro e W3 ⟨rfl, hb3⟩; have HW := hid (HY.out.later hb3); clear hb3)
        | (refine wpList_store_mid rfl 73 _ _ rfl w.heap.size 0 (Tk.mk 2 T V a).cells.toArray rfl rfl HW.out.1.room (t_infoA _) (t_all _) ?_; have HR := hid (HW.out.put (Tk.mk 2 T V a)); generalize World.setCells _ _ _ _ = W8 at HR ⊢))
      refine bodyPost_ret (results_cell3 rfl _ _ rfl HR.out.1.cells Tryz.underlying73 rfl (t_info _)) rfl ?_; exact ⟨by rw [HRR.out, HM.out]; rfl, HR.out.2⟩
    · have HM : Hid (M = none) := hid (by rw [HM0.out, if_neg hv])
      have P := hid (fun W h => PN.out hv W h); clear HM0 HV1 HNL PY PN
      go_wp2_with (first
        | (go_at_call 177; refine (P.out _ (HHE.out.later HY.out.2)).mono ?_; rintro e W3 ⟨x3, x4, x5, rfl, hb3⟩; have HW := hid (HY.out.later hb3); clear hb3)
        | (refine wpList_store_mid rfl 73 _ _ rfl w.heap.size 0 Tk.zero.cells.toArray rfl rfl HW.out.1.room (t_infoA _) (t_all _) ?_; have HR := hid (HW.out.put Tk.zero); generalize World.setCells _ _ _ _ = W8 at HR ⊢))
      refine bodyPost_ret (results_cell3 rfl _ _ rfl HR.out.1.cells Tryz.underlying73 rfl (t_info _)) rfl ?_; exact ⟨by rw [HRR.out, HM.out]; rfl, HR.out.2⟩
end Go.Proofs.YtmljjpdodcpohaaGreatDoor.Lx

