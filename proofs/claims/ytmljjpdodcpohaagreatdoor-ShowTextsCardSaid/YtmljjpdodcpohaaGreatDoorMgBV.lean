/- The walk of chrysalisref08; ShowTexts; What the listed variables give; What the listed variables give. No condition but those that each states. -/
import Derived.Test.YtmljjpdodcpohaaGreatDoorMgBU
import Derived.Test.YtmljjpdodcpohaaGreatDoorMgAO
import Derived.Test.YtmljjpdodcpohaaGreatDoorMgBS
import Derived.Test.YtmljjpdodcpohaaGreatDoorMgBT
import Derived.Test.YtmljjpdodcpohaaGreatDoorMgAJ
import Derived.Test.YtmljjpdodcpohaaGreatDoorRows
import Derived.ProofKit
import Derived.LaidMore
import Derived.Stop.LaidErr
import Derived.Test.YtmljjpdodcpohaaGreatDoorMgAX
import Derived.Lib.LaidTab
namespace Go.Proofs.YtmljjpdodcpohaaGreatDoor.Lx
open Lib (hid)
set_option maxRecDepth 100000
set_option maxHeartbeats 4000000
open Go.RowKit Dk
theorem append_strOf (a b : List UInt8) : strOf a ++ strOf b = strOf (a ++ b) := by
  apply ByteArray.ext
  simp [strOf]
theorem sum_run (a b : List UInt8) (h : a.length + b.length ≤ 2 ^ 60) (W : World) : (Op.stringOp .add (strOf a) (strOf b)).run Tryz.prog W = .ok (.string (strOf (a ++ b))) W := by
  rw [run_string_add_sum (P := Tryz.prog) (w := W) (strOf a) (strOf b) (by rw [strOf_size, strOf_size]; omega), append_strOf]
theorem join_snoc : ∀ (xs : List (List UInt8)) (x : List UInt8), xs ≠ [] → joinL (xs ++ [x]) = joinL xs ++ [32] ++ x
  | [], _, h => absurd rfl h
  | [y], x, _ => by show y ++ 32 :: x = y ++ [32] ++ x; simp
  | y :: z :: r, x, _ => by
    have ih := join_snoc (z :: r) x (by simp); show y ++ 32 :: joinL ((z :: r) ++ [x]) = (y ++ 32 :: joinL (z :: r)) ++ [32] ++ x
    rw [ih]; simp
theorem join_len : ∀ (xs : List (List UInt8)), (∀ x ∈ xs, x.length ≤ 6002) → (joinL xs).length ≤ xs.length * 6003
  | [], _ => Nat.zero_le _
  | [y], h => by
    have := h y (by simp); show y.length ≤ 1 * 6003
    omega
  | y :: z :: r, h => by
    have ih := join_len (z :: r) (fun x hx => h x (by simp at hx ⊢; exact .inr hx))
    have := h y (by simp); show (y ++ 32 :: joinL (z :: r)).length ≤ _
    rw [List.length_append, List.length_cons, List.length_cons]; omega
theorem write_len (l : List Tk) (h : ∀ t ∈ l, t.text.length ≤ 3000) : (writeL l).length ≤ l.length * 6003 := by
  have := join_len (l.map written) (fun x hx => by
    obtain ⟨t, ht, rfl⟩ := List.mem_map.1 hx; have h5 := h t ht; unfold written; split
    · have := flat_len t.text
      rw [quoteL_length]; omega
    · omega)
  rwa [List.length_map] at this
theorem write_first {ts : List Tk} {t : Tk} (h : ts[0]? = some t) : writeL (ts.take 1) = written t := by
  cases ts with
  | nil => cases h
  | cons a r => cases h; rfl
theorem write_more {ts : List Tk} {i : Nat} {t : Tk} (h : ts[i]? = some t) (h0 : 0 < i) : writeL (ts.take (i + 1)) = writeL (ts.take i) ++ [32] ++ written t := by
  obtain ⟨hl, e⟩ := List.getElem?_eq_some_iff.1 h; unfold writeL; rw [List.take_succ_eq_append_getElem hl, e, List.map_append]; refine join_snoc _ _ (fun hn => ?_); have := congrArg List.length hn; rw [List.length_map, List.length_take, List.length_nil] at this; omega
theorem rtext_some (g o cp : Nat) (ts : List Tk) (w : World) (hx : w.rangeAt g o (tcells ts)) (hg : g < w.heap.size) (hl : ts.length ≤ 20000) (hw : ∀ t ∈ ts, t.text.length ≤ 3000) :
    Calls Tryz.prog 14 #[.slice (some ⟨g, o, none⟩) ts.length cp] w fun e w' => e = .returned (.string (strOf (writeL ts))) ∧ Below w.heap.size w w' := by
  have HX : Hid (∀ W, Below w.heap.size w W → W.rangeAt g o (tcells ts)) := hid (fun W hb => rangeAt_block hx (hb.block g hg)); have HWR := hid hw
  have HLB : Hid (∀ i, i ≤ ts.length → (writeL (ts.take i)).length ≤ 20000 * 6003) := hid (fun i hi => by
    have := write_len (ts.take i) (fun t ht => hw t (List.mem_of_mem_take ht)); rw [List.length_take] at this
    omega)
  obtain ⟨n, hn⟩ : ∃ n, n = ts.length := ⟨_, rfl⟩; rw [← hn] at hl ⊢; have HN := hid hn; clear hx hg hw hn; go_enter Tryz.func14, Tryz.ntmps14
  go_wp2; go_loopw [3, 4] (fun vs vi wr => ∃ (i : Nat) (P : List UInt8), i ≤ n ∧ vi = .int .i64 (i : Int) ∧ vs = .string (strOf P) ∧ Hid (P = writeL (ts.take i)) ∧ Hid (Below w.heap.size w wr)) (fun _ vi _ => n - (intOf vi).toNat)
  case atStart => exact ⟨0, [], Nat.zero_le _, rfl, rfl, hid (by simp [writeL, joinL]), hid (Below.refl _ _)⟩
  case round =>
    obtain ⟨i, P, hi, rfl, rfl, hP, hI⟩ := hrel; by_cases hlt : i < n
    · have z0 : (0 : Int) ≤ (i : Int) := by omega
      have z1 : (i : Int) < (n : Int) := by omega
      have hil : i < ts.length := by rw [← HN.out]; exact hlt
      obtain ⟨t, ht⟩ : ∃ t, t = ts[i] := ⟨_, rfl⟩; have HTT := hid (show ts[i]? = some t by rw [ht, List.getElem?_eq_getElem hil]); have htx := HWR.out t (by rw [ht]; exact List.getElem_mem hil)
      have cx : ∀ j (hj : j < 4) u, t.cells[j]? = some u → wr.cell? ⟨g, o + (i * 4 + j), none⟩ = some u := fun j hj u hu => HX.out wr hI.out (i * 4 + j) u (by rw [tcells_at hil j hj, ← ht]; exact hu)
      have a0 : wr.cell? ⟨g, o + i * 4, none⟩ = some (.int .i64 t.kind) := cx 0 (by decide) _ rfl; have a1 : wr.cell? ⟨g, o + i * 4 + 1, none⟩ = some (.string (strOf t.text)) := cx 1 (by decide) _ rfl; have hPl : P.length ≤ 20000 * 6003 := by rw [hP.out]; exact HLB.out i (by rw [← HN.out]; exact hi)
      have hwl : (written t).length ≤ 6002 := by
        have := write_len [t] (fun x hx => by rw [List.mem_singleton] at hx; rw [hx]; exact htx)
        have h2 : (writeL [t]).length = (written t).length := rfl; unfold written; split
        · have := flat_len t.text
          rw [quoteL_length]; omega
        · omega
      have p1 : ∀ W : World, (Op.stringOp .add (strOf P) ⟨#[32]⟩).run Tryz.prog W = .ok (.string (strOf (P ++ [32]))) W := fun W => sum_run P [32] (by simp; omega) W
      have p2 := fun W => sum_run (P ++ [32]) (written t) (by simp; omega) W
      have p3 := fun W => sum_run P (written t) (by omega) W
      have HQ := hid (fun W => rquote_any t.text W (by omega)); clear cx ht hil hPl hwl htx; have hne : i = 0 ∨ 0 < i := by omega
      rcases hne with h0 | h0
      · have hgt : ¬(i : Int) > 0 := by omega
        have HNX : Hid (P ++ written t = writeL (ts.take (i + 1))) := hid (by
          rw [hP.out]; subst h0; rw [write_first HTT.out]
          simp [writeL, joinL])
        clear h0 hP p1 p2; by_cases hk : t.kind = 3
        · have hwt : written t = quoteL t.text := by unfold written; rw [if_pos hk]
          have v1 : (t.kind == 3) = true := by simpa using hk
          rw [hwt] at p3 HNX; clear hk hwt; generalize t.kind = k at *; generalize quoteL t.text = qt at *; go_wp2_with (go_at_call 33; refine (HQ.out _).mono ?_; rintro e W5 ⟨rfl, hb5⟩; have HB5 := hid (chain2 hI.out hb5); clear hb5)
          go_roundw
          case rel => exact ⟨i + 1, P ++ qt, by omega, by go_num, rfl, HNX, HB5⟩
          case measure => simp [intOf]; omega
        · have hwt : written t = t.text := by unfold written; rw [if_neg hk]
          have v1 : (t.kind == 3) = false := by simpa using hk
          rw [hwt] at p3 HNX; clear hk hwt; generalize t.kind = k at *; generalize t.text = qt at *; go_wp2; go_roundw
          case rel => exact ⟨i + 1, P ++ qt, by omega, by go_num, rfl, HNX, hI⟩
          case measure => simp [intOf]; omega
      · have hgt : (i : Int) > 0 := by omega
        have HNX : Hid (P ++ [32] ++ written t = writeL (ts.take (i + 1))) := hid (by rw [hP.out, write_more HTT.out h0]); clear h0 hP p3; by_cases hk : t.kind = 3
        · have hwt : written t = quoteL t.text := by unfold written; rw [if_pos hk]
          have v1 : (t.kind == 3) = true := by simpa using hk
          rw [hwt] at p2 HNX; clear hk hwt; generalize t.kind = k at *; generalize quoteL t.text = qt at *; generalize P ++ [32] = P2 at *; go_wp2_with (go_at_call 33; refine (HQ.out _).mono ?_; rintro e W5 ⟨rfl, hb5⟩; have HB5 := hid (chain2 hI.out hb5); clear hb5)
          go_roundw
          case rel => exact ⟨i + 1, P2 ++ qt, by omega, by go_num, rfl, HNX, HB5⟩
          case measure => simp [intOf]; omega
        · have hwt : written t = t.text := by unfold written; rw [if_neg hk]
          have v1 : (t.kind == 3) = false := by simpa using hk
          rw [hwt] at p2 HNX; clear hk hwt; generalize t.kind = k at *; generalize t.text = qt at *; generalize P ++ [32] = P2 at *; go_wp2; go_roundw
          case rel => exact ⟨i + 1, P2 ++ qt, by omega, by go_num, rfl, HNX, hI⟩
          case measure => simp [intOf]; omega
    · obtain rfl : i = n := by omega
      have HF : Hid (P = writeL ts) := hid (by rw [hP.out, HN.out, List.take_of_length_le (Nat.le_refl _)]); clear hP; go_wp2; go_ret; exact ⟨by rw [HF.out]; rfl, hI.out⟩
theorem rtext_nil (p : Option Addr) (cp : Nat) (w : World) :
    Calls Tryz.prog 14 #[.slice p 0 cp] w fun e w' => e = .returned (.string (strOf (writeL []))) ∧ Below w.heap.size w w' := by
  go_enter Tryz.func14, Tryz.ntmps14
  go_wp2; go_loopw [3, 4] (fun vs vi wr => vs = .string ⟨#[]⟩ ∧ vi = .int .i64 0 ∧ wr = w) (fun _ _ _ => 0)
  case atStart => exact ⟨rfl, rfl, rfl⟩
  case round =>
    obtain ⟨rfl, rfl, rfl⟩ := hrel; go_wp2; go_ret; exact ⟨rfl, Below.refl _ _⟩
theorem rtext_any (v : Value) (ts : List Tk) (w : World) (hx : Toks w v ts) (hl : ts.length ≤ 20000) (hw : ∀ t ∈ ts, t.text.length ≤ 3000) :
    Calls Tryz.prog 14 #[v] w fun e w' => e = .returned (.string (strOf (writeL ts))) ∧ Below w.heap.size w w' := by
  obtain ⟨p, c, rfl, -, rfl | ⟨g, o, rfl, hg, hr⟩⟩ := hx
  · exact rtext_nil p c w
  · exact rtext_some g o c ts w hr hg hl hw
end Go.Proofs.YtmljjpdodcpohaaGreatDoor.Lx

namespace Go.Proofs.YtmljjpdodcpohaaGreatDoor.Sw
open Lib (hid)
set_option maxRecDepth 100000
set_option maxHeartbeats 4000000
open Go.RowKit Go.Shelf Dk Lx Tr Pa
theorem alikeP_refl (b : Bool) (x : List Tk) : AlikeP b x x := ⟨rfl, fun _ _ _ => ⟨rfl, rfl, rfl, fun _ => rfl⟩⟩
theorem toks_none (W : World) : Toks W (.slice none 0 0) [] := ⟨none, 0, rfl, Nat.le_refl _, .inl rfl⟩
theorem texts_short {l : List Nd} {o : List Tk} (h : Prn [.nd .mod] l o []) (hn : FitN l) (hl : l.length ≤ 2000) : ∀ t ∈ o, t.text.length ≤ 3000 := fun t ht => by
  have hg := (written_ok h hn hl).2.2.1 t ht; have := text_le t; omega
theorem showTexts_law (l : List Nd) (v : Value) (w : World) (hv : Nds w v l) (hn : FitN l) (HE : HasE w) (HT : HasT w) :
    Calls Tryz.prog 3 #[v] w fun e w' => e = .returned (.bool true) ∧ Below w.heap.size w w' := by
  have LT := hid (light_any l v w hv); have KN := hid (fun (W : World) (h : Below w.heap.size w W) => known11 W (HE.later h) (HT.later h)); by_cases hlt : LightOk l
  case neg =>
    have HL := hid hlt; clear hlt hv hn HE HT; go_enter Tryz.func3, Tryz.ntmps3
    go_wp2_with fail
    refine LT.out.mono ?_; rintro e w1 ⟨⟨b, rfl, hb⟩, rfl⟩; cases b with
    | true => exact absurd (hb rfl) HL.out
    | false =>
      clear hb LT; go_wp2_with (go_at_call 10; refine (KN.out _ (Below.refl _ _)).mono ?_; rintro e w2 ⟨rfl, hb2⟩)
      go_ret; exact ⟨rfl, hb2⟩
  obtain ⟨hl, hs⟩ := hlt; by_cases hc : (checkL l).1 = 0
  case neg =>
    have TA := hid (tokens_no l v w hv hs (by omega) hc); have TB := hid (fun (W : World) (h : Below w.heap.size w W) => rtokens_no l v W (hv.later h) hs (by omega) hc); have TX := hid (fun (W : World) (h : Below w.heap.size w W) => text_no l v W (hv.later h) hs (by omega) hc); have LX : Hid (∀ W : World, Calls Tryz.prog 14 #[.slice none 0 0] W fun e w' => e = .returned (.string ⟨#[]⟩) ∧ Below W.heap.size W w') := hid (fun W => rtext_nil none 0 W); have SM := hid (fun (W : World) => same_any true [] [] (.slice none 0 0) (.slice none 0 0) W (toks_none W) (toks_none W) (alikeP_refl true []) (by decide)); generalize checkL l = r at *; obtain ⟨k, a⟩ := r; replace hc : ¬ k = 0 := hc; clear hv hn HE HT hl hs; go_enter Tryz.func3, Tryz.ntmps3
    go_wp2_with fail
    refine LT.out.mono ?_; rintro e w1 ⟨⟨b, rfl, hb⟩, rfl⟩; clear hb LT; cases b with
    | true =>
      go_wp2_with (first
        | (go_at_call 11; refine TA.out.mono ?_; rintro e w2 ⟨rfl, hb2⟩)
        | (go_at_call 12; refine (TB.out _ hb2).mono ?_; rintro e w3 ⟨rfl, hb3⟩; have hb33 := chain2 hb2 hb3)
        | (go_at_call 13; refine (TX.out _ hb33).mono ?_; rintro e w4 ⟨rfl, hb4⟩; have hb44 := chain2 hb33 hb4)
        | (go_at_call 14; refine (LX.out _).mono ?_; rintro e w5 ⟨rfl, hb5⟩; have hb55 := chain2 hb44 hb5)
        | (go_at_call 15; refine (SM.out _).mono ?_; rintro e w6 ⟨rfl, hb6⟩; have hb66 := chain2 hb55 hb6)
        | (go_at_call 10; refine (KN.out _ hb66).mono ?_; rintro e w7 ⟨rfl, hb7⟩; have hb77 := chain2 hb66 hb7))
      go_ret; exact ⟨rfl, hb77⟩
    | false =>
      go_wp2_with (go_at_call 10; refine (KN.out _ (Below.refl _ _)).mono ?_; rintro e w2 ⟨rfl, hb2⟩)
      go_ret; exact ⟨rfl, hb2⟩
  obtain ⟨o, ho⟩ := prn_all hc; have hlen := (check_ok hc).1; have hol := (written_ok ho hn hlen).2.1; have TA := hid (tokens_yes l o v w hv hs hc ho hn HT); have TB := hid (fun (W : World) (h : Below w.heap.size w W) => rtokens_yes l o v W (hv.later h) hs (by omega) hc ho hn); have TX := hid (fun (W : World) (h : Below w.heap.size w W) => text_yes l o v W (hv.later h) hs hc ho hn (HT.later h)); have LX := hid (fun (u : Value) (W : World) (h : Toks W u o) => rtext_any u o W h (by omega) (texts_short ho hn hlen)); have SM := hid (fun (u u2 : Value) (W : World) (h : Toks W u o) (h2 : Toks W u2 o) => same_any true o o u u2 W h h2 (alikeP_refl true o) (by omega)); have hqs := strOf_size (writeL o); have hq2 : (strOf (writeL o)).size ≤ 2 ^ 40 := by rw [hqs]; have := (written_ok ho hn hlen).2.2.2; omega
  generalize hq : strOf (writeL o) = q at *; by_cases hz : (writeL o).length ≤ 8192
  case neg =>
    rw [if_neg hz] at TX; have hz' : (q.size : Int) > 8192 := by omega
    clear hv hn HE HT hl hs ho hz hc hlen hol hq hqs hq2; go_enter Tryz.func3, Tryz.ntmps3
    go_wp2_with fail
    refine LT.out.mono ?_; rintro e w1 ⟨⟨b, rfl, hb⟩, rfl⟩; clear hb LT; cases b with
    | true =>
      go_wp2_with (first
        | (go_at_call 11; refine TA.out.mono ?_; rintro e w2 ⟨ua, rfl, hua⟩; have hb2 := hua.below; have ha2 := hid hua.toks; clear hua)
        | (go_at_call 12; refine (TB.out _ hb2).mono ?_; rintro e w3 ⟨ub, rfl, hub⟩; have hb33 := chain2 hb2 hub.below; have ha3 := hid (ha2.out.later hub.below); have hc3 := hid hub.toks; clear hub)
        | (go_at_call 13; refine (TX.out _ hb33).mono ?_; rintro e w4 ⟨rfl, hb4⟩; have hb44 := chain2 hb33 hb4; have ha4 := hid (ha3.out.later hb4); have hc4 := hid (hc3.out.later hb4))
        | (go_at_call 14; refine (LX.out _ _ hc4.out).mono ?_; rintro e w5 ⟨rfl, hb5⟩; have hb55 := chain2 hb44 hb5; have ha5 := hid (ha4.out.later hb5); have hc5 := hid (hc4.out.later hb5))
        | (go_at_call 15; refine (SM.out _ _ _ ha5.out hc5.out).mono ?_; rintro e w6 ⟨rfl, hb6⟩; have hb66 := chain2 hb55 hb6)
        | (go_at_call 10; refine (KN.out _ hb66).mono ?_; rintro e w7 ⟨rfl, hb7⟩; have hb77 := chain2 hb66 hb7))
      go_ret; exact ⟨rfl, hb77⟩
    | false =>
      go_wp2_with (go_at_call 10; refine (KN.out _ (Below.refl _ _)).mono ?_; rintro e w2 ⟨rfl, hb2⟩)
      go_ret; exact ⟨rfl, hb2⟩
  rw [if_pos hz] at TX; have hz' : ¬(q.size : Int) > 8192 := by omega
  clear hv hn HE HT hl hs ho hz hc hlen hol hq hqs hq2; go_enter Tryz.func3, Tryz.ntmps3
  go_wp2_with fail
  refine LT.out.mono ?_; rintro e w1 ⟨⟨b, rfl, hb⟩, rfl⟩; clear hb LT; cases b with
  | true =>
    go_wp2_with (first
      | (go_at_call 11; refine TA.out.mono ?_; rintro e w2 ⟨ua, rfl, hua⟩; have hb2 := hua.below; have ha2 := hid hua.toks; clear hua)
      | (go_at_call 12; refine (TB.out _ hb2).mono ?_; rintro e w3 ⟨ub, rfl, hub⟩; have hb33 := chain2 hb2 hub.below; have ha3 := hid (ha2.out.later hub.below); have hc3 := hid hub.toks; clear hub)
      | (go_at_call 13; refine (TX.out _ hb33).mono ?_; rintro e w4 ⟨rfl, hb4⟩; have hb44 := chain2 hb33 hb4; have ha4 := hid (ha3.out.later hb4); have hc4 := hid (hc3.out.later hb4))
      | (go_at_call 14; refine (LX.out _ _ hc4.out).mono ?_; rintro e w5 ⟨rfl, hb5⟩; have hb55 := chain2 hb44 hb5; have ha5 := hid (ha4.out.later hb5); have hc5 := hid (hc4.out.later hb5))
      | (go_at_call 15; refine (SM.out _ _ _ ha5.out hc5.out).mono ?_; rintro e w6 ⟨rfl, hb6⟩; have hb66 := chain2 hb55 hb6)
      | (go_at_call 10; refine (KN.out _ hb66).mono ?_; rintro e w7 ⟨rfl, hb7⟩; have hb77 := chain2 hb66 hb7))
    go_ret; exact ⟨rfl, hb77⟩
  | false =>
    go_wp2_with (go_at_call 10; refine (KN.out _ (Below.refl _ _)).mono ?_; rintro e w2 ⟨rfl, hb2⟩)
    go_ret; exact ⟨rfl, hb2⟩
open Go.ChangeShapes Go.WideShapes Go.Deep in
theorem showTexts_wide {H : Type} {enc : TypeId × Value → H} {w : World} {b0 : Nat} {v : Value} {d : DataW H} {p : List MemPlace}
    (hv : Value.okWide Tryz.prog w .any b0 22 v) (h : DataW.Trod enc Tryz.prog w 0 (fun _ => true) true 22 v d p) (HK : HasE w ∧ HasT w) :
    Calls Tryz.prog 3 #[v] w fun e w' => e = .returned (.bool true) ∧ Below w.heap.size w w' := by
  obtain ⟨ts, hT, hI⟩ := open_ndsN hv h; exact showTexts_law ts v w hT hI HK.1 HK.2
end Go.Proofs.YtmljjpdodcpohaaGreatDoor.Sw

namespace Go.Proofs.YtmljjpdodcpohaaGreatDoor.Lx
open Go.RowKit
abbrev laidE : List (String × DataW Unit) := Rows.showTextsRow.laid
theorem door_met (os : Os) (args : Array Value) : laidMetH Tryz.prog laidE ((World.doorLaid Tryz.prog 62 os).forCall (fun _ _ => 0) ⟨#[], args, []⟩).memory :=
  laidMetH_of_parts3 (fuel := 8) (laidMet_of_run' 8 (by kernel_rfl) (by kernel_rfl)) (by kernel_rfl) (by kernel_rfl)
theorem hasE_of_laid {W : World} (h : laidMetH Tryz.prog laidE W) : HasE W := by
  rw [MakeChecks.laidMetH_plain _ _ _ (by kernel_rfl)] at h; have h3 := h.tail.tail.tail; have hg : Tryz.prog.globalNamed "strconv.ErrRange" = some 3 := by kernel_rfl
  have hs : ("*" ++ "errors.errorString" : String) = "*errors.errorString" := by decide
  obtain ⟨a0, s0, hv0, -, -, -⟩ := laid_sentinel h3 hg (by kernel_rfl) Tryz.underlying150
    (fun u hu => typeName_ptr_named (nm := "errors.errorString") (tp := 236) (by rw [hs]; kernel_rfl) (by kernel_rfl) (by decide) u (by rw [hs]; exact hu))
    Tryz.underlying236 Tryz.underlying238 rfl rfl Tryz.underlying9 (by kernel_rfl) (by kernel_rfl)
  refine ⟨_, _, _, hg, ?_, hv0⟩; have h0 := World.var?_cell hg hv0 0; rcases Nat.lt_or_ge 3 W.heap.size with h1 | h1
  · exact h1
  · have : W.heap[3]? = none := Array.getElem?_eq_none h1
    simp [World.cell?, this] at h0
end Go.Proofs.YtmljjpdodcpohaaGreatDoor.Lx

namespace Go.Proofs.YtmljjpdodcpohaaGreatDoor.Sw
open Go.RowKit Lx
theorem hasT_of_laid {W : World} (h : laidMetH Tryz.prog laidE W) : HasT W := by
  rw [MakeChecks.laidMetH_plain _ _ _ (by kernel_rfl)] at h; have h2 := h.tail.tail; have hg : Tryz.prog.globalNamed "internal/strconv.uint64pow10" = some 0 := by kernel_rfl
  have hT : Lib.TabIs Tryz.prog W "internal/strconv.uint64pow10" .u64 Lib.pow10Tab := Lib.tabIs_of_head (n := 20) (e := 192) (t := 213) hg (by kernel_rfl) Tryz.underlying213 Tryz.underlying192 (by kernel_rfl) (by kernel_rfl) h2; refine ⟨hT, _, hg, ?_⟩; have h0 := hT.cell hg 0 (by decide); rcases Nat.lt_or_ge 0 W.heap.size with h1 | h1
  · exact h1
  · have : W.heap[0]? = none := Array.getElem?_eq_none h1
    simp [World.cell?, this] at h0
theorem hasB_of_laid {W : World} (h : laidMetH Tryz.prog laidE W) : HasE W ∧ HasT W := ⟨hasE_of_laid h, hasT_of_laid h⟩
end Go.Proofs.YtmljjpdodcpohaaGreatDoor.Sw

