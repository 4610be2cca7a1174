/- The walk of chrysalisref08.Text: its contract. No condition but those that each states. -/
import Derived.Test.YtcfmjnhagpmnpaaDoorLxRI
import Derived.Test.YtcfmjnhagpmnpaaDoorLxU
import Derived.Test.YtcfmjnhagpmnpaaDoorLxQuW
namespace Go.Proofs.YtcfmjnhagpmnpaaDoor.Lx
open Go.RowKit Dk

theorem sum_run (a b : List UInt8) (h : a.length + b.length ≤ 2 ^ 60) (W : World) : (Op.stringOp .add (strOf a) (strOf b)).run Tryd.prog W = .ok (.string (strOf (a ++ b))) W := by
  rw [run_string_add_sum (P := Tryd.prog) (w := W) (strOf a) (strOf b) (by rw [strOf_size, strOf_size]; omega), append_strOf]

theorem join_snoc : ∀ (xs : List (List UInt8)) (x : List UInt8), xs ≠ [] → joinL (xs ++ [x]) = joinL xs ++ [32] ++ x
  | [], _, h => absurd rfl h
  | [y], x, _ => by show y ++ 32 :: x = y ++ [32] ++ x; simp
  | y :: z :: r, x, _ => by
    have ih := join_snoc (z :: r) x (by simp)
    show y ++ 32 :: joinL ((z :: r) ++ [x]) = (y ++ 32 :: joinL (z :: r)) ++ [32] ++ x
    rw [ih]; simp
theorem join_len : ∀ (xs : List (List UInt8)), (∀ x ∈ xs, x.length ≤ 1002) → (joinL xs).length ≤ xs.length * 1003
  | [], _ => Nat.zero_le _
  | [y], h => by
    have := h y (by simp)
    show y.length ≤ 1 * 1003
    omega
  | y :: z :: r, h => by
    have ih := join_len (z :: r) (fun x hx => h x (by simp at hx ⊢; exact .inr hx))
    have := h y (by simp)
    show (y ++ 32 :: joinL (z :: r)).length ≤ _
    rw [List.length_append, List.length_cons, List.length_cons]
    omega
theorem write_len (l : List Tk) (h : ∀ t ∈ l, t.text.length ≤ 500) : (writeL l).length ≤ l.length * 1003 := by
  have := join_len (l.map written) (fun x hx => by
    obtain ⟨t, ht, rfl⟩ := List.mem_map.1 hx
    have h5 := h t ht
    unfold written
    split
    · have := flat_len t.text
      rw [quoteL_length]; omega
    · omega)
  rwa [List.length_map] at this
theorem write_first {ts : List Tk} {t : Tk} (h : ts[0]? = some t) : writeL (ts.take 1) = written t := by
  cases ts with
  | nil => cases h
  | cons a r => cases h; rfl
theorem write_more {ts : List Tk} {i : Nat} {t : Tk} (h : ts[i]? = some t) (h0 : 0 < i) : writeL (ts.take (i + 1)) = writeL (ts.take i) ++ [32] ++ written t := by
  obtain ⟨hl, e⟩ := List.getElem?_eq_some_iff.1 h
  unfold writeL
  rw [List.take_succ_eq_append_getElem hl, e, List.map_append]
  refine join_snoc _ _ (fun hn => ?_)
  have := congrArg List.length hn
  rw [List.length_map, List.length_take, List.length_nil] at this
  omega

set_option maxHeartbeats 4000000 in
set_option maxRecDepth 100000 in
theorem rtext_some (g o cp : Nat) (ts : List Tk) (w : World) (hx : w.rangeAt g o (tcells ts)) (hg : g < w.heap.size) (hl : ts.length ≤ 300) (hw : ∀ t ∈ ts, t.text.length ≤ 500) :
    Calls Tryd.prog 15 #[.slice (some ⟨g, o, none⟩) ts.length cp] w fun e w' => e = .returned (.string (strOf (writeL ts))) ∧ Below w.heap.size w w' := by
  have HX : Hid (∀ W, Below w.heap.size w W → W.rangeAt g o (tcells ts)) := Lib.hid (fun W hb => rangeAt_block hx (hb.block g hg))
  have HWR := Lib.hid hw
  have HLB : Hid (∀ i, i ≤ ts.length → (writeL (ts.take i)).length ≤ 300 * 1003) := Lib.hid (fun i hi => by
    have := write_len (ts.take i) (fun t ht => hw t (List.mem_of_mem_take ht))
    rw [List.length_take] at this
    omega)
  obtain ⟨n, hn⟩ : ∃ n, n = ts.length := ⟨_, rfl⟩
  rw [← hn] at hl ⊢
  have HN := Lib.hid hn
  clear hx hg hw hn
  go_enter Tryd.func15, Tryd.ntmps15
  go_wp2
  go_loopw [3, 4] (fun vs vi wr => ∃ (i : Nat) (P : List UInt8), i ≤ n ∧ vi = .int .i64 (i : Int) ∧ vs = .string (strOf P) ∧ Hid (P = writeL (ts.take i)) ∧ Hid (Below w.heap.size w wr)) (fun _ vi _ => n - (intOf vi).toNat)
  case atStart => exact ⟨0, [], Nat.zero_le _, rfl, rfl, Lib.hid (by simp [writeL, joinL]), Lib.hid (Below.refl _ _)⟩
  case round =>
    obtain ⟨i, P, hi, rfl, rfl, hP, hI⟩ := hrel
    by_cases hlt : i < n
    · have z0 : (0 : Int) ≤ (i : Int) := by omega
      have z1 : (i : Int) < (n : Int) := by omega
      have hil : i < ts.length := by rw [← HN.out]; exact hlt
      obtain ⟨t, ht⟩ : ∃ t, t = ts[i] := ⟨_, rfl⟩
      have HTT := Lib.hid (show ts[i]? = some t by rw [ht, List.getElem?_eq_getElem hil])
      have htx := HWR.out t (by rw [ht]; exact List.getElem_mem hil)
      have cx : ∀ j (hj : j < 4) u, t.cells[j]? = some u → wr.cell? ⟨g, o + (i * 4 + j), none⟩ = some u := fun j hj u hu => HX.out wr hI.out (i * 4 + j) u (by rw [tcells_at hil j hj, ← ht]; exact hu)
      have a0 : wr.cell? ⟨g, o + i * 4, none⟩ = some (.int .i64 t.kind) := cx 0 (by decide) _ rfl
      have a1 : wr.cell? ⟨g, o + i * 4 + 1, none⟩ = some (.string (strOf t.text)) := cx 1 (by decide) _ rfl
      have hPl : P.length ≤ 300 * 1003 := by rw [hP.out]; exact HLB.out i (by rw [← HN.out]; exact hi)
      have hwl : (written t).length ≤ 1002 := by
        have := write_len [t] (fun x hx => by rw [List.mem_singleton] at hx; rw [hx]; exact htx)
        have h2 : (writeL [t]).length = (written t).length := rfl
        unfold written
        split
        · have := flat_len t.text
          rw [quoteL_length]; omega
        · omega
      have p1 : ∀ W : World, (Op.stringOp .add (strOf P) ⟨#[32]⟩).run Tryd.prog W = .ok (.string (strOf (P ++ [32]))) W := fun W => sum_run P [32] (by simp; omega) W
      have p2 := fun W => sum_run (P ++ [32]) (written t) (by simp; omega) W
      have p3 := fun W => sum_run P (written t) (by omega) W
      have HQ := Lib.hid (fun W => rquote_any t.text W (by omega))
      clear cx ht hil hPl hwl htx
      have hne : i = 0 ∨ 0 < i := by omega
      rcases hne with h0 | h0
      · have hgt : ¬(i : Int) > 0 := by omega
        have HNX : Hid (P ++ written t = writeL (ts.take (i + 1))) := Lib.hid (by
          rw [hP.out]
          subst h0
          rw [write_first HTT.out]
          simp [writeL, joinL])
        clear h0 hP p1 p2
        by_cases hk : t.kind = 3
        · have hwt : written t = quoteL t.text := by unfold written; rw [if_pos hk]
          have v1 : (t.kind == 3) = true := by simpa using hk
          rw [hwt] at p3 HNX
          clear hk hwt
          generalize t.kind = k at *
          generalize quoteL t.text = qt at *
          go_wp2_with (go_at_call 17; refine (HQ.out _).mono ?_; rintro e W5 ⟨rfl, hb5⟩; have HB5 := Lib.hid (chain2 hI.out hb5); clear hb5)
          go_roundw
          case rel => exact ⟨i + 1, P ++ qt, by omega, by go_num, rfl, HNX, HB5⟩
          case measure => simp [intOf]; omega
        · have hwt : written t = t.text := by unfold written; rw [if_neg hk]
          have v1 : (t.kind == 3) = false := by simpa using hk
          rw [hwt] at p3 HNX
          clear hk hwt
          generalize t.kind = k at *
          generalize t.text = qt at *
          go_wp2
          go_roundw
          case rel => exact ⟨i + 1, P ++ qt, by omega, by go_num, rfl, HNX, hI⟩
          case measure => simp [intOf]; omega
      · have hgt : (i : Int) > 0 := by omega
        have HNX : Hid (P ++ [32] ++ written t = writeL (ts.take (i + 1))) := Lib.hid (by rw [hP.out, write_more HTT.out h0])
        clear h0 hP p3
        by_cases hk : t.kind = 3
        · have hwt : written t = quoteL t.text := by unfold written; rw [if_pos hk]
          have v1 : (t.kind == 3) = true := by simpa using hk
          rw [hwt] at p2 HNX
          clear hk hwt
          generalize t.kind = k at *
          generalize quoteL t.text = qt at *
          generalize P ++ [32] = P2 at *
          go_wp2_with (go_at_call 17; refine (HQ.out _).mono ?_; rintro e W5 ⟨rfl, hb5⟩; have HB5 := Lib.hid (chain2 hI.out hb5); clear hb5)
          go_roundw
          case rel => exact ⟨i + 1, P2 ++ qt, by omega, by go_num, rfl, HNX, HB5⟩
          case measure => simp [intOf]; omega
        · have hwt : written t = t.text := by unfold written; rw [if_neg hk]
          have v1 : (t.kind == 3) = false := by simpa using hk
          rw [hwt] at p2 HNX
          clear hk hwt
          generalize t.kind = k at *
          generalize t.text = qt at *
          generalize P ++ [32] = P2 at *
          go_wp2
          go_roundw
          case rel => exact ⟨i + 1, P2 ++ qt, by omega, by go_num, rfl, HNX, hI⟩
          case measure => simp [intOf]; omega
    · obtain rfl : i = n := by omega
      have HF : Hid (P = writeL ts) := Lib.hid (by rw [hP.out, HN.out, List.take_of_length_le (Nat.le_refl _)])
      clear hP
      go_wp2
      go_ret
      exact ⟨by rw [HF.out]; rfl, hI.out⟩

set_option maxHeartbeats 400000 in
theorem rtext_nil (p : Option Addr) (cp : Nat) (w : World) :
    Calls Tryd.prog 15 #[.slice p 0 cp] w fun e w' => e = .returned (.string (strOf (writeL []))) ∧ Below w.heap.size w w' := by
  go_enter Tryd.func15, Tryd.ntmps15
  go_wp2
  go_loopw [3, 4] (fun vs vi wr => vs = .string ⟨#[]⟩ ∧ vi = .int .i64 0 ∧ wr = w) (fun _ _ _ => 0)
  case atStart => exact ⟨rfl, rfl, rfl⟩
  case round =>
    obtain ⟨rfl, rfl, rfl⟩ := hrel
    go_wp2
    go_ret
    exact ⟨rfl, Below.refl _ _⟩

theorem rtext_any (v : Value) (ts : List Tk) (w : World) (hx : Toks w v ts) (hl : ts.length ≤ 300) (hw : ∀ t ∈ ts, t.text.length ≤ 500) :
    Calls Tryd.prog 15 #[v] w fun e w' => e = .returned (.string (strOf (writeL ts))) ∧ Below w.heap.size w w' := by
  obtain ⟨p, c, rfl, -, rfl | ⟨g, o, rfl, hg, hr⟩⟩ := hx
  · exact rtext_nil p c w
  · exact rtext_some g o c ts w hr hg hl hw

end Go.Proofs.YtcfmjnhagpmnpaaDoor.Lx
