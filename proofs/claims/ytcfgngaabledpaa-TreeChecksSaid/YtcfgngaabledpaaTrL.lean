/- The walks of the document's Light and of chrysalislaw09.ints; TreeKinds: the walk of the law. No condition but those that each states. -/
import Derived.Test.YtcfgngaabledpaaTrN
namespace Go.Proofs.Ytcfgngaabledpaa.Tr
open Go.RowKit Dk Lx

/-- Nodes are few enough to be gone through. -/
def LightOk (ts : List Nd) : Prop := ts.length ≤ 2100 ∧ Short ts

/-- What Light answers. -/
def LtOk (ts : List Nd) (e : Ending) : Prop := ∃ b, e = .returned (.bool b) ∧ (b = true → LightOk ts)

set_option maxHeartbeats 1000000 in
theorem light_any (ts : List Nd) (v : Value) (w : World) (h : Nds w v ts) :
    Calls Try.prog 9 #[v] w fun e w' => LtOk ts e ∧ w = w' := by
  obtain ⟨p, c, rfl, -⟩ := id h
  have HNd := Lib.hid h
  obtain ⟨n, hn⟩ : ∃ n, n = ts.length := ⟨_, rfl⟩
  rw [← hn] at HNd ⊢
  have HN := Lib.hid hn
  clear h hn
  by_cases g1 : n ≤ 2100
  · have v1 : ¬(n : Int) > 2100 := by omega
    go_enter Try.func9, Try.ntmps9
    go_wp2
    go_loopw [3] (fun vi wr => ∃ i : Nat, i ≤ n ∧ vi = .int .i64 (i : Int) ∧ wr = w ∧ Hid (∀ j (h : j < ts.length), j < i → ts[j].name.length ≤ 2000 ∧ ts[j].text.length ≤ 2000)) (fun vi _ => n - (intOf vi).toNat)
    case atStart => exact ⟨0, Nat.zero_le _, rfl, rfl, Lib.hid (fun j _ h => absurd h (Nat.not_lt_zero j))⟩
    case round =>
      obtain ⟨i, hi, rfl, rfl, hS⟩ := hrel
      by_cases hlt : i < n
      · have hil : i < ts.length := by rw [← HN.out]; exact hlt
        obtain ⟨g, o, rfl, -, -, -, c2, -, c4, -⟩ := HNd.out.node i hil
        have z0 : (0 : Int) ≤ (i : Int) := by omega
        have z1 : (i : Int) < (n : Int) := by omega
        have s1 := strOf_size ts[i].name
        have s2 := strOf_size ts[i].text
        have HA : Hid (ts[i].name.length ≤ 2000 → ts[i].text.length ≤ 2000 → ∀ j (h : j < ts.length), j < i + 1 → ts[j].name.length ≤ 2000 ∧ ts[j].text.length ≤ 2000) := Lib.hid (fun h1 h2 j h hj => by
          by_cases hji : j = i
          · subst hji; exact ⟨h1, h2⟩
          · exact hS.out j h (by omega))
        generalize ts[i].name.length = l1 at *
        generalize ts[i].text.length = l2 at *
        generalize strOf ts[i].name = q1 at *
        generalize strOf ts[i].text = q2 at *
        by_cases k1 : l1 ≤ 2000
        · have v2 : ¬(q1.size : Int) > 2000 := by omega
          by_cases k2 : l2 ≤ 2000
          · have v3 : ¬(q2.size : Int) > 2000 := by omega
            have HS := Lib.hid (HA.out k1 k2)
            clear s1 s2 k1 k2 hS hil
            go_wp2
            go_roundw
            case rel => exact ⟨i + 1, by omega, by go_num, by trivial, HS⟩
            case measure => simp [intOf]; omega
          · have v3 : (q2.size : Int) > 2000 := by omega
            clear s1 s2 k1 k2 hS hil
            go_wp2
            go_ret
            exact ⟨⟨_, rfl, (fun h => by cases h)⟩, rfl⟩
        · have v2 : (q1.size : Int) > 2000 := by omega
          clear s1 s2 k1 hS hil
          go_wp2
          go_ret
          exact ⟨⟨_, rfl, (fun h => by cases h)⟩, rfl⟩
      · obtain rfl : i = n := by omega
        have HL : Hid (LightOk ts) := Lib.hid ⟨by rw [← HN.out]; exact g1, fun x hx => by
          obtain ⟨j, hj, rfl⟩ := List.getElem_of_mem hx
          exact hS.out j hj (by rw [HN.out]; exact hj)⟩
        clear hS
        go_wp2
        go_ret
        exact ⟨⟨_, rfl, fun _ => HL.out⟩, rfl⟩
  · have v1 : (n : Int) > 2100 := by omega
    go_enter Try.func9, Try.ntmps9
    go_wp2
    go_ret
    exact ⟨⟨_, rfl, (fun h => by cases h)⟩, rfl⟩

set_option maxHeartbeats 1000000 in
theorem ints_any (a : List Int) (v u : Value) (w : World) (ha : Ins w v a) (hb : Ins w u a) (hl : a.length ≤ 4000) :
    Calls Try.prog 16 #[v, u] w fun e w' => e = .returned (.bool true) ∧ Below w.heap.size w w' := by
  obtain ⟨p, c, rfl, -⟩ := id ha
  obtain ⟨q, d, rfl, -⟩ := id hb
  have HA := Lib.hid ha
  have HB := Lib.hid hb
  obtain ⟨n, hn⟩ : ∃ n, n = a.length := ⟨_, rfl⟩
  rw [← hn] at HA HB hl ⊢
  have HN := Lib.hid hn
  have v0 : ((n : Int) == (n : Int)) = true := by simp
  have v1 : ((n : Int) != (n : Int)) = false := by simp
  clear ha hb hn
  go_enter Try.func16, Try.ntmps16
  go_wp2
  go_loopw [5] (fun vi wr => ∃ i : Nat, i ≤ n ∧ vi = .int .i64 (i : Int) ∧ Hid (Below w.heap.size w wr)) (fun vi _ => n - (intOf vi).toNat)
  case atStart => exact ⟨0, Nat.zero_le _, rfl, Lib.hid (Below.refl _ _)⟩
  case round =>
    obtain ⟨i, hi, rfl, hB⟩ := hrel
    by_cases hlt : i < n
    · have h1 : i < a.length := by rw [← HN.out]; exact hlt
      obtain ⟨W1, hW1⟩ : ∃ W1, wr.drew = W1 := ⟨_, rfl⟩
      have HW1 := Lib.hid hW1
      have HD : Hid (Below w.heap.size w W1) := Lib.hid (by rw [← hW1]; exact hB.out.drew)
      clear hW1 hB
      obtain ⟨g1, o1, rfl, -, c1⟩ := (HA.out.later HD.out).int i h1
      obtain ⟨g2, o2, rfl, -, c2⟩ := (HB.out.later HD.out).int i h1
      have z0 : (0 : Int) ≤ (i : Int) := by omega
      have z1 : (i : Int) < (n : Int) := by omega
      generalize a[i] = x at *
      have v2 : (x == x) = true := by simp
      have v3 : (x != x) = false := by simp
      clear h1
      go_wp2_with fail
      refine region_still (by kernel_rfl) (by kernel_rfl) W1 HW1.out ?_
      repeat still_step
      refine wpStill_nil ?_
      clear HW1 c1 c2
      go_wp2
      go_roundw
      case rel => exact ⟨i + 1, by omega, by go_num, HD⟩
      case measure => simp [intOf]; omega
    · obtain rfl : i = n := by omega
      go_wp2
      go_ret
      exact ⟨rfl, hB.out⟩

set_option maxHeartbeats 2000000 in
set_option maxRecDepth 100000 in
theorem kinds_main (k : Int) (a b : List Nd) (v u : Value) (w : World) (ha : Nds w v a) (hb : Nds w u b) :
    Calls Try.prog 5 #[.int .i64 k, v, u] w fun e w' => e = .returned (.bool true) ∧ Below w.heap.size w w' := by
  have HA := Lib.hid ha
  have HB := Lib.hid hb
  have L1 := Lib.hid (light_any a v w ha)
  have L2 := Lib.hid (light_any b u w hb)
  have KN := Lib.hid (fun W => known9 W)
  have E1 := Lib.hid (fun W => expr_any k W)
  have E2 := Lib.hid (fun W => rexpr_any k W)
  have S1 := Lib.hid (fun W => stmt_any k W)
  have S2 := Lib.hid (fun W => rstmt_any k W)
  have e1 : (isExpr k == isExpr k) = true := by simp
  have e2 : (isStmt k == isStmt k) = true := by simp
  generalize isExpr k = be at *
  generalize isStmt k = bs at *
  clear ha hb
  go_enter Try.func5, Try.ntmps5
  go_wp2_with fail
  refine L1.out.mono ?_
  rintro e w1 ⟨⟨b1, rfl, h1⟩, rfl⟩
  cases b1 with
  | false =>
    clear h1 L1 L2
    go_wp2_with fail
    refine (KN.out _).mono ?_
    rintro e w3 ⟨rfl, hb3⟩
    have HB3 := Lib.hid hb3
    clear hb3
    go_wp2
    go_ret
    exact ⟨rfl, HB3.out⟩
  | true =>
    have H1 := Lib.hid (h1 rfl)
    clear h1
    go_wp2_with fail
    refine L2.out.mono ?_
    rintro e w1 ⟨⟨b2, rfl, h2⟩, rfl⟩
    cases b2 with
    | false =>
      clear h2 L1 L2
      go_wp2_with fail
      refine (KN.out _).mono ?_
      rintro e w3 ⟨rfl, hb3⟩
      have HB3 := Lib.hid hb3
      clear hb3
      go_wp2
      go_ret
      exact ⟨rfl, HB3.out⟩
    | true =>
      have H2 := Lib.hid (h2 rfl)
      have s1 := H1.out.1
      have s2 := H2.out.1
      clear h2 L1 L2
      have M1 := Lib.hid (same_any a b v u w HA.out HB.out (by omega) (by omega))
      have M2 := Lib.hid (fun W hb => rsame_any a b v u W (HA.out.later hb) (HB.out.later hb) (by omega) (by omega))
      have M3 := Lib.hid (fun W hb => same_any a a v v W (HA.out.later hb) (HA.out.later hb) (by omega) (by omega))
      rw [decide_eq_true rfl] at M3
      have e3 : (decide (a = b) == decide (a = b)) = true := by simp
      generalize decide (a = b) = bm at *
      clear s1 s2
      go_wp2_with fail
      refine (E1.out _).mono ?_
      rintro e w' ⟨rfl, rfl⟩
      go_wp2_with fail
      refine (E2.out _).mono ?_
      rintro e w' ⟨rfl, rfl⟩
      go_wp2_with fail
      refine (S1.out _).mono ?_
      rintro e w' ⟨rfl, rfl⟩
      go_wp2_with fail
      refine (S2.out _).mono ?_
      rintro e w' ⟨rfl, rfl⟩
      go_wp2_with fail
      refine M1.out.mono ?_
      rintro e w3 ⟨rfl, hb3⟩
      have HB3 := Lib.hid hb3
      clear hb3
      go_wp2_with fail
      refine (M2.out _ HB3.out).mono ?_
      rintro e w4 ⟨rfl, hb4⟩
      have HB4 := Lib.hid (chain2 HB3.out hb4)
      clear hb4
      go_wp2_with fail
      refine (M3.out _ HB4.out).mono ?_
      rintro e w5 ⟨rfl, hb5⟩
      have HB5 := Lib.hid (chain2 HB4.out hb5)
      clear hb5
      go_wp2_with fail
      refine (KN.out _).mono ?_
      rintro e w6 ⟨rfl, hb6⟩
      have HB6 := Lib.hid (chain2 HB5.out hb6)
      clear hb6
      go_wp2
      go_ret
      exact ⟨rfl, HB6.out⟩

theorem treeKinds_law {H : Type} {enc : TypeId × Value → H} {w : World} {b0 b1 : Nat} {v u : Value} {d d2 : DataW H} {p p2 : List MemPlace} (k : Int) (_wk : (Lit.int .i64 k).wf = true)
    (hv : Value.okWide Try.prog w .any b0 22 v) (h : DataW.Trod enc Try.prog w 0 (fun _ => true) true 22 v d p)
    (hu : Value.okWide Try.prog w .any b1 22 u) (h2 : DataW.Trod enc Try.prog w 0 (fun _ => true) true 22 u d2 p2) :
    Calls Try.prog 5 #[.int .i64 k, v, u] w fun e w' => e = .returned (.bool true) ∧ Below w.heap.size w w' := by
  obtain ⟨a, ha⟩ := open_nds hv h
  obtain ⟨b, hb⟩ := open_nds hu h2
  exact kinds_main k a b v u w ha hb

end Go.Proofs.Ytcfgngaabledpaa.Tr
