/- The walk of chrysalisref08.number: its contract. No condition but those that each states. -/
import Derived.Test.YtcfmjnhagpmnpaaDoorLxRB
namespace Go.Proofs.YtcfmjnhagpmnpaaDoor.Lx
open Go.RowKit Dk

def num1 (a : Nat) (c : UInt8) : Nat := a * 10 + (c.toNat - 48)
theorem numV_take (T : List UInt8) (i : Nat) (h : i < T.length) : numV (T.take (i + 1)) = numV (T.take i) * 10 + (T[i].toNat - 48) := by
  unfold numV
  rw [List.take_succ_eq_append_getElem h, List.foldl_append]
  rfl
theorem dig {c : UInt8} (h : isD c = true) : 48 ≤ c.toNat ∧ c.toNat ≤ 57 := by unfold isD rD at h; simp at h; omega
theorem fold_lt : ∀ (l : List UInt8) (a k : Nat), (∀ c ∈ l, isD c = true) → a < 10 ^ k → l.foldl (fun a c => a * 10 + (c.toNat - 48)) a < 10 ^ (k + l.length)
  | [], _, _, _, h => h
  | c :: r, a, k, hd, h => by
    have hc := dig (hd c (by simp))
    rw [List.foldl_cons, List.length_cons, show k + (r.length + 1) = (k + 1) + r.length by omega]
    refine fold_lt r _ (k + 1) (fun x hx => hd x (by simp [hx])) ?_
    rw [Nat.pow_succ]
    omega
theorem fold_ge : ∀ (l : List UInt8) (a : Nat), a * 10 ^ l.length ≤ l.foldl (fun a c => a * 10 + (c.toNat - 48)) a
  | [], a => by simp
  | c :: r, a => by
    have := fold_ge r (a * 10 + (c.toNat - 48))
    rw [List.foldl_cons, List.length_cons, Nat.pow_succ]
    refine Nat.le_trans ?_ this
    rw [show a * (10 ^ r.length * 10) = (a * 10) * 10 ^ r.length by rw [Nat.mul_comm (10 ^ r.length), Nat.mul_assoc]]
    exact Nat.mul_le_mul_right _ (by omega)

theorem numL_long {T : List UInt8} (hd : ∀ c ∈ T, isD c = true) (hl : 19 < T.length) : numL T = none := by
  unfold numL
  cases T with
  | nil => simp at hl
  | cons c r =>
    by_cases h0 : c = 48
    · rw [if_pos ⟨by omega, by rw [h0]; rfl⟩]
    · rw [if_neg (by rintro ⟨_, h⟩; exact h0 (Option.some.inj h)), if_neg]
      have hc := dig (hd c (by simp))
      have hc2 : c.toNat ≠ 48 := fun e => h0 (UInt8.toNat_inj.1 e)
      have h1 := fold_ge r (0 * 10 + (c.toNat - 48))
      have h2 : 10 ^ 19 ≤ 10 ^ r.length := Nat.pow_le_pow_right (by decide) (by rw [List.length_cons] at hl; omega)
      have h3 : 1 * 10 ^ r.length ≤ (0 * 10 + (c.toNat - 48)) * 10 ^ r.length := Nat.mul_le_mul_right _ (by omega)
      show ¬(List.foldl (fun a c => a * 10 + (c.toNat - 48)) (0 * 10 + (c.toNat - 48)) r) < _
      have h4 : (2 : Nat) ^ 63 ≤ 10 ^ 19 := by decide
      omega

/-- What the document's number answers. -/
structure NumR (x : Ending) (T : List UInt8) : Prop where
  yes : ∀ v, numL T = some v → x = .returned (.tuple #[.int .i64 (v : Nat), .bool true])
  no : numL T = none → ∃ n, x = .returned (.tuple #[.int .i64 n, .bool false])

set_option maxHeartbeats 2000000 in
theorem number_any (c : UInt8) (r : List UInt8) (w : World) (hd : ∀ x ∈ (c :: r), isD x = true) (hl : (c :: r).length ≤ 2 ^ 40) :
    Calls Tryd.prog 40 #[.string (strOf (c :: r))] w fun e w' => NumR e (c :: r) ∧ w = w' := by
  have hsz := strOf_size (c :: r)
  have hix0 : ∀ W : World, (Instr.index 9 (.string (strOf (c :: r))) (.int .i64 0)).run Tryd.prog W = .ok (.int .u8 (c.toNat : Int)) W := fun W => by
    have h1 : ((strOf (c :: r))[0]'(by rw [hsz]; simp)) = c := rfl
    rw [← h1]
    go_simp
  by_cases h19 : (c :: r).length > 19
  · have HF := Lib.hid (numL_long hd h19)
    have g1 : ((strOf (c :: r)).size : Int) > 19 := by omega
    generalize strOf (c :: r) = s at *
    clear hsz h19 hl hd
    go_enter Tryd.func40, Tryd.ntmps40
    go_wp2
    go_ret2
    exact ⟨⟨fun v h => (by rw [HF.out] at h; cases h), fun _ => ⟨_, rfl⟩⟩, rfl⟩
  · have g1 : ¬((strOf (c :: r)).size : Int) > 19 := by omega
    by_cases hz : (c :: r).length > 1 ∧ c.toNat = 48
    · have HF : Hid (numL (c :: r) = none) := Lib.hid (by unfold numL; rw [if_pos ⟨hz.1, by rw [List.head?_cons]; congr 1; exact UInt8.toNat_inj.1 hz.2⟩])
      have g2 : ((strOf (c :: r)).size : Int) > 1 := by omega
      have g3 : ((c.toNat : Int) == 48) = true := by rw [hz.2]; rfl
      generalize strOf (c :: r) = s at *
      clear hz hsz h19 hl hd
      go_enter Tryd.func40, Tryd.ntmps40
      go_wp2
      go_ret2
      exact ⟨⟨fun v h => (by rw [HF.out] at h; cases h), fun _ => ⟨_, rfl⟩⟩, rfl⟩
    · have HNL : Hid (numL (c :: r) = if numV (c :: r) < 2 ^ 63 then some (numV (c :: r)) else none) := Lib.hid (by
        unfold numL; rw [if_neg]; rintro ⟨h1, h2⟩; exact hz ⟨h1, by rw [List.head?_cons] at h2; rw [Option.some.inj h2]; rfl⟩)
      have HD := Lib.hid hd
      have HV : Hid (∀ i, i ≤ (c :: r).length → numV ((c :: r).take i) < 10 ^ 19) := Lib.hid (fun i hi => by
        have h1 := fold_lt ((c :: r).take i) 0 0 (fun x hx => hd x (List.mem_of_mem_take hx)) (by decide)
        rw [List.length_take, Nat.min_eq_left hi, Nat.zero_add] at h1
        exact Nat.lt_of_lt_of_le h1 (Nat.pow_le_pow_right (by decide) (by omega)))
      have HIX : Hid (∀ (i : Nat) (h : i < (c :: r).length) (W : World), (Instr.index 9 (.string (strOf (c :: r))) (.int .i64 (i : Int))).run Tryd.prog W = .ok (.int .u8 (((c :: r)[i]).toNat : Int)) W) := Lib.hid (fun i h W => by
        have hd2 := List.drop_eq_getElem_cons h
        exact byte_at (P := Tryd.prog) (strOf (c :: r)) i _ _ (by unfold from'; rw [strOf_toList]; exact hd2) 9 Tryd.underlying9 W)
      have HTS : Hid (∀ i (h : i < (c :: r).length), numV ((c :: r).take (i + 1)) = numV ((c :: r).take i) * 10 + ((c :: r)[i].toNat - 48)) := Lib.hid (fun i h => numV_take _ i h)
      have key : ¬((strOf (c :: r)).size : Int) > 1 ∨ (((strOf (c :: r)).size : Int) > 1 ∧ ((c.toNat : Int) == 48) = false) := by
        by_cases h : (c :: r).length > 1
        · refine .inr ⟨by omega, ?_⟩
          have : c.toNat ≠ 48 := fun e => hz ⟨h, e⟩
          simp; omega
        · exact .inl (by omega)
      have HT : Hid (numV ((c :: r).take (c :: r).length) = numV (c :: r)) := Lib.hid (by rw [List.take_length])
      have hm1 : 1 ≤ (c :: r).length := by simp
      generalize hTT : c :: r = T at *
      have HCC := Lib.hid hTT
      clear hTT hd hz
      have HSZ := Lib.hid hsz
      clear hsz
      rcases key with k1 | ⟨k1, k2⟩
      all_goals
        go_enter Tryd.func40, Tryd.ntmps40
        go_wp2
        go_loopw [4, 5] (fun vn vi wr => ∃ i : Nat, i ≤ T.length ∧ vi = .int .i64 (i : Int) ∧ vn = .int .u64 ((numV (T.take i) : Nat) : Int) ∧ wr = w) (fun _ vi _ => T.length - (intOf vi).toNat)
        case atStart => exact ⟨0, Nat.zero_le _, rfl, rfl, rfl⟩
        case round =>
          obtain ⟨i, hi, rfl, rfl, rfl⟩ := hrel
          have hv := HV.out i hi
          by_cases hlt : i < T.length
          · have hix := fun W => HIX.out i hlt W
            have hc := dig (HD.out T[i] (List.getElem_mem hlt))
            have hts := HTS.out i hlt
            have hv2 := HV.out (i + 1) hlt
            rw [hts] at hv2
            generalize numV (T.take i) = m at *
            generalize hx : T[i].toNat = x at *
            have s1 : IntKind.u64.wrap (10 * (m : Int)) = 10 * (m : Int) := by rw [IntKind.wrap_u64]; omega
            have s2 : IntKind.u8.wrap ((x : Int) - 48) = (x : Int) - 48 := by simp [IntKind.wrap, IntKind.bits, IntKind.signed]; omega
            have s3 : IntKind.u64.wrap ((x : Int) - 48) = (x : Int) - 48 := by rw [IntKind.wrap_u64]; omega
            have s4 : IntKind.u64.wrap (10 * (m : Int) + ((x : Int) - 48)) = 10 * (m : Int) + ((x : Int) - 48) := by rw [IntKind.wrap_u64]; omega
            have HTT := Lib.hid hts
            have g4 : (i : Int) < ((strOf T).size : Int) := by have := HSZ.out; omega
            have HXR := Lib.hid (show 48 ≤ x ∧ x ≤ 57 from hc)
            clear hts hx hv hv2 hc
            go_wp2
            go_roundw
            case rel => exact ⟨i + 1, hlt, by go_num, by rw [HTT.out]; congr 1; have := HXR.out; omega, by trivial⟩
            case measure => simp [intOf]; omega
          · obtain rfl : i = T.length := by omega
            rw [HT.out] at hv ⊢
            have g4 : ¬((T.length : Int)) < ((strOf T).size : Int) := by have := HSZ.out; omega
            generalize numV T = V at *
            by_cases h63 : V < 2 ^ 63
            · have g5 : (V : Int) < 9223372036854775808 := by omega
              have s5 : IntKind.i64.wrap (V : Int) = (V : Int) := IntWalk.i64_in _ (by omega)
              go_wp2
              go_ret2
              exact ⟨⟨fun v h => (by rw [HNL.out, if_pos h63] at h; cases h; rfl), fun h => (by rw [HNL.out, if_pos h63] at h; cases h)⟩, rfl⟩
            · have g5 : ¬(V : Int) < 9223372036854775808 := by omega
              go_wp2
              go_ret2
              exact ⟨⟨fun v h => (by rw [HNL.out, if_neg h63] at h; cases h), fun _ => ⟨_, rfl⟩⟩, rfl⟩

end Go.Proofs.YtcfmjnhagpmnpaaDoor.Lx
