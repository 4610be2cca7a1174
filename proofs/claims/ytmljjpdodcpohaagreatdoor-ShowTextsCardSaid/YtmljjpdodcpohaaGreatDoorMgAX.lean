/- The document's printer; Contracts of the library, of the shelf, at this dump; Branches as they lie in memory, rows of pointers, the parser's block. No condition but those that each states. -/
import Derived.Test.YtmljjpdodcpohaaGreatDoorMgAS
import Derived.Test.YtmljjpdodcpohaaGreatDoorMgAT
import Derived.Test.YtmljjpdodcpohaaGreatDoorMgAU
import Derived.Test.YtmljjpdodcpohaaGreatDoorMgAV
import Derived.Test.YtmljjpdodcpohaaGreatDoorMgAW
import Derived.Shelf.Strconv.Itoa4
import Derived.Lib.AppendIntMem
import Derived.Test.YtmljjpdodcpohaaGreatDoorMgAB
import Derived.Test.YtmljjpdodcpohaaGreatDoorMgAC
import Derived.Test.YtmljjpdodcpohaaGreatDoorMgAM
import Derived.Test.YtmljjpdodcpohaaGreatDoorMgAO
import Derived.Test.YtmljjpdodcpohaaGreatDoorMgAE
import Derived.Laws.OwnMore
namespace Go.Proofs.YtmljjpdodcpohaaGreatDoor.Sw
open Go.RowKit Dk Lx Tr Pa
theorem name_short {q : List UInt8} (h : isName q = true) : q.length ≤ 2 ^ 40 := by
  unfold isName at h; simp only [Bool.and_eq_true, decide_eq_true_eq] at h; omega
theorem bin_ofT {s : List UInt8} (h : isBin s = true) : ofT s = sgn s ∧ s.length ≤ 2 ^ 40 := by
  have h1 := ofT_ops; rw [Bool.and_eq_true, List.all_eq_true, List.all_eq_true] at h1; have hm := (isBin_iff s).1 h; refine ⟨eq_of_beq (h1.1 s hm), ?_⟩; have h2 : (binList.all fun q => decide (q.length ≤ 2 ^ 40)) = true := by decide +kernel
  exact of_decide_eq_true (List.all_eq_true.1 h2 s hm)
theorem un_ofT {s : List UInt8} (h : isUn s = true) : ofT s = sgn s ∧ s.length ≤ 2 ^ 40 := by
  have h1 := ofT_ops; rw [Bool.and_eq_true, List.all_eq_true, List.all_eq_true] at h1; have hm := (isUn_iff s).1 h; refine ⟨eq_of_beq (h1.2 s hm), ?_⟩; have h2 : (unList.all fun q => decide (q.length ≤ 2 ^ 40)) = true := by decide +kernel
  exact of_decide_eq_true (List.all_eq_true.1 h2 s hm)
theorem fp1 {d z : Int} {q s : List UInt8} (h : fieldsP ⟨1, d, q, z, s⟩ = true) : isName q = true ∧ 0 ≤ z := by
  have h' : (isName q && decide (1 ≤ z) && decide (z ≤ 2147483647) && (s == [])) = true := h; simp only [Bool.and_eq_true, decide_eq_true_eq] at h'; exact ⟨h'.1.1.1, by omega⟩
theorem fp2 {d z : Int} {q s : List UInt8} (h : fieldsP ⟨2, d, q, z, s⟩ = true) : isName q = true ∧ 0 ≤ z ∧ isName s = true := by
  have h' : (isName q && decide (0 ≤ z) && decide (z ≤ 8) && isName s) = true := h; simp only [Bool.and_eq_true, decide_eq_true_eq] at h'; exact ⟨h'.1.1.1, h'.1.1.2, h'.2⟩
theorem fp3 {k d z : Int} {q s : List UInt8} (hk : k = 3 ∨ k = 4 ∨ k = 6 ∨ k = 7 ∨ k = 21) (h : fieldsP ⟨k, d, q, z, s⟩ = true) : isName q = true := by
  have h' : (isName q && decide (z = 0) && (s == [])) = true := by rcases hk with rfl | rfl | rfl | rfl | rfl <;> exact h
  simp only [Bool.and_eq_true] at h'; exact h'.1.1
theorem fp19 {d z : Int} {q s : List UInt8} (h : fieldsP ⟨19, d, q, z, s⟩ = true) : 0 ≤ z := by
  have h' : ((q == []) && decide (z ≥ 0) && (s == [])) = true := h; simp only [Bool.and_eq_true, decide_eq_true_eq] at h'; exact h'.1.2
theorem fp23 {d z : Int} {q s : List UInt8} (h : fieldsP ⟨23, d, q, z, s⟩ = true) : isName q = true ∧ isName s = true := by
  have h' : (isName q && decide (z = 0) && isName s) = true := h; simp only [Bool.and_eq_true] at h'; exact ⟨h'.1.1, h'.2⟩
theorem fp27 {d z : Int} {q s : List UInt8} (h : fieldsP ⟨27, d, q, z, s⟩ = true) : isBin s = true := by
  have h' : ((q == []) && decide (z = 0) && isBin s) = true := h; simp only [Bool.and_eq_true] at h'; exact h'.2
theorem fp28 {d z : Int} {q s : List UInt8} (h : fieldsP ⟨28, d, q, z, s⟩ = true) : isUn s = true := by
  have h' : ((q == []) && decide (z = 0) && isUn s) = true := h; simp only [Bool.and_eq_true] at h'; exact h'.2
set_option maxHeartbeats 4000000 in
theorem all_nod {l : List Nd} {v : Value} {w0 : World} (hv : Nds w0 v l) (hsm : l.length ≤ 4000) (hn : FitN l) (hob : ∀ (i : Nat) (c : Cat) (o : List Tk) (l' : List Nd), Prn [.nd c] (l.drop i) o l' → o.length ≤ 100000) : ∀ N, NodR l v w0 N
  | 0 => fun i c o l' W hl => absurd hl (Nat.not_lt_zero _)
  | N + 1 => by
    intro i c o l' W hl hp hw; have hN := all_nod hv hsm hn hob N; have ho := hob i c o l' hp; obtain ⟨x, r, hd, hc, hk, hfx, h1⟩ := hp.nd_inv; obtain ⟨hi, hx, hr⟩ := drop_at hd; subst hr; have hlr : (l.drop (i + 1)).length < N := by rw [hd, List.length_cons] at hl; omega
    have h1' : Prn (expX x) (l.drop (pos (kidsOf l) (i + 1) 0)) o l' := h1; have hz := hn x (by rw [← hx]; exact List.getElem_mem hi)
    have hls := h1.less; rw [List.length_drop] at hls; obtain ⟨k, d, q, z, s⟩ := x; replace hz : -9223372036854775808 ≤ z ∧ z < 9223372036854775808 := hz; replace hk : d = ((cats (expX ⟨k, d, q, z, s⟩)).length : Int) := hk; have mk : ∀ W', Below W.heap.size W W' → NdAt l v W' i ⟨k, d, q, z, s⟩ := fun W' hb => ⟨hv.later (chain2 hw hb), hi, hx, hsm⟩
    have bw : ∀ W', Below W.heap.size W W' → Below w0.heap.size w0 W' := fun W' hb => chain2 hw hb
    have hd6 : (cats (expX ⟨k, d, q, z, s⟩)).length ≤ 100000 := by omega
    cases c with
    | mod =>
      obtain rfl : k = 1 := eq_of_beq (show (k == 1) = true from hc); obtain ⟨hnq, h0⟩ := fp1 hfx; obtain ⟨u, rfl⟩ : ∃ u : Nat, z = (u : Int) := ⟨z.toNat, by omega⟩; change Prn ([sg [109, 111, 100, 117, 108, 101], nm q, it (u : Int), sg [59]] ++ List.replicate d.toNat (.nd .part)) _ o l' at h1'; obtain ⟨n, rfl⟩ : ∃ n : Nat, d = (n : Int) := ⟨_, hk⟩; rw [Int.toNat_natCast] at h1'; obtain ⟨t1, t2, l1, e, p1, p2⟩ := h1'.split _ _ rfl; obtain ⟨o1, e1, q1⟩ := p1.tok_inv; obtain ⟨o2, e2, q2⟩ := q1.tok_inv; obtain ⟨o3, e3, q3⟩ := q2.tok_inv; obtain ⟨o4, e4, q4⟩ := q3.tok_inv; cases q4
      rw [e1, e2, e3, e4] at e; exact nd_1 hN i 1 q _ s o l' W n (by omega) (mk W (Below.refl _ _)) hlr hw ho rfl hp u rfl (by omega) t2 e (by rw [List.append_nil]; exact p2) (ofT_name hnq) (name_short hnq)
    | part =>
      have hkk : k = 2 ∨ k = 3 := by
        have h' : (k == 2 || k == 3) = true := hc; rwa [Bool.or_eq_true, beq_iff_eq, beq_iff_eq] at h'
      rcases hkk with rfl | rfl
      · obtain ⟨hnq, h0, hns⟩ := fp2 hfx
        obtain ⟨u, rfl⟩ : ∃ u : Nat, z = (u : Int) := ⟨z.toNat, by omega⟩; change d = ((0 : Nat) : Int) at hk; subst hk; change Prn [sg [117, 115, 101], nm q, sg [46], nm s, sg [47], it (u : Int), sg [59]] _ o l' at h1'; obtain ⟨o1, e1, q1⟩ := h1'.tok_inv; obtain ⟨o2, e2, q2⟩ := q1.tok_inv; obtain ⟨o3, e3, q3⟩ := q2.tok_inv; obtain ⟨o4, e4, q4⟩ := q3.tok_inv; obtain ⟨o5, e5, q5⟩ := q4.tok_inv; obtain ⟨o6, e6, q6⟩ := q5.tok_inv; obtain ⟨o7, e7, q7⟩ := q6.tok_inv; cases q7
        rw [e2, e3, e4, e5, e6, e7] at e1; exact nd_2 hN i 2 q _ s _ _ W 0 (by omega) (mk W (Below.refl _ _)) hlr hw ho rfl hp u rfl (by omega) e1 (ofT_name hnq) (ofT_name hns) (name_short hnq) (name_short hns)
      · have hnq := fp3 (.inl rfl) hfx
        change Prn (sg [102, 110] :: nm q :: fnX d.toNat) _ o l' at h1'; change d = (((cats (fnX d.toNat)).length : Nat) : Int) at hk; rw [cats_fn, List.length_append, List.length_replicate] at hk; obtain ⟨n, rfl⟩ : ∃ n : Nat, d = ((n + 1 : Nat) : Int) := ⟨d.toNat - 1, by simp at hk; omega⟩
        rw [Int.toNat_natCast] at h1'; exact nd_3 hN i 3 q _ s o l' W (n + 1) (by change (cats (fnX ((n + 1 : Nat) : Int).toNat)).length ≤ 100000 at hd6; rw [cats_fn, List.length_append, List.length_replicate, Int.toNat_natCast] at hd6; simp at hd6; omega) (mk W (Below.refl _ _)) hlr hw ho rfl hp n rfl h1' (ofT_name hnq) (name_short hnq)
    | par =>
      obtain rfl : k = 4 := eq_of_beq (show (k == 4) = true from hc); have hnq := fp3 (.inr (.inl rfl)) hfx; change d = ((0 : Nat) : Int) at hk; subst hk; exact nd_4 hN i 4 q _ s o l' W 0 (by omega) (mk W (Below.refl _ _)) hlr hw ho rfl hp h1 (ofT_name hnq) (name_short hnq)
    | blk =>
      obtain rfl : k = 5 := eq_of_beq (show (k == 5) = true from hc); change Prn (sg [123] :: (List.replicate d.toNat (.nd .st) ++ [sg [125]])) _ o l' at h1'; obtain ⟨n, rfl⟩ : ∃ n : Nat, d = (n : Int) := ⟨_, hk⟩; rw [Int.toNat_natCast] at h1'; exact nd_5 hN i 5 q _ s o l' W n (by omega) (mk W (Below.refl _ _)) hlr hw ho rfl hp h1'
    | st =>
      have hkk : k = 6 ∨ k = 7 ∨ k = 8 ∨ k = 9 ∨ k = 10 ∨ k = 11 ∨ k = 12 ∨ k = 13 ∨ k = 14 ∨ k = 15 ∨ k = 16 ∨ k = 17 := by
        have h' := hc; unfold catP isStmt at h'; simp at h'; omega
      have go : ∀ n : Nat, d = (n : Int) → n ≤ 100000 → (∀ W', Below W.heap.size W W' → Calls Tryz.prog 66 #[v, .int .i64 (i : Int)] W' fun e w' => ∃ u, e = .returned u ∧ TR W' w' u o) → Calls Tryz.prog 31 #[v, .int .i64 (i : Int)] W fun e w' => ∃ u, e = .returned u ∧ TR W w' u o := fun n e hn6 h => by
        subst e; exact nd_st hN i k q z s o l' W n hn6 (mk W (Below.refl _ _)) hlr hw ho hc hp h
      rcases hkk with rfl | rfl | rfl | rfl | rfl | rfl | rfl | rfl | rfl | rfl | rfl | rfl
      · change d = ((1 : Nat) : Int) at hk; subst hk; have hnq := fp3 (.inr (.inr (.inl rfl))) hfx; exact go 1 rfl (by decide) fun W' hb => rs_6 hN i q z s o l' W' (mk W' hb) hlr (bw W' hb) ho hp h1' (ofT_name hnq) (name_short hnq)
      · change d = ((1 : Nat) : Int) at hk; subst hk; have hnq := fp3 (.inr (.inr (.inr (.inl rfl)))) hfx; exact go 1 rfl (by decide) fun W' hb => rs_7 hN i q z s o l' W' (mk W' hb) hlr (bw W' hb) ho hp h1' (ofT_name hnq) (name_short hnq)
      · change d = ((3 : Nat) : Int) at hk; subst hk; exact go 3 rfl (by decide) fun W' hb => rs_8 hN i q z s o l' W' (mk W' hb) hlr (bw W' hb) ho hp h1'
      · change Prn ([sg [105, 102], .nd .ex, .nd .blk] ++ (if 2 < d then [sg [101, 108, 115, 101], .nd .blk] else [])) _ o l' at h1'
        change d = (((cats ([sg [105, 102], .nd .ex, .nd .blk] ++ (if 2 < d then [sg [101, 108, 115, 101], .nd .blk] else []))).length : Nat) : Int) at hk; by_cases h2d : 2 < d
        · rw [if_pos h2d] at h1' hk
          change d = ((3 : Nat) : Int) at hk; subst hk; exact go 3 rfl (by decide) fun W' hb => rs_9b hN i q z s o l' W' (mk W' hb) hlr (bw W' hb) ho hp h1'
        · rw [if_neg h2d] at h1' hk
          change d = ((2 : Nat) : Int) at hk; subst hk; exact go 2 rfl (by decide) fun W' hb => rs_9a hN i q z s o l' W' (mk W' hb) hlr (bw W' hb) ho hp h1'
      · change d = ((2 : Nat) : Int) at hk; subst hk; exact go 2 rfl (by decide) fun W' hb => rs_10 hN i q z s o l' W' (mk W' hb) hlr (bw W' hb) ho hp h1'
      · change d = ((0 : Nat) : Int) at hk; subst hk; exact go 0 rfl (by decide) fun W' hb => rs_11 hN i q z s o l' W' (mk W' hb) hlr (bw W' hb) ho hp h1'
      · change d = ((0 : Nat) : Int) at hk; subst hk; exact go 0 rfl (by decide) fun W' hb => rs_12 hN i q z s o l' W' (mk W' hb) hlr (bw W' hb) ho hp h1'
      · change d = ((1 : Nat) : Int) at hk; subst hk; exact go 1 rfl (by decide) fun W' hb => rs_13 hN i q z s o l' W' (mk W' hb) hlr (bw W' hb) ho hp h1'
      · change d = ((1 : Nat) : Int) at hk; subst hk; exact go 1 rfl (by decide) fun W' hb => rs_14 hN i q z s o l' W' (mk W' hb) hlr (bw W' hb) ho hp h1'
      · change d = ((1 : Nat) : Int) at hk; subst hk; exact go 1 rfl (by decide) fun W' hb => rs_15 hN i q z s o l' W' (mk W' hb) hlr (bw W' hb) ho hp h1'
      · change d = ((0 : Nat) : Int) at hk; subst hk; exact go 0 rfl (by decide) fun W' hb => rs_16 hN i q z s o l' W' (mk W' hb) hlr (bw W' hb) ho hp h1'
      · change d = ((1 : Nat) : Int) at hk; subst hk; exact go 1 rfl (by decide) fun W' hb => rs_17 hN i q z s o l' W' (mk W' hb) hlr (bw W' hb) ho hp h1'
    | ex =>
      have hkk : k = 18 ∨ k = 19 ∨ k = 20 ∨ k = 21 ∨ k = 22 ∨ k = 23 ∨ k = 24 ∨ k = 25 ∨ k = 26 ∨ k = 27 ∨ k = 28 ∨ k = 29 ∨ k = 30 := by
        have h' := hc; unfold catP isExpr at h'; simp at h'; omega
      have hkd : isStmt k = false ∧ isExpr k = true := ⟨by unfold isStmt; simp; omega, hc⟩
      have go : ∀ n : Nat, d = (n : Int) → n ≤ 100000 → (∀ W', Below W.heap.size W W' → Calls Tryz.prog 68 #[v, .int .i64 (i : Int)] W' fun e w' => ∃ u, e = .returned u ∧ TR W' w' u o) → Calls Tryz.prog 31 #[v, .int .i64 (i : Int)] W fun e w' => ∃ u, e = .returned u ∧ TR W w' u o := fun n e hn6 h => by
        subst e; exact nd_ex hN i k q z s o l' W n hn6 (mk W (Below.refl _ _)) hlr hw ho hkd hp h
      rcases hkk with rfl | rfl | rfl | rfl | rfl | rfl | rfl | rfl | rfl | rfl | rfl | rfl | rfl
      · change d = ((0 : Nat) : Int) at hk; subst hk; exact go 0 rfl (by decide) fun W' hb => re_18 hN i q z s o l' W' (mk W' hb) hlr (bw W' hb) ho hp h1'
      · change d = ((0 : Nat) : Int) at hk; subst hk; have h0 := fp19 hfx; exact go 0 rfl (by decide) fun W' hb => re_19 hN i q z s o l' W' (mk W' hb) hlr (bw W' hb) ho hp h1' z.toNat (by omega) (by omega)
      · change d = ((0 : Nat) : Int) at hk; subst hk; exact go 0 rfl (by decide) fun W' hb => re_20 hN i q z s o l' W' (mk W' hb) hlr (bw W' hb) ho hp h1'
      · change d = ((0 : Nat) : Int) at hk; subst hk; have hnq := fp3 (.inr (.inr (.inr (.inr rfl)))) hfx; exact go 0 rfl (by decide) fun W' hb => re_21 hN i q z s o l' W' (mk W' hb) hlr (bw W' hb) ho hp h1' (ofT_name hnq) (name_short hnq)
      · change Prn (.nd .ex :: lstX .ex (d.toNat - 1)) _ o l' at h1'
        change d = ((((cats (lstX .ex (d.toNat - 1))).length + 1 : Nat)) : Int) at hk; change (cats (lstX .ex (d.toNat - 1))).length + 1 ≤ 100000 at hd6; rw [cats_lst, List.length_replicate] at hk hd6; obtain ⟨n, rfl⟩ : ∃ n : Nat, d = ((n + 1 : Nat) : Int) := ⟨d.toNat - 1, by omega⟩; rw [Int.toNat_natCast, Nat.add_sub_cancel] at h1'; rw [Int.toNat_natCast] at hd6; exact go (n + 1) rfl (by omega) fun W' hb => re_22 hN i q z s o l' W' n (by omega) (mk W' hb) hlr (bw W' hb) ho hp h1'
      · obtain ⟨hnq, hns⟩ := fp23 hfx
        change Prn ([nm q, sg [46], nm s] ++ lstX .ex d.toNat) _ o l' at h1'; change d = (((cats ([nm q, sg [46], nm s] ++ lstX .ex d.toNat)).length : Nat) : Int) at hk; change (cats ([nm q, sg [46], nm s] ++ lstX .ex d.toNat)).length ≤ 100000 at hd6; obtain ⟨n, rfl⟩ : ∃ n : Nat, d = (n : Int) := ⟨_, hk⟩; rw [Int.toNat_natCast] at h1'; exact go n rfl (by omega) fun W' hb => re_23 hN i q z s o l' W' n (by omega) (mk W' hb) hlr (bw W' hb) ho hp h1' (ofT_name hnq) (ofT_name hns) (name_short hnq) (name_short hns)
      · change Prn (sg [102, 110] :: fnX d.toNat) _ o l' at h1'
        change d = (((cats (fnX d.toNat)).length : Nat) : Int) at hk; change (cats (fnX d.toNat)).length ≤ 100000 at hd6; rw [cats_fn, List.length_append, List.length_replicate] at hk hd6; obtain ⟨n, rfl⟩ : ∃ n : Nat, d = ((n + 1 : Nat) : Int) := ⟨d.toNat - 1, by simp at hk; omega⟩
        rw [Int.toNat_natCast] at h1' hd6; simp at hd6
        exact go (n + 1) rfl (by omega) fun W' hb => re_24 hN i q z s o l' W' n (by omega) (mk W' hb) hlr (bw W' hb) ho hp h1'
      · change d = ((0 : Nat) : Int) at hk; subst hk; exact go 0 rfl (by decide) fun W' hb => re_25 hN i q z s o l' W' (mk W' hb) hlr (bw W' hb) ho hp h1'
      · change d = ((2 : Nat) : Int) at hk; subst hk; exact go 2 rfl (by decide) fun W' hb => re_26 hN i q z s o l' W' (mk W' hb) hlr (bw W' hb) ho hp h1'
      · change d = ((2 : Nat) : Int) at hk; subst hk; obtain ⟨e1, e2⟩ := bin_ofT (fp27 hfx); exact go 2 rfl (by decide) fun W' hb => re_27 hN i q z s o l' W' (mk W' hb) hlr (bw W' hb) ho hp h1' e1 e2
      · change d = ((1 : Nat) : Int) at hk; subst hk; obtain ⟨e1, e2⟩ := un_ofT (fp28 hfx); exact go 1 rfl (by decide) fun W' hb => re_28 hN i q z s o l' W' (mk W' hb) hlr (bw W' hb) ho hp h1' e1 e2
      · change d = ((0 : Nat) : Int) at hk; subst hk; exact go 0 rfl (by decide) fun W' hb => re_29 hN i q z s o l' W' (mk W' hb) hlr (bw W' hb) ho hp h1'
      · change d = ((1 : Nat) : Int) at hk; subst hk; exact go 1 rfl (by decide) fun W' hb => re_30 hN i q z s o l' W' (mk W' hb) hlr (bw W' hb) ho hp h1'
end Go.Proofs.YtmljjpdodcpohaaGreatDoor.Sw

namespace Go.Proofs.YtmljjpdodcpohaaGreatDoor.Sw
open Go.RowKit Go.Shelf Dk
def lays173_ren : Go.Shelf.Ren := ⟨fun | 173 => 100 | 174 => 177 | 247 => 203 | 245 => 204 | 287 => 222 | 279 => 223 | 280 => 224 | 281 => 225 | 282 => 226 | 321 => 238 | 322 => 239 | 316 => 240 | 171 => 242 | 205 => 241 | 243 => 249 | 246 => 160 | 283 => 188 | 284 => 189 | 285 => 190 | 286 => 191 | 129 => 212 | 317 => 211 | 318 => 213 | 319 => 214 | 320 => 215 | 337 => 232 | 338 => 233 | n => n, fun | 9 => 9 | 3 => 3 | 2 => 2 | 75 => 150 | 85 => 193 | 4 => 4 | 167 => 220 | 5 => 5 | 53 => 192 | 175 => 221 | 46 => 216 | 168 => 223 | 37 => 63 | 0 => 0 | 210 => 230 | 21 => 21 | 127 => 181 | 145 => 238 | 143 => 236 | 171 => 198 | 173 => 201 | 212 => 213 | 51 => 214 | 20 => 20 | 213 => 215 | 232 => 233 | 233 => 234 | 80 => 153 | n => n, fun | 15 => 2 | 16 => 3 | 17 => 0 | 18 => 4 | 19 => 5 | n => n⟩
theorem lays173 : Go.Proofs.LaysM.n173 Tryz.prog lays173_ren := {
  mixed := by kernel_rfl
  f129 := Tryz.func212.trans (congrArg some (by kernel_rfl))
  f173 := Tryz.func100.trans (congrArg some (by kernel_rfl))
  f246 := Tryz.func160.trans (congrArg some (by kernel_rfl))
  f283 := Tryz.func188.trans (congrArg some (by kernel_rfl))
  f284 := Tryz.func189.trans (congrArg some (by kernel_rfl))
  f285 := Tryz.func190.trans (congrArg some (by kernel_rfl))
  f286 := Tryz.func191.trans (congrArg some (by kernel_rfl))
  f317 := Tryz.func211.trans (congrArg some (by kernel_rfl))
  f318 := Tryz.func213.trans (congrArg some (by kernel_rfl))
  f319 := Tryz.func214.trans (congrArg some (by kernel_rfl))
  f320 := Tryz.func215.trans (congrArg some (by kernel_rfl))
  f337 := Tryz.func232.trans (congrArg some (by kernel_rfl))
  f338 := Tryz.func233.trans (congrArg some (by kernel_rfl))
  t0 := Tryz.underlying0
  a0 := Tryz.isAgg0
  z0 := Tryz.sizeOf0
  v0 := Tryz.zeroValue0
  t2 := Tryz.underlying2
  a2 := Tryz.isAgg2
  z2 := Tryz.sizeOf2
  v2 := Tryz.zeroValue2
  t3 := Tryz.underlying3
  a3 := Tryz.isAgg3
  z3 := Tryz.sizeOf3
  v3 := Tryz.zeroValue3
  t4 := Tryz.underlying4
  a4 := Tryz.isAgg4
  z4 := Tryz.sizeOf4
  v4 := Tryz.zeroValue4
  t5 := Tryz.underlying5
  a5 := Tryz.isAgg5
  z5 := Tryz.sizeOf5
  v5 := Tryz.zeroValue5
  t9 := Tryz.underlying9
  a9 := Tryz.isAgg9
  z9 := Tryz.sizeOf9
  v9 := Tryz.zeroValue9
  t20 := Tryz.underlying20
  a20 := Tryz.isAgg20
  z20 := Tryz.sizeOf20
  v20 := Tryz.zeroValue20
  t37 := Tryz.underlying63
  a37 := Tryz.isAgg63
  z37 := Tryz.sizeOf63
  v37 := Tryz.zeroValue63
  t46 := Tryz.underlying216
  a46 := Tryz.isAgg216
  z46 := Tryz.sizeOf216
  v46 := Tryz.zeroValue216
  t51 := Tryz.underlying214
  a51 := Tryz.isAgg214
  z51 := Tryz.sizeOf214
  v51 := Tryz.zeroValue214
  t53 := Tryz.underlying192
  a53 := Tryz.isAgg192
  z53 := Tryz.sizeOf192
  v53 := Tryz.zeroValue192
  t171 := Tryz.underlying198
  a171 := Tryz.isAgg198
  z171 := Tryz.sizeOf198
  v171 := Tryz.zeroValue198
  t173 := Tryz.underlying201
  a173 := Tryz.isAgg201
  z173 := Tryz.sizeOf201
  v173 := Tryz.zeroValue201
  t212 := Tryz.underlying213
  a212 := Tryz.isAgg213
  z212 := Tryz.sizeOf213
  v212 := Tryz.zeroValue213
  t213 := Tryz.underlying215
  a213 := Tryz.isAgg215
  z213 := Tryz.sizeOf215
  t232 := Tryz.underlying233
  a232 := Tryz.isAgg233
  z232 := Tryz.sizeOf233
  v232 := Tryz.zeroValue233
  t233 := Tryz.underlying234
  a233 := Tryz.isAgg234
  z233 := Tryz.sizeOf234
  v233 := Tryz.zeroValue234
  g17 := by kernel_rfl
  g18 := by kernel_rfl
  g19 := by kernel_rfl
  i0 := by kernel_rfl
  i2 := by kernel_rfl
  i3 := by kernel_rfl
  i4 := by kernel_rfl
  i5 := by kernel_rfl
  i9 := by kernel_rfl
  i20 := by kernel_rfl
  i37 := by kernel_rfl
  i46 := by kernel_rfl
  i51 := by kernel_rfl
  i53 := by kernel_rfl
  i171 := by kernel_rfl
  i173 := by kernel_rfl
  i212 := by kernel_rfl
  i232 := by kernel_rfl
  i233 := by kernel_rfl
  m17 := by kernel_rfl
  m18 := by kernel_rfl
  m19 := by kernel_rfl }
def HasT (w : World) : Prop := Lib.TabIs Tryz.prog w "internal/strconv.uint64pow10" .u64 Lib.pow10Tab ∧ ∃ g, Tryz.prog.globalNamed "internal/strconv.uint64pow10" = some g ∧ g < w.heap.size
theorem HasT.later {w w' : World} (h : HasT w) (k : Below w.heap.size w w') : HasT w' := by
  obtain ⟨h1, g, hg, hlt⟩ := h; exact ⟨var?_below k hg hlt h1, g, hg, Nat.lt_of_lt_of_le hlt k.size⟩
theorem format_any (n : Int) (h0 : -9223372036854775808 ≤ n) (h1 : n < 9223372036854775808) (w : World) (HT : HasT w) :
    Calls Tryz.prog 100 #[.int .i64 n, .int .i64 10] w fun e w' => e = .returned (.string ⟨(Lib.itoa n).toArray⟩) ∧ Below w.heap.size w w' :=
  (Any.strconv_FormatInt_10 lays173 n h0 (by omega) w HT.1).mono fun e w' ⟨he, k, os, hw⟩ => ⟨he, by rw [hw]; exact Lib.below_grow _ _ (Nat.le_refl _) _ _⟩
end Go.Proofs.YtmljjpdodcpohaaGreatDoor.Sw

namespace Go.Proofs.YtmljjpdodcpohaaGreatDoor.Pa
open Go.RowKit Dk Lx Tr
abbrev ptr (b : Nat) : Value := .pointer (some ⟨b, 0, none⟩)
def bp (ps : List Nat) : List Value := ps.map ptr
theorem bp_app (a b : List Nat) : bp (a ++ b) = bp a ++ bp b := by simp [bp]
theorem bp_one (ps : List Nat) : ∀ u ∈ bp ps, u.oneCell' = true := by
  intro u hu; simp [bp] at hu
  obtain ⟨b, _, rfl⟩ := hu; rfl
def Row (W : World) (X : Nat → Prop) (v : Value) (ps : List Nat) : Prop := ∃ p c, v = .slice p ps.length c ∧ ps.length ≤ c ∧ (ps = [] ∨ ∃ r o, p = some ⟨r, o, none⟩ ∧ r < W.heap.size ∧ ¬X r ∧ W.rangeAt r o (bp ps))
def bcells (x : Nd) (k : Int) (v : Value) : List Value := [.int .i64 x.kind, .int .i64 k, .string (strOf x.name), .int .i64 x.n, .string (strOf x.text), v]
inductive Br (W : World) (X : Nat → Prop) : Nat → List Nd → Prop
  | mk (b : Nat) (x : Nd) (k : Int) (v : Value) (cs : List (Nat × List Nd)) (hc : W.rangeAt b 0 (bcells x k v)) (ht : W.there b 0 6) (hb : b < W.heap.size) (hX : ¬X b)
      (hr : Row W X v (cs.map (·.1))) (hs : ∀ c ∈ cs, Br W X c.1 c.2) : Br W X b (join x (cs.map (·.2)))
theorem Row.only {F X : Nat → Prop} {W W' : World} {v : Value} {ps : List Nat} (h : Row W X v ps) (ho : Only F W W') (hF : ∀ i, i < W.heap.size → F i → X i) : Row W' X v ps := by
  obtain ⟨p, c, hv, hc, h | ⟨r, o, hp, hr, hx, hq⟩⟩ := h
  · exact ⟨p, c, hv, hc, .inl h⟩
  · exact ⟨p, c, hv, hc, .inr ⟨r, o, hp, Nat.lt_of_lt_of_le hr ho.size, hx, rangeAt_block hq (ho.block r hr (fun hf => hx (hF r hr hf)))⟩⟩
theorem Br.only {F X : Nat → Prop} {W W' : World} {b : Nat} {t : List Nd} (h : Br W X b t) (ho : Only F W W') (hF : ∀ i, i < W.heap.size → F i → X i) : Br W' X b t := by
  induction h with
  | mk b x k v cs hc ht hb hX hr _ ih =>
    have hk := ho.block b hb (fun hf => hX (hF b hb hf)); exact .mk b x k v cs (rangeAt_block hc hk) (there_block ht hk) (Nat.lt_of_lt_of_le hb ho.size) hX (hr.only ho hF) ih
theorem Row.weaken {X Y : Nat → Prop} {W : World} {v : Value} {ps : List Nat} (h : Row W X v ps) (hXY : ∀ i, i < W.heap.size → Y i → X i) : Row W Y v ps := by
  obtain ⟨p, c, hv, hc, h | ⟨r, o, hp, hr, hx, hq⟩⟩ := h
  · exact ⟨p, c, hv, hc, .inl h⟩
  · exact ⟨p, c, hv, hc, .inr ⟨r, o, hp, hr, fun hy => hx (hXY r hr hy), hq⟩⟩
theorem Br.weaken {X Y : Nat → Prop} {W : World} {b : Nat} {t : List Nd} (h : Br W X b t) (hXY : ∀ i, i < W.heap.size → Y i → X i) : Br W Y b t := by
  induction h with
  | mk b x k v cs hc ht hb hX hr _ ih => exact .mk b x k v cs hc ht hb (fun hy => hX (hXY b hb hy)) (hr.weaken hXY) ih
theorem Br.lt {X : Nat → Prop} {W : World} {b : Nat} {t : List Nd} (h : Br W X b t) : b < W.heap.size ∧ ¬X b := by cases h with | mk => exact ⟨by assumption, by assumption⟩
def offK (L : List Tk) (k : Nat) : Int := match L[k]? with
  | some t => t.place
  | none => match L.getLast? with
    | some t => t.place + 1
    | none => 0
def nx (L : List Tk) : St → Nat
  | .ok i => i
  | .bad _ => L.length
def isBad : St → Bool
  | .ok _ => false
  | .bad _ => true
def foff (L : List Tk) : St → Int
  | .ok _ => 0
  | .bad k => offK L k
def ToksX (W : World) (g : Nat) (v : Value) (ts : List Tk) : Prop := ∃ p c, v = .slice p ts.length c ∧ ts.length ≤ c ∧ (ts = [] ∨ ∃ r o, p = some ⟨r, o, none⟩ ∧ r < W.heap.size ∧ r ≠ g ∧ W.rangeAt r o (tcells ts))
def Places (L : List Tk) : Prop := ∀ t ∈ L, -9223372036854775808 ≤ t.place ∧ t.place ≤ 1099511627776
structure PS (L : List Tk) (g : Nat) (vt : Value) (W : World) (s : St) : Prop where
  cells : W.rangeAt g 0 [vt, .int .i64 (nx L s : Int), .bool (isBad s), .int .i64 (foff L s)]
  room : W.there g 0 4
  lt : g < W.heap.size
  toks : ToksX W g vt L
  le : nx L s ≤ L.length
  few : L.length ≤ 1000000
  places : Places L
theorem ToksX.only {F : Nat → Prop} {W W' : World} {g : Nat} {v : Value} {ts : List Tk} (h : ToksX W g v ts) (ho : Only F W W') (hF : ∀ i, i < W.heap.size → F i → i = g) : ToksX W' g v ts := by
  obtain ⟨p, c, hv, hc, h | ⟨r, o, hp, hr, hx, hq⟩⟩ := h
  · exact ⟨p, c, hv, hc, .inl h⟩
  · exact ⟨p, c, hv, hc, .inr ⟨r, o, hp, Nat.lt_of_lt_of_le hr ho.size, hx, rangeAt_block hq (ho.block r hr (fun hf => hx (hF r hr hf)))⟩⟩
theorem PS.below {L : List Tk} {g : Nat} {vt : Value} {W W' : World} {s : St} (h : PS L g vt W s) (hb : Below W.heap.size W W') : PS L g vt W' s :=
  ⟨rangeAt_block h.cells (hb.block g h.lt), there_block h.room (hb.block g h.lt), Nat.lt_of_lt_of_le h.lt hb.size, h.toks.only (Only.of_below (F := fun _ => False) hb) (fun _ _ h => h.elim), h.le, h.few, h.places⟩
theorem PS.at {L : List Tk} {g : Nat} {vt : Value} {W : World} {s : St} (h : PS L g vt W s) : W.cell? ⟨g, 0, none⟩ = some vt ∧ W.cell? ⟨g, 1, none⟩ = some (.int .i64 (nx L s : Int)) ∧ W.cell? ⟨g, 2, none⟩ = some (.bool (isBad s)) ∧ W.cell? ⟨g, 3, none⟩ = some (.int .i64 (foff L s)) :=
  ⟨h.cells 0 _ rfl, h.cells 1 _ rfl, h.cells 2 _ rfl, h.cells 3 _ rfl⟩
theorem Only.of_setCell {g j : Nat} {W : World} (v : Value) : Only (fun k => k = g) W (W.setCell ⟨g, j, none⟩ v) := Only.setCell (F := fun k => k = g) (Only.refl _ _) ⟨g, j, none⟩ rfl v
theorem PS.next {L : List Tk} {g i : Nat} {vt : Value} {W : World} (h : PS L g vt W (.ok i)) (hi : i < L.length) : PS L g vt (W.setCell ⟨g, 1, none⟩ (.int .i64 ((i : Int) + 1))) (.ok (i + 1)) := by
  refine ⟨?_, there_setCell h.room _ _, by simpa using h.lt, h.toks.only (Only.of_setCell (g := g) (j := 1) _) (fun _ _ h => h), hi, h.few, h.places⟩; obtain ⟨h0, h1, h2, h3⟩ := h.at; intro j u hj; rcases (show j = 0 ∨ j = 1 ∨ j = 2 ∨ j = 3 by have := (List.getElem?_eq_some_iff.1 hj).1; simp at this; omega) with rfl | rfl | rfl | rfl
  · rw [World.cell?_setCell_other _ _ _ _ (by simp)]; simp at hj; subst hj; exact h0
  · rw [show (0 + 1) = 1 from rfl, World.cell?_setCell_same _ _ _ h1]; simp at hj; subst hj; rfl
  · rw [World.cell?_setCell_other _ _ _ _ (by simp)]; simp at hj; subst hj; exact h2
  · rw [World.cell?_setCell_other _ _ _ _ (by simp)]; simp at hj; subst hj; exact h3
def failS : St → St
  | .ok i => .bad i
  | .bad k => .bad k
theorem PS.failed {L : List Tk} {g i : Nat} {vt : Value} {W : World} (h : PS L g vt W (.ok i)) : PS L g vt (((W.setCell ⟨g, 2, none⟩ (.bool true)).setCell ⟨g, 3, none⟩ (.int .i64 (offK L i))).setCell ⟨g, 1, none⟩ (.int .i64 (L.length : Int))) (.bad i) := by
  obtain ⟨h0, h1, h2, h3⟩ := h.at; refine ⟨?_, there_setCell (there_setCell (there_setCell h.room _ _) _ _) _ _, by simpa using h.lt, h.toks.only (((Only.of_setCell (g := g) (j := 2) _).setCell ⟨g, 3, none⟩ rfl _).setCell ⟨g, 1, none⟩ rfl _) (fun _ _ h => h), Nat.le_refl _, h.few, h.places⟩; intro j u hj; rcases (show j = 0 ∨ j = 1 ∨ j = 2 ∨ j = 3 by have := (List.getElem?_eq_some_iff.1 hj).1; simp at this; omega) with rfl | rfl | rfl | rfl
  · rw [World.cell?_setCell_other _ _ _ _ (by simp), World.cell?_setCell_other _ _ _ _ (by simp), World.cell?_setCell_other _ _ _ _ (by simp)]; simp at hj; subst hj; exact h0
  · rw [World.cell?_setCell_same _ _ _ (by rw [World.cell?_setCell_other _ _ _ _ (by simp), World.cell?_setCell_other _ _ _ _ (by simp)]; exact h1)]; simp at hj; subst hj; rfl
  · rw [World.cell?_setCell_other _ _ _ _ (by simp), World.cell?_setCell_other _ _ _ _ (by simp), World.cell?_setCell_same _ _ _ h2]; simp at hj; subst hj; rfl
  · rw [World.cell?_setCell_other _ _ _ _ (by simp), World.cell?_setCell_same _ _ _ (by rw [World.cell?_setCell_other _ _ _ _ (by simp)]; exact h3)]; simp at hj; subst hj; rfl
theorem ToksX.tok {W : World} {g : Nat} {p : Option Addr} {m c : Nat} {ts : List Tk} (h : ToksX W g (.slice p m c) ts) (i : Nat) (hi : i < ts.length) :
    ∃ r o, p = some ⟨r, o, none⟩ ∧ W.cell? ⟨r, o + i * 4, none⟩ = some (.int .i64 ts[i].kind) ∧ W.cell? ⟨r, o + i * 4 + 1, none⟩ = some (.string (strOf ts[i].text)) ∧ W.cell? ⟨r, o + i * 4 + 2, none⟩ = some (.int .i64 ts[i].n) ∧ W.cell? ⟨r, o + i * 4 + 3, none⟩ = some (.int .i64 ts[i].place) ∧ W.rangeAt r (o + i * 4) (ts[i]).cells := by
  obtain ⟨p', c', e, hc, h0 | ⟨r, o, hp, hg, hx, hr⟩⟩ := h
  · subst h0; simp at hi
  · cases e
    have q : ∀ j (hj : j < 4) u, (ts[i]).cells[j]? = some u → W.cell? ⟨r, o + i * 4 + j, none⟩ = some u := fun j hj u hu => by
      have := hr (i * 4 + j) u (by rw [tcells_at hi j hj]; exact hu)
      rwa [← Nat.add_assoc] at this
    refine ⟨r, o, hp, q 0 (by decide) _ rfl, q 1 (by decide) _ rfl, q 2 (by decide) _ rfl, q 3 (by decide) _ rfl, fun j u hu => ?_⟩; exact q j (by have := (List.getElem?_eq_some_iff.1 hu).1; exact this) u hu
theorem kd_at {L : List Tk} {i : Nat} (h : i < L.length) : kd L i = L[i].kind := by unfold kd; rw [List.getElem?_eq_getElem h]
theorem sg_at {L : List Tk} {i : Nat} (h : i < L.length) : sg L i = if L[i].kind = 5 ∨ L[i].kind = 4 then L[i].text else [] := by unfold sg; rw [List.getElem?_eq_getElem h]
theorem kd_end {L : List Tk} {i : Nat} (h : L.length ≤ i) : kd L i = 0 := by unfold kd; rw [List.getElem?_eq_none h]
theorem sg_end {L : List Tk} {i : Nat} (h : L.length ≤ i) : sg L i = [] := by unfold sg; rw [List.getElem?_eq_none h]
theorem sg_lt {L : List Tk} {i : Nat} (h : sg L i ≠ []) : i < L.length := by
  rcases Nat.lt_or_ge i L.length with h1 | h1
  · exact h1
  · exact absurd (sg_end h1) h
theorem kd_lt {L : List Tk} {i : Nat} (h : kd L i ≠ 0) : i < L.length := by
  rcases Nat.lt_or_ge i L.length with h1 | h1
  · exact h1
  · exact absurd (kd_end h1) h
theorem sg_kd {L : List Tk} {i : Nat} (h : sg L i ≠ []) : kd L i = 5 ∨ kd L i = 4 := by
  have hl := sg_lt h; rw [kd_at hl]; rw [sg_at hl] at h; by_cases hk : L[i].kind = 5 ∨ L[i].kind = 4
  · exact hk
  · rw [if_neg hk] at h; exact absurd rfl h
def kdS (L : List Tk) (s : St) : Int := kd L (nx L s)
def sgS (L : List Tk) (s : St) : List UInt8 := sg L (nx L s)
theorem kdS_bad (L : List Tk) (k : Nat) : kdS L (.bad k) = 0 := kd_end (Nat.le_refl _)
theorem sgS_bad (L : List Tk) (k : Nat) : sgS L (.bad k) = [] := sg_end (Nat.le_refl _)
def SB (W : World) (X : Nat → Prop) (b : Nat) (t : List Nd) : St → Prop
  | .ok _ => Br W X b t
  | .bad _ => b < W.heap.size ∧ ¬X b ∧ ∃ k, W.cell? ⟨b, 0, none⟩ = some (.int .i64 k)
theorem SB.lt {W : World} {X : Nat → Prop} {b : Nat} {t : List Nd} {s : St} (h : SB W X b t s) : b < W.heap.size ∧ ¬X b := by
  cases s with
  | ok i => exact Br.lt h
  | bad k => exact ⟨h.1, h.2.1⟩
theorem SB.only {F X : Nat → Prop} {W W' : World} {b : Nat} {t : List Nd} {s : St} (h : SB W X b t s) (ho : Only F W W') (hF : ∀ i, i < W.heap.size → F i → X i) : SB W' X b t s := by
  cases s with
  | ok i => exact Br.only h ho hF
  | bad k =>
    obtain ⟨h1, h2, q, h3⟩ := h; exact ⟨Nat.lt_of_lt_of_le h1 ho.size, h2, q, (World.cell?_of_block (a := ⟨b, 0, none⟩) (ho.block b h1 (fun hf => h2 (hF b h1 hf)))).trans h3⟩
theorem SB.weaken {X Y : Nat → Prop} {W : World} {b : Nat} {t : List Nd} {s : St} (h : SB W X b t s) (hXY : ∀ i, i < W.heap.size → Y i → X i) : SB W Y b t s := by
  cases s with
  | ok i => exact Br.weaken h hXY
  | bad k => exact ⟨h.1, fun hy => h.2.1 (hXY b h.1 hy), h.2.2⟩
theorem SB.bad {W : World} {X : Nat → Prop} {b i k : Nat} {t t' : List Nd} (h : SB W X b t (.ok i)) : SB W X b t' (.bad k) := by
  cases h with
  | mk b x q v cs hc ht hb hX hr hs => exact ⟨hb, hX, x.kind, hc 0 _ rfl⟩
structure RdOk (L : List Tk) (g : Nat) (vt : Value) (A : List Sy) (s : St) (w : World) (e : Ending) (w' : World) (b : Nat) (t : List Nd) (s' : St) : Prop where
  ret : e = .returned (ptr b)
  leads : Leads L A [] s [] [t] s'
  ps : PS L g vt w' s'
  only : Only (fun k => k = g) w w'
  br : SB w' (fun k => k < w.heap.size) b t s'
  le : nx L s ≤ nx L s'
def Rd (L : List Tk) (f : FuncId) (A : List Sy) (s : St) : Prop := ∀ (g : Nat) (vt : Value) (w : World), PS L g vt w s →
  Calls Tryz.prog f #[ptr g] w fun e w' => ∃ b t s', RdOk L g vt A s w e w' b t s'
end Go.Proofs.YtmljjpdodcpohaaGreatDoor.Pa

