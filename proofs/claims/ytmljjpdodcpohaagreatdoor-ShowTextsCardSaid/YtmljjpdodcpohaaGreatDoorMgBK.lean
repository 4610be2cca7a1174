/- The walks of the printer's list, keyword, block, stmt: their contracts. No condition but those that each states. -/
import Derived.Test.YtmljjpdodcpohaaGreatDoorMgBJ
namespace Go.Proofs.YtmljjpdodcpohaaGreatDoor.Sw
open Lib (hid)
set_option maxRecDepth 100000
set_option maxHeartbeats 4000000
open Go.RowKit Dk Lx Tr Pa
def remX (c : Cat) (n i : Nat) : List PSy := if i = 0 then (match n with
  | 0 => [sg [41]]
  | m + 1 => .nd c :: (sepX c m ++ [sg [41]])) else sepX c (n - i) ++ [sg [41]]
theorem list_prt {w0 : World} {g h B N : Nat} (Fe : FuncId) (hF : Pa.Enters Fe) (c : Cat) (n : Nat) (hn6 : n ≤ 1000000) (hE : Prt w0 g h B Fe #[ptr g] [.nd c] N) : Prt w0 g h B 92 #[ptr g, .int .i64 (n : Int), .func (.func Fe) #[ptr g] #[]] (lstX c n) N := by
  intro W l l' ts o hl hp hn hf p; have HE := hid hE; have hcall := hF #[ptr g]
  have hp0 : ∃ o', o = sgn [40] :: o' ∧ Prn (remX c n 0) l o' l' := by
    cases n with
    | zero =>
      obtain ⟨o', rfl, h1⟩ := hp.tok_inv; exact ⟨o', rfl, h1⟩
    | succ n =>
      obtain ⟨o', rfl, h1⟩ := hp.tok_inv; exact ⟨o', rfl, h1⟩
  obtain ⟨o', rfl, hp1⟩ := hp0; have HP1 := hid hp1; have HF := hid hf; have HLN := hid (And.intro hl hn); have P0 := hid p; clear hp hp1 hf hl hn p hE hF; go_enter Tryz.func92, Tryz.ntmps92
  have X := hid (signs1 [40] P0.out (by have := HF.out; simp at this ⊢; omega))
  go_wp2_with fail
  refine X.out.mono ?_; rintro e w1 ⟨rfl, hp', hs'⟩; have P1 := hid hp'; have S1 := hid hs'; clear hp' hs' X P0; go_wp2; go_loopw [11] (fun vi wr => ∃ (i : Nat) (li : List Nd) (ti oi : List Tk), i ≤ n ∧ vi = .int .i64 (i : Int) ∧ Hid (PW w0 g h B wr li ti) ∧ Hid (Step g h W wr) ∧ Hid (Prn (remX c n i) li oi l') ∧ Hid (ts ++ sgn [40] :: o' = ti ++ oi) ∧ Hid (li.length < N ∧ FitN li)) (fun vi _ => n - (intOf vi).toNat)
  case atStart => exact ⟨0, l, _, o', Nat.zero_le _, rfl, P1, S1, HP1, hid (by simp), HLN⟩
  case round =>
    clear P1 S1 HP1 HLN; obtain ⟨i, li, ti, oi, hi, rfl, P2, S2, HP2, HEQ, HLN⟩ := hrel; have HBD : Hid (ti.length + oi.length ≤ 99999990) := hid (by have h1 := HF.out; have h2 := congrArg List.length HEQ.out; simp only [List.length_append, List.length_cons] at h1 h2; omega)
    by_cases hlt : i < n
    · have z1 : (i : Int) < (n : Int) := by omega
      by_cases h0 : i = 0
      · have z2 : ¬(i : Int) > 0 := by omega
        have e1 : remX c n i = .nd c :: (sepX c (n - (i + 1)) ++ [sg [41]]) := by
          unfold remX; rw [if_pos h0]; obtain ⟨m, rfl⟩ : ∃ m, n = m + 1 := ⟨n - 1, by omega⟩; rw [h0]; rfl
        have hq := HP2.out; rw [e1] at hq; obtain ⟨o1, o2, l1, he, hp1, hp2⟩ := hq.nd_cons; have HO := hid he; have X := hid (HE.out _ _ _ ti _ HLN.out.1 hp1 HLN.out.2 (by have := HBD.out; rw [he, List.length_append] at this; omega) P2.out)
        have HP3 : Hid (Prn (remX c n (i + 1)) l1 o2 l') := hid (by unfold remX; rw [if_neg (by omega)]; exact hp2)
        have HL3 := hid (fit_len hp1 HLN.out.1 HLN.out.2); clear he hp1 hp2 hq e1 h0; go_wp2_with fail
        refine X.out.mono ?_; rintro e w3 ⟨rfl, hp', hs'⟩; have P3 := hid hp'; have S3 := hid (S2.out.trans hs'); clear hp' hs' X; go_wp2; go_roundw
        case rel => exact ⟨i + 1, l1, _, o2, by omega, by go_num, P3, S3, HP3, hid (by rw [HEQ.out, HO.out, List.append_assoc]), HL3⟩
        case measure => simp [intOf]; omega
      · have z2 : (i : Int) > 0 := by omega
        have e1 : remX c n i = sg [44] :: .nd c :: (sepX c (n - (i + 1)) ++ [sg [41]]) := by
          unfold remX; rw [if_neg h0, show n - i = (n - (i + 1)) + 1 by omega]; rfl
        have hq := HP2.out; rw [e1] at hq; obtain ⟨o0, he0, hq⟩ := hq.tok_inv; obtain ⟨o1, o2, l1, he, hp1, hp2⟩ := hq.nd_cons; have HO : Hid (oi = sgn [44] :: (o1 ++ o2)) := hid (by rw [he0, he]); have hb := HBD.out; rw [HO.out, List.length_cons, List.length_append] at hb; have HB5 := hid hb; have X := hid (signs1 [44] P2.out (by omega)); have HP3 : Hid (Prn (remX c n (i + 1)) l1 o2 l') := hid (by unfold remX; rw [if_neg (by omega)]; exact hp2)
        have HL3 := hid (fit_len hp1 HLN.out.1 HLN.out.2); have HP1 := hid hp1; clear he hp1 hp2 he0 hq hb e1 h0; go_wp2_with fail
        refine X.out.mono ?_; rintro e w3 ⟨rfl, hp', hs'⟩; have P3 := hid hp'; have S3 := hid (S2.out.trans hs'); clear hp' hs' X; have X := hid (HE.out _ _ _ (ti ++ [sgn [44]]) _ HLN.out.1 HP1.out HLN.out.2 (by have := HB5.out; rw [List.length_append, List.length_singleton]; omega) P3.out)
        go_wp2_with fail
        refine X.out.mono ?_; rintro e w4 ⟨rfl, hp', hs'⟩; have P4 := hid hp'; have S4 := hid (S3.out.trans hs'); clear hp' hs' X; go_wp2; go_roundw
        case rel => exact ⟨i + 1, l1, _, o2, by omega, by go_num, P4, S4, HP3, hid (by rw [HEQ.out, HO.out]; simp), HL3⟩
        case measure => simp [intOf]; omega
    · obtain rfl : i = n := by omega
      have e1 : remX c i i = [sg [41]] := by
        unfold remX; by_cases h0 : i = 0
        · subst h0; rfl
        · rw [if_neg h0, Nat.sub_self]; rfl
      have hq := HP2.out; rw [e1] at hq; obtain ⟨o0, he0, hq⟩ := hq.tok_inv; cases hq
      have HO := hid he0; have X := hid (signs1 [41] P2.out (by have := HBD.out; rw [he0] at this; simp at this ⊢; omega))
      clear he0 e1 hlt hi; go_wp2_with fail
      refine X.out.mono ?_; rintro e w3 ⟨rfl, hp', hs'⟩; have P3 := hid hp'; have S3 := hid (S2.out.trans hs'); clear hp' hs' X; go_wp2; refine bodyPost_end (results_none rfl _ _ _) rfl ?_; exact ⟨rfl, by rw [HEQ.out, HO.out]; exact P3.out, S3.out⟩
theorem keyword_6 (w : World) : Calls Tryz.prog 209 #[.int .i64 6] w fun e w' => e = .returned (.string ⟨#[108, 101, 116]⟩) ∧ w = w' := by
  go_enter Tryz.func209, Tryz.ntmps209
  go_wp2; go_ret; exact ⟨rfl, rfl⟩
theorem keyword_7 (w : World) : Calls Tryz.prog 209 #[.int .i64 7] w fun e w' => e = .returned (.string ⟨#[]⟩) ∧ w = w' := by
  go_enter Tryz.func209, Tryz.ntmps209
  go_wp2; go_ret; exact ⟨rfl, rfl⟩
theorem keyword_8 (w : World) : Calls Tryz.prog 209 #[.int .i64 8] w fun e w' => e = .returned (.string ⟨#[]⟩) ∧ w = w' := by
  go_enter Tryz.func209, Tryz.ntmps209
  go_wp2; go_ret; exact ⟨rfl, rfl⟩
theorem keyword_9 (w : World) : Calls Tryz.prog 209 #[.int .i64 9] w fun e w' => e = .returned (.string ⟨#[105, 102]⟩) ∧ w = w' := by
  go_enter Tryz.func209, Tryz.ntmps209
  go_wp2; go_ret; exact ⟨rfl, rfl⟩
theorem keyword_10 (w : World) : Calls Tryz.prog 209 #[.int .i64 10] w fun e w' => e = .returned (.string ⟨#[119, 104, 105, 108, 101]⟩) ∧ w = w' := by
  go_enter Tryz.func209, Tryz.ntmps209
  go_wp2; go_ret; exact ⟨rfl, rfl⟩
theorem keyword_11 (w : World) : Calls Tryz.prog 209 #[.int .i64 11] w fun e w' => e = .returned (.string ⟨#[98, 114, 101, 97, 107]⟩) ∧ w = w' := by
  go_enter Tryz.func209, Tryz.ntmps209
  go_wp2; go_ret; exact ⟨rfl, rfl⟩
theorem keyword_12 (w : World) : Calls Tryz.prog 209 #[.int .i64 12] w fun e w' => e = .returned (.string ⟨#[99, 111, 110, 116, 105, 110, 117, 101]⟩) ∧ w = w' := by
  go_enter Tryz.func209, Tryz.ntmps209
  go_wp2; go_ret; exact ⟨rfl, rfl⟩
theorem keyword_13 (w : World) : Calls Tryz.prog 209 #[.int .i64 13] w fun e w' => e = .returned (.string ⟨#[114, 101, 116, 117, 114, 110]⟩) ∧ w = w' := by
  go_enter Tryz.func209, Tryz.ntmps209
  go_wp2; go_ret; exact ⟨rfl, rfl⟩
theorem keyword_14 (w : World) : Calls Tryz.prog 209 #[.int .i64 14] w fun e w' => e = .returned (.string ⟨#[112, 117, 116]⟩) ∧ w = w' := by
  go_enter Tryz.func209, Tryz.ntmps209
  go_wp2; go_ret; exact ⟨rfl, rfl⟩
theorem keyword_15 (w : World) : Calls Tryz.prog 209 #[.int .i64 15] w fun e w' => e = .returned (.string ⟨#[101, 109, 105, 116]⟩) ∧ w = w' := by
  go_enter Tryz.func209, Tryz.ntmps209
  go_wp2; go_ret; exact ⟨rfl, rfl⟩
theorem keyword_16 (w : World) : Calls Tryz.prog 209 #[.int .i64 16] w fun e w' => e = .returned (.string ⟨#[121, 105, 101, 108, 100]⟩) ∧ w = w' := by
  go_enter Tryz.func209, Tryz.ntmps209
  go_wp2; go_ret; exact ⟨rfl, rfl⟩
theorem keyword_17 (w : World) : Calls Tryz.prog 209 #[.int .i64 17] w fun e w' => e = .returned (.string ⟨#[]⟩) ∧ w = w' := by
  go_enter Tryz.func209, Tryz.ntmps209
  go_wp2; go_ret; exact ⟨rfl, rfl⟩
theorem block_prt {w0 : World} {g h B N : Nat} (hS : Prt w0 g h B 186 #[ptr g] [.nd .st] N) (hN : N ≤ 1000000) : Prt w0 g h B 155 #[ptr g] [.nd .blk] (N + 1) := by
  intro W l l' ts o hl0 hp hn0 hf p; have HST := hid hS; obtain ⟨x, r, rfl, hc, hkx, hfx, hq0⟩ := hp.nd_inv; clear hp; have hl : r.length < N := by rw [List.length_cons] at hl0; omega
  have hn : FitN r := fun y hy => hn0 y (List.mem_cons_of_mem _ hy)
  obtain ⟨k, d, q, z, s⟩ := x; obtain rfl : k = 5 := eq_of_beq (show (k == 5) = true from hc); change Prn (sg [123] :: (List.replicate d.toNat (.nd .st) ++ [sg [125]])) r o l' at hq0; have hless := hq0.less; change d = (((cats (List.replicate d.toNat (.nd .st) ++ [sg [125]])).length : Nat) : Int) at hkx; rw [cats_app, cats_rep, List.length_append, List.length_replicate] at hkx
  have hless2 : d.toNat ≤ r.length := by
    have e : (cats (sg [123] :: (List.replicate d.toNat (.nd .st) ++ [sg [125]]))).length = (cats (List.replicate d.toNat (.nd .st) ++ [sg [125]])).length := rfl; rw [e, cats_app, cats_rep, List.length_append, List.length_replicate] at hless; omega
  obtain ⟨o', rfl, hq1⟩ := hq0.tok_inv; obtain ⟨n, rfl⟩ : ∃ n : Nat, d = (n : Int) := ⟨d.toNat, by have : (cats [sg [125]]).length = 0 := rfl; omega⟩
  rw [Int.toNat_natCast] at hq1 hless2; have hn6 : n ≤ 1000000 := by omega
  have HQ := hid hq1; have HLN := hid (And.intro hl hn); clear hless hkx hq0 hq1 hc hfx hless2; have P0 := hid p; have S0 := hid (Step.refl g h W); have HF := hid hf; have HB := hid p.hB; clear p hf hl hn hl0 hn0 hS; have HI : Hid ((Tryz.prog.info? 58).map (·.size) = some [Value.int .i64 5, .int .i64 (n : Int), .string (strOf q), .int .i64 z, .string (strOf s)].length) := hid (n_info ⟨5, (n : Int), q, z, s⟩); have HIA : Hid ((Tryz.prog.info? 58).map (·.size) = some (Nd.cells ⟨5, (n : Int), q, z, s⟩).toArray.size) := hid (n_infoA _); have HLA : Hid ((Nd.cells ⟨5, (n : Int), q, z, s⟩).toArray.all (·.oneCell') = true) := hid (n_all _); go_enter Tryz.func155, Tryz.ntmps155
  have X := hid (next_any P0.out); go_wp2_with fail
  refine X.out.mono ?_; rintro e w1 ⟨rfl, hp', hs'⟩; have P1 := hid hp'; have S1 := hid (S0.out.trans hs'); clear hp' hs' P0 S0 X; simp only [Nd.cells]; have HZN := hid (nb_zero w1); have HPN := hid (nb_put w1 ⟨5, (n : Int), q, z, s⟩); have BN := hid (LB.start P1.out ⟨5, (n : Int), q, z, s⟩)
  go_upto_region 1 with (first
    | (refine wpList_store_mid rfl 58 (.tmp 2) (.tmp 4) rfl w1.heap.size 0 (Nd.cells ⟨5, (n : Int), q, z, s⟩).toArray rfl rfl HZN.out.room HIA.out HLA.out ?_; generalize World.setCells _ _ _ _ = w2 at HPN BN ⊢)
    | fail)
  have P2 := hid (P1.out.later HPN.out.2); have S2 := hid (S1.out.trans (P1.out.step HPN.out.2)); obtain ⟨b, hb⟩ : ∃ b, b = w1.heap.size := ⟨_, rfl⟩; rw [← hb] at BN ⊢; have B2 := hid BN.out; obtain ⟨c0, c1, c2, c3, c4⟩ := B2.out.nb.at; clear HZN HPN BN hb P1 S1; simp only at c0 c1 c2 c3 c4; have X := hid (signs1 [123] P2.out (by have := HF.out; simp at this ⊢; omega))
  go_wp2_with fail
  refine X.out.mono ?_; rintro e w3 ⟨rfl, hp', hs'⟩; have P3 := hid hp'; have S3 := hid (S2.out.trans hs'); have B3 := hid (B2.out.step hs'); clear c0 c1 c2 c3 c4; obtain ⟨c0, c1, c2, c3, c4⟩ := B3.out.nb.at; clear hp' hs' P2 S2 B2 X; simp only at c0 c1 c2 c3 c4; go_wp2; go_loopw [10] (fun vi wr => ∃ (i : Nat) (li : List Nd) (ti oi : List Tk), i ≤ n ∧ vi = .int .i64 (i : Int) ∧ Hid (PW w0 g h B wr li ti) ∧ Hid (Step g h W wr) ∧ Hid (Prn (List.replicate (n - i) (.nd .st) ++ [sg [125]]) li oi l') ∧ Hid (ts ++ sgn [123] :: o' = ti ++ oi) ∧ Hid (li.length < N ∧ FitN li)) (fun vi _ => n - (intOf vi).toNat)
  case atStart => exact ⟨0, r, _, o', Nat.zero_le _, rfl, P3, S3, HQ, hid (by simp), HLN⟩
  case round =>
    clear P3 S3 HQ HLN B3 c0 c1 c2 c3 c4; obtain ⟨i, li, ti, oi, hi, rfl, P2, S2, HP2, HEQ, HLN⟩ := hrel; have HBD : Hid (ti.length + oi.length ≤ 99999990) := hid (by have h1 := HF.out; have h2 := congrArg List.length HEQ.out; simp only [List.length_append, List.length_cons] at h1 h2; omega)
    by_cases hlt : i < n
    · have z1 : (i : Int) < (n : Int) := by omega
      have hq := HP2.out; rw [show n - i = (n - (i + 1)) + 1 by omega, List.replicate_succ, List.cons_append] at hq; obtain ⟨o1, o2, l1, he, hp1, hp2⟩ := hq.nd_cons; have HO := hid he; have X := hid (HST.out _ _ _ ti _ HLN.out.1 hp1 HLN.out.2 (by have := HBD.out; rw [he, List.length_append] at this; omega) P2.out)
      have HP3 := hid hp2; have HL3 := hid (fit_len hp1 HLN.out.1 HLN.out.2); clear he hp1 hp2 hq; go_wp2_with fail
      refine X.out.mono ?_; rintro e w3 ⟨rfl, hp', hs'⟩; have P3 := hid hp'; have S3 := hid (S2.out.trans hs'); clear hp' hs' X; go_wp2; go_roundw
      case rel => exact ⟨i + 1, l1, _, o2, by omega, by go_num, P3, S3, HP3, hid (by rw [HEQ.out, HO.out, List.append_assoc]), HL3⟩
      case measure => simp [intOf]; omega
    · obtain rfl : i = n := by omega
      have hq := HP2.out; rw [Nat.sub_self] at hq; obtain ⟨o0, he0, hq⟩ := Prn.tok_inv (A := []) hq; cases hq
      have HO := hid he0; have X := hid (signs1 [125] P2.out (by have := HBD.out; rw [he0] at this; simp at this ⊢; omega))
      clear he0 hlt hi; go_wp2_with fail
      refine X.out.mono ?_; rintro e w3 ⟨rfl, hp', hs'⟩; have P3 := hid hp'; have S3 := hid (S2.out.trans hs'); clear hp' hs' X; go_wp2; refine bodyPost_end (results_none rfl _ _ _) rfl ?_; exact ⟨rfl, by rw [HEQ.out, HO.out]; exact P3.out, S3.out⟩
theorem stmt_6 {w0 : World} {g h B N : Nat} (hE : Prt w0 g h B 50 #[ptr g] [.nd .ex] N) (q : List UInt8) (z : Int) (s : List UInt8) {W : World} {r l' : List Nd} {ts o : List Tk} (hl : r.length < N) (hp : Prn [sg [108, 101, 116], nm q, sg [61], .nd .ex, sg [59]] r o l') (hn : FitN r) (hf : ts.length + o.length ≤ 99999990) (p : PW w0 g h B W (⟨6, 1, q, z, s⟩ :: r) ts) : Calls Tryz.prog 186 #[ptr g] W fun e W' => PrOk w0 g h B W l' (ts ++ o) e W' := by
  have HE := hid hE; have K1 := hid (And.intro hl hn); obtain ⟨_, rfl, hq1⟩ := hp.tok_inv; clear hp; obtain ⟨_, rfl, hq2⟩ := hq1.tok_inv; clear hq1; obtain ⟨_, rfl, hq3⟩ := hq2.tok_inv; clear hq2; obtain ⟨o1, _, l1, rfl, hp1, hq4⟩ := hq3.nd_cons; clear hq3; have H1 := hid hp1; have K2 := hid (fit_len hp1 K1.out.1 K1.out.2); clear hp1; obtain ⟨_, rfl, hq5⟩ := hq4.tok_inv; clear hq4; cases hq5
  have P0 := hid p; have S0 := hid (Step.refl g h W); have HF := hid hf; have HB := hid p.hB; clear p hf hl hn hE; have HI : Hid ((Tryz.prog.info? 58).map (·.size) = some [Value.int .i64 6, .int .i64 1, .string (strOf q), .int .i64 z, .string (strOf s)].length) := hid (n_info ⟨6, 1, q, z, s⟩); have HIA : Hid ((Tryz.prog.info? 58).map (·.size) = some (Nd.cells ⟨6, 1, q, z, s⟩).toArray.size) := hid (n_infoA _); have HLA : Hid ((Nd.cells ⟨6, 1, q, z, s⟩).toArray.all (·.oneCell') = true) := hid (n_all _); go_enter Tryz.func186, Tryz.ntmps186
  have X := hid (next_any P0.out); go_wp2_with fail
  refine X.out.mono ?_; rintro e w1 ⟨rfl, hp', hs'⟩; have P1 := hid hp'; have S1 := hid (S0.out.trans hs'); clear hp' hs' P0 S0 X; simp only [Nd.cells]; have HZN := hid (nb_zero w1); have HPN := hid (nb_put w1 ⟨6, 1, q, z, s⟩); have BN := hid (LB.start P1.out ⟨6, 1, q, z, s⟩)
  go_upto_region 1 with (first
    | (refine wpList_store_mid rfl 58 (.tmp 2) (.tmp 5) rfl w1.heap.size 0 (Nd.cells ⟨6, 1, q, z, s⟩).toArray rfl rfl HZN.out.room HIA.out HLA.out ?_; generalize World.setCells _ _ _ _ = w2 at HPN BN ⊢)
    | fail)
  have P2 := hid (P1.out.later HPN.out.2); have S2 := hid (S1.out.trans (P1.out.step HPN.out.2)); obtain ⟨b, hb⟩ : ∃ b, b = w1.heap.size := ⟨_, rfl⟩; rw [← hb] at BN ⊢; have B2 := hid BN.out; obtain ⟨c0, c1, c2, c3, c4⟩ := B2.out.nb.at; clear HZN HPN BN hb P1 S1; simp only at c0 c1 c2 c3 c4; have X := hid (keyword_6 w2); go_wp2_with fail
  refine X.out.mono ?_; rintro e w9 ⟨rfl, rfl⟩; clear X; have X := hid (signs1 [108, 101, 116] P2.out (by have := HF.out; simp at this ⊢; omega))
  go_wp2_with fail
  refine X.out.mono ?_; rintro e w3 ⟨rfl, hp', hs'⟩; have P3 := hid hp'; have S3 := hid (S2.out.trans hs'); have B3 := hid (B2.out.step hs'); clear c0 c1 c2 c3 c4; obtain ⟨c0, c1, c2, c3, c4⟩ := B3.out.nb.at; clear hp' hs' P2 S2 B2 X; simp only at c0 c1 c2 c3 c4; have X := hid (pname_any q P3.out (by have := HF.out; simp at this ⊢; omega))
  go_wp2_with fail
  refine X.out.mono ?_; rintro e w4 ⟨rfl, hp', hs'⟩; have P4 := hid hp'; have S4 := hid (S3.out.trans hs'); have B4 := hid (B3.out.step hs'); clear c0 c1 c2 c3 c4; obtain ⟨c0, c1, c2, c3, c4⟩ := B4.out.nb.at; clear hp' hs' P3 S3 B3 X; simp only at c0 c1 c2 c3 c4; have X := hid (signs1 [61] P4.out (by have := HF.out; simp at this ⊢; omega))
  go_wp2_with fail
  refine X.out.mono ?_; rintro e w5 ⟨rfl, hp', hs'⟩; have P5 := hid hp'; have S5 := hid (S4.out.trans hs'); have B5 := hid (B4.out.step hs'); clear c0 c1 c2 c3 c4; obtain ⟨c0, c1, c2, c3, c4⟩ := B5.out.nb.at; clear hp' hs' P4 S4 B4 X; simp only at c0 c1 c2 c3 c4; have X := hid (HE.out _ _ _ (((ts ++ [sgn [108, 101, 116]]) ++ [nmT q]) ++ [sgn [61]]) _ K1.out.1 H1.out K1.out.2 (by have := HF.out; simp at this ⊢; omega) P5.out)
  go_wp2_with fail
  refine X.out.mono ?_; rintro e w6 ⟨rfl, hp', hs'⟩; have P6 := hid hp'; have S6 := hid (S5.out.trans hs'); have B6 := hid (B5.out.step hs'); clear c0 c1 c2 c3 c4; obtain ⟨c0, c1, c2, c3, c4⟩ := B6.out.nb.at; clear hp' hs' P5 S5 B5 X; simp only at c0 c1 c2 c3 c4; have X := hid (signs1 [59] P6.out (by have := HF.out; simp at this ⊢; omega))
  go_wp2_with fail
  refine X.out.mono ?_; rintro e w7 ⟨rfl, hp', hs'⟩; have P7 := hid hp'; have S7 := hid (S6.out.trans hs'); have B7 := hid (B6.out.step hs'); clear c0 c1 c2 c3 c4; obtain ⟨c0, c1, c2, c3, c4⟩ := B7.out.nb.at; clear hp' hs' P6 S6 B6 X; simp only at c0 c1 c2 c3 c4; go_wp2; refine bodyPost_end (results_none rfl _ _ _) rfl ?_; exact ⟨rfl, by have := P7.out; simpa [List.append_assoc] using this, S7.out⟩
theorem stmt_7 {w0 : World} {g h B N : Nat} (hE : Prt w0 g h B 50 #[ptr g] [.nd .ex] N) (q : List UInt8) (z : Int) (s : List UInt8) {W : World} {r l' : List Nd} {ts o : List Tk} (hl : r.length < N) (hp : Prn [nm q, sg [61], .nd .ex, sg [59]] r o l') (hn : FitN r) (hf : ts.length + o.length ≤ 99999990) (p : PW w0 g h B W (⟨7, 1, q, z, s⟩ :: r) ts) : Calls Tryz.prog 186 #[ptr g] W fun e W' => PrOk w0 g h B W l' (ts ++ o) e W' := by
  have HE := hid hE; have K1 := hid (And.intro hl hn); obtain ⟨_, rfl, hq1⟩ := hp.tok_inv; clear hp; obtain ⟨_, rfl, hq2⟩ := hq1.tok_inv; clear hq1; obtain ⟨o1, _, l1, rfl, hp1, hq3⟩ := hq2.nd_cons; clear hq2; have H1 := hid hp1; have K2 := hid (fit_len hp1 K1.out.1 K1.out.2); clear hp1; obtain ⟨_, rfl, hq4⟩ := hq3.tok_inv; clear hq3; cases hq4
  have P0 := hid p; have S0 := hid (Step.refl g h W); have HF := hid hf; have HB := hid p.hB; clear p hf hl hn hE; have HI : Hid ((Tryz.prog.info? 58).map (·.size) = some [Value.int .i64 7, .int .i64 1, .string (strOf q), .int .i64 z, .string (strOf s)].length) := hid (n_info ⟨7, 1, q, z, s⟩); have HIA : Hid ((Tryz.prog.info? 58).map (·.size) = some (Nd.cells ⟨7, 1, q, z, s⟩).toArray.size) := hid (n_infoA _); have HLA : Hid ((Nd.cells ⟨7, 1, q, z, s⟩).toArray.all (·.oneCell') = true) := hid (n_all _); go_enter Tryz.func186, Tryz.ntmps186
  have X := hid (next_any P0.out); go_wp2_with fail
  refine X.out.mono ?_; rintro e w1 ⟨rfl, hp', hs'⟩; have P1 := hid hp'; have S1 := hid (S0.out.trans hs'); clear hp' hs' P0 S0 X; simp only [Nd.cells]; have HZN := hid (nb_zero w1); have HPN := hid (nb_put w1 ⟨7, 1, q, z, s⟩); have BN := hid (LB.start P1.out ⟨7, 1, q, z, s⟩)
  go_upto_region 1 with (first
    | (refine wpList_store_mid rfl 58 (.tmp 2) (.tmp 5) rfl w1.heap.size 0 (Nd.cells ⟨7, 1, q, z, s⟩).toArray rfl rfl HZN.out.room HIA.out HLA.out ?_; generalize World.setCells _ _ _ _ = w2 at HPN BN ⊢)
    | fail)
  have P2 := hid (P1.out.later HPN.out.2); have S2 := hid (S1.out.trans (P1.out.step HPN.out.2)); obtain ⟨b, hb⟩ : ∃ b, b = w1.heap.size := ⟨_, rfl⟩; rw [← hb] at BN ⊢; have B2 := hid BN.out; obtain ⟨c0, c1, c2, c3, c4⟩ := B2.out.nb.at; clear HZN HPN BN hb P1 S1; simp only at c0 c1 c2 c3 c4; have X := hid (keyword_7 w2); go_wp2_with fail
  refine X.out.mono ?_; rintro e w9 ⟨rfl, rfl⟩; clear X; have X := hid (pname_any q P2.out (by have := HF.out; simp at this ⊢; omega))
  go_wp2_with fail
  refine X.out.mono ?_; rintro e w3 ⟨rfl, hp', hs'⟩; have P3 := hid hp'; have S3 := hid (S2.out.trans hs'); have B3 := hid (B2.out.step hs'); clear c0 c1 c2 c3 c4; obtain ⟨c0, c1, c2, c3, c4⟩ := B3.out.nb.at; clear hp' hs' P2 S2 B2 X; simp only at c0 c1 c2 c3 c4; have X := hid (signs1 [61] P3.out (by have := HF.out; simp at this ⊢; omega))
  go_wp2_with fail
  refine X.out.mono ?_; rintro e w4 ⟨rfl, hp', hs'⟩; have P4 := hid hp'; have S4 := hid (S3.out.trans hs'); have B4 := hid (B3.out.step hs'); clear c0 c1 c2 c3 c4; obtain ⟨c0, c1, c2, c3, c4⟩ := B4.out.nb.at; clear hp' hs' P3 S3 B3 X; simp only at c0 c1 c2 c3 c4; have X := hid (HE.out _ _ _ ((ts ++ [nmT q]) ++ [sgn [61]]) _ K1.out.1 H1.out K1.out.2 (by have := HF.out; simp at this ⊢; omega) P4.out)
  go_wp2_with fail
  refine X.out.mono ?_; rintro e w5 ⟨rfl, hp', hs'⟩; have P5 := hid hp'; have S5 := hid (S4.out.trans hs'); have B5 := hid (B4.out.step hs'); clear c0 c1 c2 c3 c4; obtain ⟨c0, c1, c2, c3, c4⟩ := B5.out.nb.at; clear hp' hs' P4 S4 B4 X; simp only at c0 c1 c2 c3 c4; have X := hid (signs1 [59] P5.out (by have := HF.out; simp at this ⊢; omega))
  go_wp2_with fail
  refine X.out.mono ?_; rintro e w6 ⟨rfl, hp', hs'⟩; have P6 := hid hp'; have S6 := hid (S5.out.trans hs'); have B6 := hid (B5.out.step hs'); clear c0 c1 c2 c3 c4; obtain ⟨c0, c1, c2, c3, c4⟩ := B6.out.nb.at; clear hp' hs' P5 S5 B5 X; simp only at c0 c1 c2 c3 c4; go_wp2; refine bodyPost_end (results_none rfl _ _ _) rfl ?_; exact ⟨rfl, by have := P6.out; simpa [List.append_assoc] using this, S6.out⟩
theorem stmt_8 {w0 : World} {g h B N : Nat} (hE : Prt w0 g h B 50 #[ptr g] [.nd .ex] N) (q : List UInt8) (z : Int) (s : List UInt8) {W : World} {r l' : List Nd} {ts o : List Tk} (hl : r.length < N) (hp : Prn [.nd .ex, sg [91], .nd .ex, sg [93], sg [61], .nd .ex, sg [59]] r o l') (hn : FitN r) (hf : ts.length + o.length ≤ 99999990) (p : PW w0 g h B W (⟨8, 3, q, z, s⟩ :: r) ts) : Calls Tryz.prog 186 #[ptr g] W fun e W' => PrOk w0 g h B W l' (ts ++ o) e W' := by
  have HE := hid hE; have HIX := hid (index_prt hE); have K1 := hid (And.intro hl hn); obtain ⟨o1, _, l1, rfl, hp1, hq1⟩ := hp.split [.nd .ex, sg [91], .nd .ex, sg [93]] _ rfl; clear hp; have H1 := hid hp1; have K2 := hid (fit_len hp1 K1.out.1 K1.out.2); clear hp1; obtain ⟨_, rfl, hq2⟩ := hq1.tok_inv; clear hq1; obtain ⟨o2, _, l2, rfl, hp2, hq3⟩ := hq2.nd_cons; clear hq2; have H2 := hid hp2; have K3 := hid (fit_len hp2 K2.out.1 K2.out.2); clear hp2; obtain ⟨_, rfl, hq4⟩ := hq3.tok_inv; clear hq3; cases hq4
  have P0 := hid p; have S0 := hid (Step.refl g h W); have HF := hid hf; have HB := hid p.hB; clear p hf hl hn hE; have HI : Hid ((Tryz.prog.info? 58).map (·.size) = some [Value.int .i64 8, .int .i64 3, .string (strOf q), .int .i64 z, .string (strOf s)].length) := hid (n_info ⟨8, 3, q, z, s⟩); have HIA : Hid ((Tryz.prog.info? 58).map (·.size) = some (Nd.cells ⟨8, 3, q, z, s⟩).toArray.size) := hid (n_infoA _); have HLA : Hid ((Nd.cells ⟨8, 3, q, z, s⟩).toArray.all (·.oneCell') = true) := hid (n_all _); go_enter Tryz.func186, Tryz.ntmps186
  have X := hid (next_any P0.out); go_wp2_with fail
  refine X.out.mono ?_; rintro e w1 ⟨rfl, hp', hs'⟩; have P1 := hid hp'; have S1 := hid (S0.out.trans hs'); clear hp' hs' P0 S0 X; simp only [Nd.cells]; have HZN := hid (nb_zero w1); have HPN := hid (nb_put w1 ⟨8, 3, q, z, s⟩); have BN := hid (LB.start P1.out ⟨8, 3, q, z, s⟩)
  go_upto_region 1 with (first
    | (refine wpList_store_mid rfl 58 (.tmp 2) (.tmp 5) rfl w1.heap.size 0 (Nd.cells ⟨8, 3, q, z, s⟩).toArray rfl rfl HZN.out.room HIA.out HLA.out ?_; generalize World.setCells _ _ _ _ = w2 at HPN BN ⊢)
    | fail)
  have P2 := hid (P1.out.later HPN.out.2); have S2 := hid (S1.out.trans (P1.out.step HPN.out.2)); obtain ⟨b, hb⟩ : ∃ b, b = w1.heap.size := ⟨_, rfl⟩; rw [← hb] at BN ⊢; have B2 := hid BN.out; obtain ⟨c0, c1, c2, c3, c4⟩ := B2.out.nb.at; clear HZN HPN BN hb P1 S1; simp only at c0 c1 c2 c3 c4; have X := hid (keyword_8 w2); go_wp2_with fail
  refine X.out.mono ?_; rintro e w9 ⟨rfl, rfl⟩; clear X; have X := hid (HIX.out _ _ _ ts _ K1.out.1 H1.out K1.out.2 (by have := HF.out; simp at this ⊢; omega) P2.out)
  go_wp2_with fail
  refine X.out.mono ?_; rintro e w3 ⟨rfl, hp', hs'⟩; have P3 := hid hp'; have S3 := hid (S2.out.trans hs'); have B3 := hid (B2.out.step hs'); clear c0 c1 c2 c3 c4; obtain ⟨c0, c1, c2, c3, c4⟩ := B3.out.nb.at; clear hp' hs' P2 S2 B2 X; simp only at c0 c1 c2 c3 c4; have X := hid (signs1 [61] P3.out (by have := HF.out; simp at this ⊢; omega))
  go_wp2_with fail
  refine X.out.mono ?_; rintro e w4 ⟨rfl, hp', hs'⟩; have P4 := hid hp'; have S4 := hid (S3.out.trans hs'); have B4 := hid (B3.out.step hs'); clear c0 c1 c2 c3 c4; obtain ⟨c0, c1, c2, c3, c4⟩ := B4.out.nb.at; clear hp' hs' P3 S3 B3 X; simp only at c0 c1 c2 c3 c4; have X := hid (HE.out _ _ _ ((ts ++ o1) ++ [sgn [61]]) _ K2.out.1 H2.out K2.out.2 (by have := HF.out; simp at this ⊢; omega) P4.out)
  go_wp2_with fail
  refine X.out.mono ?_; rintro e w5 ⟨rfl, hp', hs'⟩; have P5 := hid hp'; have S5 := hid (S4.out.trans hs'); have B5 := hid (B4.out.step hs'); clear c0 c1 c2 c3 c4; obtain ⟨c0, c1, c2, c3, c4⟩ := B5.out.nb.at; clear hp' hs' P4 S4 B4 X; simp only at c0 c1 c2 c3 c4; have X := hid (signs1 [59] P5.out (by have := HF.out; simp at this ⊢; omega))
  go_wp2_with fail
  refine X.out.mono ?_; rintro e w6 ⟨rfl, hp', hs'⟩; have P6 := hid hp'; have S6 := hid (S5.out.trans hs'); have B6 := hid (B5.out.step hs'); clear c0 c1 c2 c3 c4; obtain ⟨c0, c1, c2, c3, c4⟩ := B6.out.nb.at; clear hp' hs' P5 S5 B5 X; simp only at c0 c1 c2 c3 c4; go_wp2; refine bodyPost_end (results_none rfl _ _ _) rfl ?_; exact ⟨rfl, by have := P6.out; simpa [List.append_assoc] using this, S6.out⟩
theorem stmt_11 {w0 : World} {g h B N : Nat} (hE : Prt w0 g h B 50 #[ptr g] [.nd .ex] N) (q : List UInt8) (z : Int) (s : List UInt8) {W : World} {r l' : List Nd} {ts o : List Tk} (hl : r.length < N) (hp : Prn [sg [98, 114, 101, 97, 107], sg [59]] r o l') (hn : FitN r) (hf : ts.length + o.length ≤ 99999990) (p : PW w0 g h B W (⟨11, 0, q, z, s⟩ :: r) ts) : Calls Tryz.prog 186 #[ptr g] W fun e W' => PrOk w0 g h B W l' (ts ++ o) e W' := by
  have HE := hid hE; have K1 := hid (And.intro hl hn); obtain ⟨_, rfl, hq1⟩ := hp.tok_inv; clear hp; obtain ⟨_, rfl, hq2⟩ := hq1.tok_inv; clear hq1; cases hq2
  have P0 := hid p; have S0 := hid (Step.refl g h W); have HF := hid hf; have HB := hid p.hB; clear p hf hl hn hE; have HI : Hid ((Tryz.prog.info? 58).map (·.size) = some [Value.int .i64 11, .int .i64 0, .string (strOf q), .int .i64 z, .string (strOf s)].length) := hid (n_info ⟨11, 0, q, z, s⟩); have HIA : Hid ((Tryz.prog.info? 58).map (·.size) = some (Nd.cells ⟨11, 0, q, z, s⟩).toArray.size) := hid (n_infoA _); have HLA : Hid ((Nd.cells ⟨11, 0, q, z, s⟩).toArray.all (·.oneCell') = true) := hid (n_all _); go_enter Tryz.func186, Tryz.ntmps186
  have X := hid (next_any P0.out); go_wp2_with fail
  refine X.out.mono ?_; rintro e w1 ⟨rfl, hp', hs'⟩; have P1 := hid hp'; have S1 := hid (S0.out.trans hs'); clear hp' hs' P0 S0 X; simp only [Nd.cells]; have HZN := hid (nb_zero w1); have HPN := hid (nb_put w1 ⟨11, 0, q, z, s⟩); have BN := hid (LB.start P1.out ⟨11, 0, q, z, s⟩)
  go_upto_region 1 with (first
    | (refine wpList_store_mid rfl 58 (.tmp 2) (.tmp 5) rfl w1.heap.size 0 (Nd.cells ⟨11, 0, q, z, s⟩).toArray rfl rfl HZN.out.room HIA.out HLA.out ?_; generalize World.setCells _ _ _ _ = w2 at HPN BN ⊢)
    | fail)
  have P2 := hid (P1.out.later HPN.out.2); have S2 := hid (S1.out.trans (P1.out.step HPN.out.2)); obtain ⟨b, hb⟩ : ∃ b, b = w1.heap.size := ⟨_, rfl⟩; rw [← hb] at BN ⊢; have B2 := hid BN.out; obtain ⟨c0, c1, c2, c3, c4⟩ := B2.out.nb.at; clear HZN HPN BN hb P1 S1; simp only at c0 c1 c2 c3 c4; have X := hid (keyword_11 w2); go_wp2_with fail
  refine X.out.mono ?_; rintro e w9 ⟨rfl, rfl⟩; clear X; have X := hid (signs1 [98, 114, 101, 97, 107] P2.out (by have := HF.out; simp at this ⊢; omega))
  go_wp2_with fail
  refine X.out.mono ?_; rintro e w3 ⟨rfl, hp', hs'⟩; have P3 := hid hp'; have S3 := hid (S2.out.trans hs'); have B3 := hid (B2.out.step hs'); clear c0 c1 c2 c3 c4; obtain ⟨c0, c1, c2, c3, c4⟩ := B3.out.nb.at; clear hp' hs' P2 S2 B2 X; simp only at c0 c1 c2 c3 c4; have X := hid (signs1 [59] P3.out (by have := HF.out; simp at this ⊢; omega))
  go_wp2_with fail
  refine X.out.mono ?_; rintro e w4 ⟨rfl, hp', hs'⟩; have P4 := hid hp'; have S4 := hid (S3.out.trans hs'); have B4 := hid (B3.out.step hs'); clear c0 c1 c2 c3 c4; obtain ⟨c0, c1, c2, c3, c4⟩ := B4.out.nb.at; clear hp' hs' P3 S3 B3 X; simp only at c0 c1 c2 c3 c4; go_wp2; refine bodyPost_end (results_none rfl _ _ _) rfl ?_; exact ⟨rfl, by have := P4.out; simpa [List.append_assoc] using this, S4.out⟩
theorem stmt_12 {w0 : World} {g h B N : Nat} (hE : Prt w0 g h B 50 #[ptr g] [.nd .ex] N) (q : List UInt8) (z : Int) (s : List UInt8) {W : World} {r l' : List Nd} {ts o : List Tk} (hl : r.length < N) (hp : Prn [sg [99, 111, 110, 116, 105, 110, 117, 101], sg [59]] r o l') (hn : FitN r) (hf : ts.length + o.length ≤ 99999990) (p : PW w0 g h B W (⟨12, 0, q, z, s⟩ :: r) ts) : Calls Tryz.prog 186 #[ptr g] W fun e W' => PrOk w0 g h B W l' (ts ++ o) e W' := by
  have HE := hid hE; have K1 := hid (And.intro hl hn); obtain ⟨_, rfl, hq1⟩ := hp.tok_inv; clear hp; obtain ⟨_, rfl, hq2⟩ := hq1.tok_inv; clear hq1; cases hq2
  have P0 := hid p; have S0 := hid (Step.refl g h W); have HF := hid hf; have HB := hid p.hB; clear p hf hl hn hE; have HI : Hid ((Tryz.prog.info? 58).map (·.size) = some [Value.int .i64 12, .int .i64 0, .string (strOf q), .int .i64 z, .string (strOf s)].length) := hid (n_info ⟨12, 0, q, z, s⟩); have HIA : Hid ((Tryz.prog.info? 58).map (·.size) = some (Nd.cells ⟨12, 0, q, z, s⟩).toArray.size) := hid (n_infoA _); have HLA : Hid ((Nd.cells ⟨12, 0, q, z, s⟩).toArray.all (·.oneCell') = true) := hid (n_all _); go_enter Tryz.func186, Tryz.ntmps186
  have X := hid (next_any P0.out); go_wp2_with fail
  refine X.out.mono ?_; rintro e w1 ⟨rfl, hp', hs'⟩; have P1 := hid hp'; have S1 := hid (S0.out.trans hs'); clear hp' hs' P0 S0 X; simp only [Nd.cells]; have HZN := hid (nb_zero w1); have HPN := hid (nb_put w1 ⟨12, 0, q, z, s⟩); have BN := hid (LB.start P1.out ⟨12, 0, q, z, s⟩)
  go_upto_region 1 with (first
    | (refine wpList_store_mid rfl 58 (.tmp 2) (.tmp 5) rfl w1.heap.size 0 (Nd.cells ⟨12, 0, q, z, s⟩).toArray rfl rfl HZN.out.room HIA.out HLA.out ?_; generalize World.setCells _ _ _ _ = w2 at HPN BN ⊢)
    | fail)
  have P2 := hid (P1.out.later HPN.out.2); have S2 := hid (S1.out.trans (P1.out.step HPN.out.2)); obtain ⟨b, hb⟩ : ∃ b, b = w1.heap.size := ⟨_, rfl⟩; rw [← hb] at BN ⊢; have B2 := hid BN.out; obtain ⟨c0, c1, c2, c3, c4⟩ := B2.out.nb.at; clear HZN HPN BN hb P1 S1; simp only at c0 c1 c2 c3 c4; have X := hid (keyword_12 w2); go_wp2_with fail
  refine X.out.mono ?_; rintro e w9 ⟨rfl, rfl⟩; clear X; have X := hid (signs1 [99, 111, 110, 116, 105, 110, 117, 101] P2.out (by have := HF.out; simp at this ⊢; omega))
  go_wp2_with fail
  refine X.out.mono ?_; rintro e w3 ⟨rfl, hp', hs'⟩; have P3 := hid hp'; have S3 := hid (S2.out.trans hs'); have B3 := hid (B2.out.step hs'); clear c0 c1 c2 c3 c4; obtain ⟨c0, c1, c2, c3, c4⟩ := B3.out.nb.at; clear hp' hs' P2 S2 B2 X; simp only at c0 c1 c2 c3 c4; have X := hid (signs1 [59] P3.out (by have := HF.out; simp at this ⊢; omega))
  go_wp2_with fail
  refine X.out.mono ?_; rintro e w4 ⟨rfl, hp', hs'⟩; have P4 := hid hp'; have S4 := hid (S3.out.trans hs'); have B4 := hid (B3.out.step hs'); clear c0 c1 c2 c3 c4; obtain ⟨c0, c1, c2, c3, c4⟩ := B4.out.nb.at; clear hp' hs' P3 S3 B3 X; simp only at c0 c1 c2 c3 c4; go_wp2; refine bodyPost_end (results_none rfl _ _ _) rfl ?_; exact ⟨rfl, by have := P4.out; simpa [List.append_assoc] using this, S4.out⟩
theorem stmt_13 {w0 : World} {g h B N : Nat} (hE : Prt w0 g h B 50 #[ptr g] [.nd .ex] N) (q : List UInt8) (z : Int) (s : List UInt8) {W : World} {r l' : List Nd} {ts o : List Tk} (hl : r.length < N) (hp : Prn [sg [114, 101, 116, 117, 114, 110], .nd .ex, sg [59]] r o l') (hn : FitN r) (hf : ts.length + o.length ≤ 99999990) (p : PW w0 g h B W (⟨13, 1, q, z, s⟩ :: r) ts) : Calls Tryz.prog 186 #[ptr g] W fun e W' => PrOk w0 g h B W l' (ts ++ o) e W' := by
  have HE := hid hE; have K1 := hid (And.intro hl hn); obtain ⟨_, rfl, hq1⟩ := hp.tok_inv; clear hp; obtain ⟨o1, _, l1, rfl, hp1, hq2⟩ := hq1.nd_cons; clear hq1; have H1 := hid hp1; have K2 := hid (fit_len hp1 K1.out.1 K1.out.2); clear hp1; obtain ⟨_, rfl, hq3⟩ := hq2.tok_inv; clear hq2; cases hq3
  have P0 := hid p; have S0 := hid (Step.refl g h W); have HF := hid hf; have HB := hid p.hB; clear p hf hl hn hE; have HI : Hid ((Tryz.prog.info? 58).map (·.size) = some [Value.int .i64 13, .int .i64 1, .string (strOf q), .int .i64 z, .string (strOf s)].length) := hid (n_info ⟨13, 1, q, z, s⟩); have HIA : Hid ((Tryz.prog.info? 58).map (·.size) = some (Nd.cells ⟨13, 1, q, z, s⟩).toArray.size) := hid (n_infoA _); have HLA : Hid ((Nd.cells ⟨13, 1, q, z, s⟩).toArray.all (·.oneCell') = true) := hid (n_all _); go_enter Tryz.func186, Tryz.ntmps186
  have X := hid (next_any P0.out); go_wp2_with fail
  refine X.out.mono ?_; rintro e w1 ⟨rfl, hp', hs'⟩; have P1 := hid hp'; have S1 := hid (S0.out.trans hs'); clear hp' hs' P0 S0 X; simp only [Nd.cells]; have HZN := hid (nb_zero w1); have HPN := hid (nb_put w1 ⟨13, 1, q, z, s⟩); have BN := hid (LB.start P1.out ⟨13, 1, q, z, s⟩)
  go_upto_region 1 with (first
    | (refine wpList_store_mid rfl 58 (.tmp 2) (.tmp 5) rfl w1.heap.size 0 (Nd.cells ⟨13, 1, q, z, s⟩).toArray rfl rfl HZN.out.room HIA.out HLA.out ?_; generalize World.setCells _ _ _ _ = w2 at HPN BN ⊢)
    | fail)
  have P2 := hid (P1.out.later HPN.out.2); have S2 := hid (S1.out.trans (P1.out.step HPN.out.2)); obtain ⟨b, hb⟩ : ∃ b, b = w1.heap.size := ⟨_, rfl⟩; rw [← hb] at BN ⊢; have B2 := hid BN.out; obtain ⟨c0, c1, c2, c3, c4⟩ := B2.out.nb.at; clear HZN HPN BN hb P1 S1; simp only at c0 c1 c2 c3 c4; have X := hid (keyword_13 w2); go_wp2_with fail
  refine X.out.mono ?_; rintro e w9 ⟨rfl, rfl⟩; clear X; have X := hid (signs1 [114, 101, 116, 117, 114, 110] P2.out (by have := HF.out; simp at this ⊢; omega))
  go_wp2_with fail
  refine X.out.mono ?_; rintro e w3 ⟨rfl, hp', hs'⟩; have P3 := hid hp'; have S3 := hid (S2.out.trans hs'); have B3 := hid (B2.out.step hs'); clear c0 c1 c2 c3 c4; obtain ⟨c0, c1, c2, c3, c4⟩ := B3.out.nb.at; clear hp' hs' P2 S2 B2 X; simp only at c0 c1 c2 c3 c4; have X := hid (HE.out _ _ _ (ts ++ [sgn [114, 101, 116, 117, 114, 110]]) _ K1.out.1 H1.out K1.out.2 (by have := HF.out; simp at this ⊢; omega) P3.out)
  go_wp2_with fail
  refine X.out.mono ?_; rintro e w4 ⟨rfl, hp', hs'⟩; have P4 := hid hp'; have S4 := hid (S3.out.trans hs'); have B4 := hid (B3.out.step hs'); clear c0 c1 c2 c3 c4; obtain ⟨c0, c1, c2, c3, c4⟩ := B4.out.nb.at; clear hp' hs' P3 S3 B3 X; simp only at c0 c1 c2 c3 c4; have X := hid (signs1 [59] P4.out (by have := HF.out; simp at this ⊢; omega))
  go_wp2_with fail
  refine X.out.mono ?_; rintro e w5 ⟨rfl, hp', hs'⟩; have P5 := hid hp'; have S5 := hid (S4.out.trans hs'); have B5 := hid (B4.out.step hs'); clear c0 c1 c2 c3 c4; obtain ⟨c0, c1, c2, c3, c4⟩ := B5.out.nb.at; clear hp' hs' P4 S4 B4 X; simp only at c0 c1 c2 c3 c4; go_wp2; refine bodyPost_end (results_none rfl _ _ _) rfl ?_; exact ⟨rfl, by have := P5.out; simpa [List.append_assoc] using this, S5.out⟩
theorem stmt_14 {w0 : World} {g h B N : Nat} (hE : Prt w0 g h B 50 #[ptr g] [.nd .ex] N) (q : List UInt8) (z : Int) (s : List UInt8) {W : World} {r l' : List Nd} {ts o : List Tk} (hl : r.length < N) (hp : Prn [sg [112, 117, 116], .nd .ex, sg [59]] r o l') (hn : FitN r) (hf : ts.length + o.length ≤ 99999990) (p : PW w0 g h B W (⟨14, 1, q, z, s⟩ :: r) ts) : Calls Tryz.prog 186 #[ptr g] W fun e W' => PrOk w0 g h B W l' (ts ++ o) e W' := by
  have HE := hid hE; have K1 := hid (And.intro hl hn); obtain ⟨_, rfl, hq1⟩ := hp.tok_inv; clear hp; obtain ⟨o1, _, l1, rfl, hp1, hq2⟩ := hq1.nd_cons; clear hq1; have H1 := hid hp1; have K2 := hid (fit_len hp1 K1.out.1 K1.out.2); clear hp1; obtain ⟨_, rfl, hq3⟩ := hq2.tok_inv; clear hq2; cases hq3
  have P0 := hid p; have S0 := hid (Step.refl g h W); have HF := hid hf; have HB := hid p.hB; clear p hf hl hn hE; have HI : Hid ((Tryz.prog.info? 58).map (·.size) = some [Value.int .i64 14, .int .i64 1, .string (strOf q), .int .i64 z, .string (strOf s)].length) := hid (n_info ⟨14, 1, q, z, s⟩); have HIA : Hid ((Tryz.prog.info? 58).map (·.size) = some (Nd.cells ⟨14, 1, q, z, s⟩).toArray.size) := hid (n_infoA _); have HLA : Hid ((Nd.cells ⟨14, 1, q, z, s⟩).toArray.all (·.oneCell') = true) := hid (n_all _); go_enter Tryz.func186, Tryz.ntmps186
  have X := hid (next_any P0.out); go_wp2_with fail
  refine X.out.mono ?_; rintro e w1 ⟨rfl, hp', hs'⟩; have P1 := hid hp'; have S1 := hid (S0.out.trans hs'); clear hp' hs' P0 S0 X; simp only [Nd.cells]; have HZN := hid (nb_zero w1); have HPN := hid (nb_put w1 ⟨14, 1, q, z, s⟩); have BN := hid (LB.start P1.out ⟨14, 1, q, z, s⟩)
  go_upto_region 1 with (first
    | (refine wpList_store_mid rfl 58 (.tmp 2) (.tmp 5) rfl w1.heap.size 0 (Nd.cells ⟨14, 1, q, z, s⟩).toArray rfl rfl HZN.out.room HIA.out HLA.out ?_; generalize World.setCells _ _ _ _ = w2 at HPN BN ⊢)
    | fail)
  have P2 := hid (P1.out.later HPN.out.2); have S2 := hid (S1.out.trans (P1.out.step HPN.out.2)); obtain ⟨b, hb⟩ : ∃ b, b = w1.heap.size := ⟨_, rfl⟩; rw [← hb] at BN ⊢; have B2 := hid BN.out; obtain ⟨c0, c1, c2, c3, c4⟩ := B2.out.nb.at; clear HZN HPN BN hb P1 S1; simp only at c0 c1 c2 c3 c4; have X := hid (keyword_14 w2); go_wp2_with fail
  refine X.out.mono ?_; rintro e w9 ⟨rfl, rfl⟩; clear X; have X := hid (signs1 [112, 117, 116] P2.out (by have := HF.out; simp at this ⊢; omega))
  go_wp2_with fail
  refine X.out.mono ?_; rintro e w3 ⟨rfl, hp', hs'⟩; have P3 := hid hp'; have S3 := hid (S2.out.trans hs'); have B3 := hid (B2.out.step hs'); clear c0 c1 c2 c3 c4; obtain ⟨c0, c1, c2, c3, c4⟩ := B3.out.nb.at; clear hp' hs' P2 S2 B2 X; simp only at c0 c1 c2 c3 c4; have X := hid (HE.out _ _ _ (ts ++ [sgn [112, 117, 116]]) _ K1.out.1 H1.out K1.out.2 (by have := HF.out; simp at this ⊢; omega) P3.out)
  go_wp2_with fail
  refine X.out.mono ?_; rintro e w4 ⟨rfl, hp', hs'⟩; have P4 := hid hp'; have S4 := hid (S3.out.trans hs'); have B4 := hid (B3.out.step hs'); clear c0 c1 c2 c3 c4; obtain ⟨c0, c1, c2, c3, c4⟩ := B4.out.nb.at; clear hp' hs' P3 S3 B3 X; simp only at c0 c1 c2 c3 c4; have X := hid (signs1 [59] P4.out (by have := HF.out; simp at this ⊢; omega))
  go_wp2_with fail
  refine X.out.mono ?_; rintro e w5 ⟨rfl, hp', hs'⟩; have P5 := hid hp'; have S5 := hid (S4.out.trans hs'); have B5 := hid (B4.out.step hs'); clear c0 c1 c2 c3 c4; obtain ⟨c0, c1, c2, c3, c4⟩ := B5.out.nb.at; clear hp' hs' P4 S4 B4 X; simp only at c0 c1 c2 c3 c4; go_wp2; refine bodyPost_end (results_none rfl _ _ _) rfl ?_; exact ⟨rfl, by have := P5.out; simpa [List.append_assoc] using this, S5.out⟩
theorem stmt_15 {w0 : World} {g h B N : Nat} (hE : Prt w0 g h B 50 #[ptr g] [.nd .ex] N) (q : List UInt8) (z : Int) (s : List UInt8) {W : World} {r l' : List Nd} {ts o : List Tk} (hl : r.length < N) (hp : Prn [sg [101, 109, 105, 116], .nd .ex, sg [59]] r o l') (hn : FitN r) (hf : ts.length + o.length ≤ 99999990) (p : PW w0 g h B W (⟨15, 1, q, z, s⟩ :: r) ts) : Calls Tryz.prog 186 #[ptr g] W fun e W' => PrOk w0 g h B W l' (ts ++ o) e W' := by
  have HE := hid hE; have K1 := hid (And.intro hl hn); obtain ⟨_, rfl, hq1⟩ := hp.tok_inv; clear hp; obtain ⟨o1, _, l1, rfl, hp1, hq2⟩ := hq1.nd_cons; clear hq1; have H1 := hid hp1; have K2 := hid (fit_len hp1 K1.out.1 K1.out.2); clear hp1; obtain ⟨_, rfl, hq3⟩ := hq2.tok_inv; clear hq2; cases hq3
  have P0 := hid p; have S0 := hid (Step.refl g h W); have HF := hid hf; have HB := hid p.hB; clear p hf hl hn hE; have HI : Hid ((Tryz.prog.info? 58).map (·.size) = some [Value.int .i64 15, .int .i64 1, .string (strOf q), .int .i64 z, .string (strOf s)].length) := hid (n_info ⟨15, 1, q, z, s⟩); have HIA : Hid ((Tryz.prog.info? 58).map (·.size) = some (Nd.cells ⟨15, 1, q, z, s⟩).toArray.size) := hid (n_infoA _); have HLA : Hid ((Nd.cells ⟨15, 1, q, z, s⟩).toArray.all (·.oneCell') = true) := hid (n_all _); go_enter Tryz.func186, Tryz.ntmps186
  have X := hid (next_any P0.out); go_wp2_with fail
  refine X.out.mono ?_; rintro e w1 ⟨rfl, hp', hs'⟩; have P1 := hid hp'; have S1 := hid (S0.out.trans hs'); clear hp' hs' P0 S0 X; simp only [Nd.cells]; have HZN := hid (nb_zero w1); have HPN := hid (nb_put w1 ⟨15, 1, q, z, s⟩); have BN := hid (LB.start P1.out ⟨15, 1, q, z, s⟩)
  go_upto_region 1 with (first
    | (refine wpList_store_mid rfl 58 (.tmp 2) (.tmp 5) rfl w1.heap.size 0 (Nd.cells ⟨15, 1, q, z, s⟩).toArray rfl rfl HZN.out.room HIA.out HLA.out ?_; generalize World.setCells _ _ _ _ = w2 at HPN BN ⊢)
    | fail)
  have P2 := hid (P1.out.later HPN.out.2); have S2 := hid (S1.out.trans (P1.out.step HPN.out.2)); obtain ⟨b, hb⟩ : ∃ b, b = w1.heap.size := ⟨_, rfl⟩; rw [← hb] at BN ⊢; have B2 := hid BN.out; obtain ⟨c0, c1, c2, c3, c4⟩ := B2.out.nb.at; clear HZN HPN BN hb P1 S1; simp only at c0 c1 c2 c3 c4; have X := hid (keyword_15 w2); go_wp2_with fail
  refine X.out.mono ?_; rintro e w9 ⟨rfl, rfl⟩; clear X; have X := hid (signs1 [101, 109, 105, 116] P2.out (by have := HF.out; simp at this ⊢; omega))
  go_wp2_with fail
  refine X.out.mono ?_; rintro e w3 ⟨rfl, hp', hs'⟩; have P3 := hid hp'; have S3 := hid (S2.out.trans hs'); have B3 := hid (B2.out.step hs'); clear c0 c1 c2 c3 c4; obtain ⟨c0, c1, c2, c3, c4⟩ := B3.out.nb.at; clear hp' hs' P2 S2 B2 X; simp only at c0 c1 c2 c3 c4; have X := hid (HE.out _ _ _ (ts ++ [sgn [101, 109, 105, 116]]) _ K1.out.1 H1.out K1.out.2 (by have := HF.out; simp at this ⊢; omega) P3.out)
  go_wp2_with fail
  refine X.out.mono ?_; rintro e w4 ⟨rfl, hp', hs'⟩; have P4 := hid hp'; have S4 := hid (S3.out.trans hs'); have B4 := hid (B3.out.step hs'); clear c0 c1 c2 c3 c4; obtain ⟨c0, c1, c2, c3, c4⟩ := B4.out.nb.at; clear hp' hs' P3 S3 B3 X; simp only at c0 c1 c2 c3 c4; have X := hid (signs1 [59] P4.out (by have := HF.out; simp at this ⊢; omega))
  go_wp2_with fail
  refine X.out.mono ?_; rintro e w5 ⟨rfl, hp', hs'⟩; have P5 := hid hp'; have S5 := hid (S4.out.trans hs'); have B5 := hid (B4.out.step hs'); clear c0 c1 c2 c3 c4; obtain ⟨c0, c1, c2, c3, c4⟩ := B5.out.nb.at; clear hp' hs' P4 S4 B4 X; simp only at c0 c1 c2 c3 c4; go_wp2; refine bodyPost_end (results_none rfl _ _ _) rfl ?_; exact ⟨rfl, by have := P5.out; simpa [List.append_assoc] using this, S5.out⟩
theorem stmt_16 {w0 : World} {g h B N : Nat} (hE : Prt w0 g h B 50 #[ptr g] [.nd .ex] N) (q : List UInt8) (z : Int) (s : List UInt8) {W : World} {r l' : List Nd} {ts o : List Tk} (hl : r.length < N) (hp : Prn [sg [121, 105, 101, 108, 100], sg [59]] r o l') (hn : FitN r) (hf : ts.length + o.length ≤ 99999990) (p : PW w0 g h B W (⟨16, 0, q, z, s⟩ :: r) ts) : Calls Tryz.prog 186 #[ptr g] W fun e W' => PrOk w0 g h B W l' (ts ++ o) e W' := by
  have HE := hid hE; have K1 := hid (And.intro hl hn); obtain ⟨_, rfl, hq1⟩ := hp.tok_inv; clear hp; obtain ⟨_, rfl, hq2⟩ := hq1.tok_inv; clear hq1; cases hq2
  have P0 := hid p; have S0 := hid (Step.refl g h W); have HF := hid hf; have HB := hid p.hB; clear p hf hl hn hE; have HI : Hid ((Tryz.prog.info? 58).map (·.size) = some [Value.int .i64 16, .int .i64 0, .string (strOf q), .int .i64 z, .string (strOf s)].length) := hid (n_info ⟨16, 0, q, z, s⟩); have HIA : Hid ((Tryz.prog.info? 58).map (·.size) = some (Nd.cells ⟨16, 0, q, z, s⟩).toArray.size) := hid (n_infoA _); have HLA : Hid ((Nd.cells ⟨16, 0, q, z, s⟩).toArray.all (·.oneCell') = true) := hid (n_all _); go_enter Tryz.func186, Tryz.ntmps186
  have X := hid (next_any P0.out); go_wp2_with fail
  refine X.out.mono ?_; rintro e w1 ⟨rfl, hp', hs'⟩; have P1 := hid hp'; have S1 := hid (S0.out.trans hs'); clear hp' hs' P0 S0 X; simp only [Nd.cells]; have HZN := hid (nb_zero w1); have HPN := hid (nb_put w1 ⟨16, 0, q, z, s⟩); have BN := hid (LB.start P1.out ⟨16, 0, q, z, s⟩)
  go_upto_region 1 with (first
    | (refine wpList_store_mid rfl 58 (.tmp 2) (.tmp 5) rfl w1.heap.size 0 (Nd.cells ⟨16, 0, q, z, s⟩).toArray rfl rfl HZN.out.room HIA.out HLA.out ?_; generalize World.setCells _ _ _ _ = w2 at HPN BN ⊢)
    | fail)
  have P2 := hid (P1.out.later HPN.out.2); have S2 := hid (S1.out.trans (P1.out.step HPN.out.2)); obtain ⟨b, hb⟩ : ∃ b, b = w1.heap.size := ⟨_, rfl⟩; rw [← hb] at BN ⊢; have B2 := hid BN.out; obtain ⟨c0, c1, c2, c3, c4⟩ := B2.out.nb.at; clear HZN HPN BN hb P1 S1; simp only at c0 c1 c2 c3 c4; have X := hid (keyword_16 w2); go_wp2_with fail
  refine X.out.mono ?_; rintro e w9 ⟨rfl, rfl⟩; clear X; have X := hid (signs1 [121, 105, 101, 108, 100] P2.out (by have := HF.out; simp at this ⊢; omega))
  go_wp2_with fail
  refine X.out.mono ?_; rintro e w3 ⟨rfl, hp', hs'⟩; have P3 := hid hp'; have S3 := hid (S2.out.trans hs'); have B3 := hid (B2.out.step hs'); clear c0 c1 c2 c3 c4; obtain ⟨c0, c1, c2, c3, c4⟩ := B3.out.nb.at; clear hp' hs' P2 S2 B2 X; simp only at c0 c1 c2 c3 c4; have X := hid (signs1 [59] P3.out (by have := HF.out; simp at this ⊢; omega))
  go_wp2_with fail
  refine X.out.mono ?_; rintro e w4 ⟨rfl, hp', hs'⟩; have P4 := hid hp'; have S4 := hid (S3.out.trans hs'); have B4 := hid (B3.out.step hs'); clear c0 c1 c2 c3 c4; obtain ⟨c0, c1, c2, c3, c4⟩ := B4.out.nb.at; clear hp' hs' P3 S3 B3 X; simp only at c0 c1 c2 c3 c4; go_wp2; refine bodyPost_end (results_none rfl _ _ _) rfl ?_; exact ⟨rfl, by have := P4.out; simpa [List.append_assoc] using this, S4.out⟩
theorem stmt_17 {w0 : World} {g h B N : Nat} (hE : Prt w0 g h B 50 #[ptr g] [.nd .ex] N) (q : List UInt8) (z : Int) (s : List UInt8) {W : World} {r l' : List Nd} {ts o : List Tk} (hl : r.length < N) (hp : Prn [.nd .ex, sg [59]] r o l') (hn : FitN r) (hf : ts.length + o.length ≤ 99999990) (p : PW w0 g h B W (⟨17, 1, q, z, s⟩ :: r) ts) : Calls Tryz.prog 186 #[ptr g] W fun e W' => PrOk w0 g h B W l' (ts ++ o) e W' := by
  have HE := hid hE; have K1 := hid (And.intro hl hn); obtain ⟨o1, _, l1, rfl, hp1, hq1⟩ := hp.nd_cons; clear hp; have H1 := hid hp1; have K2 := hid (fit_len hp1 K1.out.1 K1.out.2); clear hp1; obtain ⟨_, rfl, hq2⟩ := hq1.tok_inv; clear hq1; cases hq2
  have P0 := hid p; have S0 := hid (Step.refl g h W); have HF := hid hf; have HB := hid p.hB; clear p hf hl hn hE; have HI : Hid ((Tryz.prog.info? 58).map (·.size) = some [Value.int .i64 17, .int .i64 1, .string (strOf q), .int .i64 z, .string (strOf s)].length) := hid (n_info ⟨17, 1, q, z, s⟩); have HIA : Hid ((Tryz.prog.info? 58).map (·.size) = some (Nd.cells ⟨17, 1, q, z, s⟩).toArray.size) := hid (n_infoA _); have HLA : Hid ((Nd.cells ⟨17, 1, q, z, s⟩).toArray.all (·.oneCell') = true) := hid (n_all _); go_enter Tryz.func186, Tryz.ntmps186
  have X := hid (next_any P0.out); go_wp2_with fail
  refine X.out.mono ?_; rintro e w1 ⟨rfl, hp', hs'⟩; have P1 := hid hp'; have S1 := hid (S0.out.trans hs'); clear hp' hs' P0 S0 X; simp only [Nd.cells]; have HZN := hid (nb_zero w1); have HPN := hid (nb_put w1 ⟨17, 1, q, z, s⟩); have BN := hid (LB.start P1.out ⟨17, 1, q, z, s⟩)
  go_upto_region 1 with (first
    | (refine wpList_store_mid rfl 58 (.tmp 2) (.tmp 5) rfl w1.heap.size 0 (Nd.cells ⟨17, 1, q, z, s⟩).toArray rfl rfl HZN.out.room HIA.out HLA.out ?_; generalize World.setCells _ _ _ _ = w2 at HPN BN ⊢)
    | fail)
  have P2 := hid (P1.out.later HPN.out.2); have S2 := hid (S1.out.trans (P1.out.step HPN.out.2)); obtain ⟨b, hb⟩ : ∃ b, b = w1.heap.size := ⟨_, rfl⟩; rw [← hb] at BN ⊢; have B2 := hid BN.out; obtain ⟨c0, c1, c2, c3, c4⟩ := B2.out.nb.at; clear HZN HPN BN hb P1 S1; simp only at c0 c1 c2 c3 c4; have X := hid (keyword_17 w2); go_wp2_with fail
  refine X.out.mono ?_; rintro e w9 ⟨rfl, rfl⟩; clear X; have X := hid (HE.out _ _ _ ts _ K1.out.1 H1.out K1.out.2 (by have := HF.out; simp at this ⊢; omega) P2.out)
  go_wp2_with fail
  refine X.out.mono ?_; rintro e w3 ⟨rfl, hp', hs'⟩; have P3 := hid hp'; have S3 := hid (S2.out.trans hs'); have B3 := hid (B2.out.step hs'); clear c0 c1 c2 c3 c4; obtain ⟨c0, c1, c2, c3, c4⟩ := B3.out.nb.at; clear hp' hs' P2 S2 B2 X; simp only at c0 c1 c2 c3 c4; have X := hid (signs1 [59] P3.out (by have := HF.out; simp at this ⊢; omega))
  go_wp2_with fail
  refine X.out.mono ?_; rintro e w4 ⟨rfl, hp', hs'⟩; have P4 := hid hp'; have S4 := hid (S3.out.trans hs'); have B4 := hid (B3.out.step hs'); clear c0 c1 c2 c3 c4; obtain ⟨c0, c1, c2, c3, c4⟩ := B4.out.nb.at; clear hp' hs' P3 S3 B3 X; simp only at c0 c1 c2 c3 c4; go_wp2; refine bodyPost_end (results_none rfl _ _ _) rfl ?_; exact ⟨rfl, by have := P4.out; simpa [List.append_assoc] using this, S4.out⟩
theorem stmt_9_3 {w0 : World} {g h B N : Nat} (hE : Prt w0 g h B 50 #[ptr g] [.nd .ex] N) (hBL : Prt w0 g h B 155 #[ptr g] [.nd .blk] N) (q : List UInt8) (z : Int) (s : List UInt8) {W : World} {r l' : List Nd} {ts o : List Tk} (hl : r.length < N) (hp : Prn [sg [105, 102], .nd .ex, .nd .blk, sg [101, 108, 115, 101], .nd .blk] r o l') (hn : FitN r) (hf : ts.length + o.length ≤ 99999990) (p : PW w0 g h B W (⟨9, 3, q, z, s⟩ :: r) ts) : Calls Tryz.prog 186 #[ptr g] W fun e W' => PrOk w0 g h B W l' (ts ++ o) e W' := by
  have HBR := hid (branches_prt3 hE hBL 9 3 q z s (by decide)); have K1 := hid (And.intro hl hn); obtain ⟨_, rfl, hq1⟩ := hp.tok_inv; clear hp; obtain ⟨o1, _, l1, rfl, hp1, hq2⟩ := hq1.split [.nd .ex, .nd .blk, sg [101, 108, 115, 101], .nd .blk] _ rfl; clear hq1; have H1 := hid hp1; have K2 := hid (fit_len hp1 K1.out.1 K1.out.2); clear hp1; cases hq2
  have P0 := hid p; have S0 := hid (Step.refl g h W); have HF := hid hf; have HB := hid p.hB; clear p hf hl hn hE hBL; have HI : Hid ((Tryz.prog.info? 58).map (·.size) = some [Value.int .i64 9, .int .i64 3, .string (strOf q), .int .i64 z, .string (strOf s)].length) := hid (n_info ⟨9, 3, q, z, s⟩); have HIA : Hid ((Tryz.prog.info? 58).map (·.size) = some (Nd.cells ⟨9, 3, q, z, s⟩).toArray.size) := hid (n_infoA _); have HLA : Hid ((Nd.cells ⟨9, 3, q, z, s⟩).toArray.all (·.oneCell') = true) := hid (n_all _); go_enter Tryz.func186, Tryz.ntmps186
  have X := hid (next_any P0.out); go_wp2_with fail
  refine X.out.mono ?_; rintro e w1 ⟨rfl, hp', hs'⟩; have P1 := hid hp'; have S1 := hid (S0.out.trans hs'); clear hp' hs' P0 S0 X; simp only [Nd.cells]; have HZN := hid (nb_zero w1); have HPN := hid (nb_put w1 ⟨9, 3, q, z, s⟩); have BN := hid (LB.start P1.out ⟨9, 3, q, z, s⟩)
  go_upto_region 1 with (first
    | (refine wpList_store_mid rfl 58 (.tmp 2) (.tmp 5) rfl w1.heap.size 0 (Nd.cells ⟨9, 3, q, z, s⟩).toArray rfl rfl HZN.out.room HIA.out HLA.out ?_; generalize World.setCells _ _ _ _ = w2 at HPN BN ⊢)
    | fail)
  have P2 := hid (P1.out.later HPN.out.2); have S2 := hid (S1.out.trans (P1.out.step HPN.out.2)); obtain ⟨b, hb⟩ : ∃ b, b = w1.heap.size := ⟨_, rfl⟩; rw [← hb] at BN ⊢; have B2 := hid BN.out; obtain ⟨c0, c1, c2, c3, c4⟩ := B2.out.nb.at; clear HZN HPN BN hb P1 S1; simp only at c0 c1 c2 c3 c4; have X := hid (keyword_9 w2); go_wp2_with fail
  refine X.out.mono ?_; rintro e w9 ⟨rfl, rfl⟩; clear X; have X := hid (signs1 [105, 102] P2.out (by have := HF.out; simp at this ⊢; omega))
  go_wp2_with fail
  refine X.out.mono ?_; rintro e w3 ⟨rfl, hp', hs'⟩; have P3 := hid hp'; have S3 := hid (S2.out.trans hs'); have B3 := hid (B2.out.step hs'); clear c0 c1 c2 c3 c4; obtain ⟨c0, c1, c2, c3, c4⟩ := B3.out.nb.at; clear hp' hs' P2 S2 B2 X; simp only at c0 c1 c2 c3 c4; have X := hid (HBR.out _ _ _ (ts ++ [sgn [105, 102]]) _ K1.out.1 H1.out K1.out.2 (by have := HF.out; simp at this ⊢; omega) P3.out)
  go_wp2_with (first
    | (refine wpList_load_mid rfl 58 (.tmp 2) rfl b 0 rfl [.int .i64 9, .int .i64 3, .string (strOf q), .int .i64 z, .string (strOf s)] _ B3.out.nb.cells Tryz.underlying58 rfl HI.out ?_)
    | fail)
  refine X.out.mono ?_; rintro e w4 ⟨rfl, hp', hs'⟩; have P4 := hid hp'; have S4 := hid (S3.out.trans hs'); have B4 := hid (B3.out.step hs'); clear c0 c1 c2 c3 c4; obtain ⟨c0, c1, c2, c3, c4⟩ := B4.out.nb.at; clear hp' hs' P3 S3 B3 X; simp only at c0 c1 c2 c3 c4; go_wp2; refine bodyPost_ret (results_none rfl _ _ _) rfl ?_; exact ⟨rfl, by have := P4.out; simpa [List.append_assoc] using this, S4.out⟩
theorem stmt_9_2 {w0 : World} {g h B N : Nat} (hE : Prt w0 g h B 50 #[ptr g] [.nd .ex] N) (hBL : Prt w0 g h B 155 #[ptr g] [.nd .blk] N) (q : List UInt8) (z : Int) (s : List UInt8) {W : World} {r l' : List Nd} {ts o : List Tk} (hl : r.length < N) (hp : Prn [sg [105, 102], .nd .ex, .nd .blk] r o l') (hn : FitN r) (hf : ts.length + o.length ≤ 99999990) (p : PW w0 g h B W (⟨9, 2, q, z, s⟩ :: r) ts) : Calls Tryz.prog 186 #[ptr g] W fun e W' => PrOk w0 g h B W l' (ts ++ o) e W' := by
  have HBR := hid (branches_prt2 hE hBL 9 2 q z s (by decide)); have K1 := hid (And.intro hl hn); obtain ⟨_, rfl, hq1⟩ := hp.tok_inv; clear hp; obtain ⟨o1, _, l1, rfl, hp1, hq2⟩ := hq1.split [.nd .ex, .nd .blk] _ rfl; clear hq1; have H1 := hid hp1; have K2 := hid (fit_len hp1 K1.out.1 K1.out.2); clear hp1; cases hq2
  have P0 := hid p; have S0 := hid (Step.refl g h W); have HF := hid hf; have HB := hid p.hB; clear p hf hl hn hE hBL; have HI : Hid ((Tryz.prog.info? 58).map (·.size) = some [Value.int .i64 9, .int .i64 2, .string (strOf q), .int .i64 z, .string (strOf s)].length) := hid (n_info ⟨9, 2, q, z, s⟩); have HIA : Hid ((Tryz.prog.info? 58).map (·.size) = some (Nd.cells ⟨9, 2, q, z, s⟩).toArray.size) := hid (n_infoA _); have HLA : Hid ((Nd.cells ⟨9, 2, q, z, s⟩).toArray.all (·.oneCell') = true) := hid (n_all _); go_enter Tryz.func186, Tryz.ntmps186
  have X := hid (next_any P0.out); go_wp2_with fail
  refine X.out.mono ?_; rintro e w1 ⟨rfl, hp', hs'⟩; have P1 := hid hp'; have S1 := hid (S0.out.trans hs'); clear hp' hs' P0 S0 X; simp only [Nd.cells]; have HZN := hid (nb_zero w1); have HPN := hid (nb_put w1 ⟨9, 2, q, z, s⟩); have BN := hid (LB.start P1.out ⟨9, 2, q, z, s⟩)
  go_upto_region 1 with (first
    | (refine wpList_store_mid rfl 58 (.tmp 2) (.tmp 5) rfl w1.heap.size 0 (Nd.cells ⟨9, 2, q, z, s⟩).toArray rfl rfl HZN.out.room HIA.out HLA.out ?_; generalize World.setCells _ _ _ _ = w2 at HPN BN ⊢)
    | fail)
  have P2 := hid (P1.out.later HPN.out.2); have S2 := hid (S1.out.trans (P1.out.step HPN.out.2)); obtain ⟨b, hb⟩ : ∃ b, b = w1.heap.size := ⟨_, rfl⟩; rw [← hb] at BN ⊢; have B2 := hid BN.out; obtain ⟨c0, c1, c2, c3, c4⟩ := B2.out.nb.at; clear HZN HPN BN hb P1 S1; simp only at c0 c1 c2 c3 c4; have X := hid (keyword_9 w2); go_wp2_with fail
  refine X.out.mono ?_; rintro e w9 ⟨rfl, rfl⟩; clear X; have X := hid (signs1 [105, 102] P2.out (by have := HF.out; simp at this ⊢; omega))
  go_wp2_with fail
  refine X.out.mono ?_; rintro e w3 ⟨rfl, hp', hs'⟩; have P3 := hid hp'; have S3 := hid (S2.out.trans hs'); have B3 := hid (B2.out.step hs'); clear c0 c1 c2 c3 c4; obtain ⟨c0, c1, c2, c3, c4⟩ := B3.out.nb.at; clear hp' hs' P2 S2 B2 X; simp only at c0 c1 c2 c3 c4; have X := hid (HBR.out _ _ _ (ts ++ [sgn [105, 102]]) _ K1.out.1 H1.out K1.out.2 (by have := HF.out; simp at this ⊢; omega) P3.out)
  go_wp2_with (first
    | (refine wpList_load_mid rfl 58 (.tmp 2) rfl b 0 rfl [.int .i64 9, .int .i64 2, .string (strOf q), .int .i64 z, .string (strOf s)] _ B3.out.nb.cells Tryz.underlying58 rfl HI.out ?_)
    | fail)
  refine X.out.mono ?_; rintro e w4 ⟨rfl, hp', hs'⟩; have P4 := hid hp'; have S4 := hid (S3.out.trans hs'); have B4 := hid (B3.out.step hs'); clear c0 c1 c2 c3 c4; obtain ⟨c0, c1, c2, c3, c4⟩ := B4.out.nb.at; clear hp' hs' P3 S3 B3 X; simp only at c0 c1 c2 c3 c4; go_wp2; refine bodyPost_ret (results_none rfl _ _ _) rfl ?_; exact ⟨rfl, by have := P4.out; simpa [List.append_assoc] using this, S4.out⟩
theorem stmt_10_2 {w0 : World} {g h B N : Nat} (hE : Prt w0 g h B 50 #[ptr g] [.nd .ex] N) (hBL : Prt w0 g h B 155 #[ptr g] [.nd .blk] N) (q : List UInt8) (z : Int) (s : List UInt8) {W : World} {r l' : List Nd} {ts o : List Tk} (hl : r.length < N) (hp : Prn [sg [119, 104, 105, 108, 101], .nd .ex, .nd .blk] r o l') (hn : FitN r) (hf : ts.length + o.length ≤ 99999990) (p : PW w0 g h B W (⟨10, 2, q, z, s⟩ :: r) ts) : Calls Tryz.prog 186 #[ptr g] W fun e W' => PrOk w0 g h B W l' (ts ++ o) e W' := by
  have HBR := hid (branches_prt2 hE hBL 10 2 q z s (by decide)); have K1 := hid (And.intro hl hn); obtain ⟨_, rfl, hq1⟩ := hp.tok_inv; clear hp; obtain ⟨o1, _, l1, rfl, hp1, hq2⟩ := hq1.split [.nd .ex, .nd .blk] _ rfl; clear hq1; have H1 := hid hp1; have K2 := hid (fit_len hp1 K1.out.1 K1.out.2); clear hp1; cases hq2
  have P0 := hid p; have S0 := hid (Step.refl g h W); have HF := hid hf; have HB := hid p.hB; clear p hf hl hn hE hBL; have HI : Hid ((Tryz.prog.info? 58).map (·.size) = some [Value.int .i64 10, .int .i64 2, .string (strOf q), .int .i64 z, .string (strOf s)].length) := hid (n_info ⟨10, 2, q, z, s⟩); have HIA : Hid ((Tryz.prog.info? 58).map (·.size) = some (Nd.cells ⟨10, 2, q, z, s⟩).toArray.size) := hid (n_infoA _); have HLA : Hid ((Nd.cells ⟨10, 2, q, z, s⟩).toArray.all (·.oneCell') = true) := hid (n_all _); go_enter Tryz.func186, Tryz.ntmps186
  have X := hid (next_any P0.out); go_wp2_with fail
  refine X.out.mono ?_; rintro e w1 ⟨rfl, hp', hs'⟩; have P1 := hid hp'; have S1 := hid (S0.out.trans hs'); clear hp' hs' P0 S0 X; simp only [Nd.cells]; have HZN := hid (nb_zero w1); have HPN := hid (nb_put w1 ⟨10, 2, q, z, s⟩); have BN := hid (LB.start P1.out ⟨10, 2, q, z, s⟩)
  go_upto_region 1 with (first
    | (refine wpList_store_mid rfl 58 (.tmp 2) (.tmp 5) rfl w1.heap.size 0 (Nd.cells ⟨10, 2, q, z, s⟩).toArray rfl rfl HZN.out.room HIA.out HLA.out ?_; generalize World.setCells _ _ _ _ = w2 at HPN BN ⊢)
    | fail)
  have P2 := hid (P1.out.later HPN.out.2); have S2 := hid (S1.out.trans (P1.out.step HPN.out.2)); obtain ⟨b, hb⟩ : ∃ b, b = w1.heap.size := ⟨_, rfl⟩; rw [← hb] at BN ⊢; have B2 := hid BN.out; obtain ⟨c0, c1, c2, c3, c4⟩ := B2.out.nb.at; clear HZN HPN BN hb P1 S1; simp only at c0 c1 c2 c3 c4; have X := hid (keyword_10 w2); go_wp2_with fail
  refine X.out.mono ?_; rintro e w9 ⟨rfl, rfl⟩; clear X; have X := hid (signs1 [119, 104, 105, 108, 101] P2.out (by have := HF.out; simp at this ⊢; omega))
  go_wp2_with fail
  refine X.out.mono ?_; rintro e w3 ⟨rfl, hp', hs'⟩; have P3 := hid hp'; have S3 := hid (S2.out.trans hs'); have B3 := hid (B2.out.step hs'); clear c0 c1 c2 c3 c4; obtain ⟨c0, c1, c2, c3, c4⟩ := B3.out.nb.at; clear hp' hs' P2 S2 B2 X; simp only at c0 c1 c2 c3 c4; have X := hid (HBR.out _ _ _ (ts ++ [sgn [119, 104, 105, 108, 101]]) _ K1.out.1 H1.out K1.out.2 (by have := HF.out; simp at this ⊢; omega) P3.out)
  go_wp2_with (first
    | (refine wpList_load_mid rfl 58 (.tmp 2) rfl b 0 rfl [.int .i64 10, .int .i64 2, .string (strOf q), .int .i64 z, .string (strOf s)] _ B3.out.nb.cells Tryz.underlying58 rfl HI.out ?_)
    | fail)
  refine X.out.mono ?_; rintro e w4 ⟨rfl, hp', hs'⟩; have P4 := hid hp'; have S4 := hid (S3.out.trans hs'); have B4 := hid (B3.out.step hs'); clear c0 c1 c2 c3 c4; obtain ⟨c0, c1, c2, c3, c4⟩ := B4.out.nb.at; clear hp' hs' P3 S3 B3 X; simp only at c0 c1 c2 c3 c4; go_wp2; refine bodyPost_ret (results_none rfl _ _ _) rfl ?_; exact ⟨rfl, by have := P4.out; simpa [List.append_assoc] using this, S4.out⟩
end Go.Proofs.YtmljjpdodcpohaaGreatDoor.Sw

