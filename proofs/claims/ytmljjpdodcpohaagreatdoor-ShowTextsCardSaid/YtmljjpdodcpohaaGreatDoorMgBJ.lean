/- The walks of the printer's param, index, unary, outer, list, function, branches: their contracts. No condition but those that each states. -/
import Derived.Test.YtmljjpdodcpohaaGreatDoorMgBI
import Derived.Test.YtmljjpdodcpohaaGreatDoorMgAP
import Derived.Test.YtmljjpdodcpohaaGreatDoorMgAZ
namespace Go.Proofs.YtmljjpdodcpohaaGreatDoor.Sw
open Lib (hid)
set_option maxRecDepth 100000
set_option maxHeartbeats 4000000
open Go.RowKit Dk Lx Tr Pa
theorem signs1 {w0 : World} {g h B : Nat} {W : World} {l : List Nd} {ts : List Tk} (q : List UInt8) (p : PW w0 g h B W l ts) (hf : ts.length + 1 ≤ 99999999) :
    Calls Tryz.prog 57 #[ptr g, .slice (some ⟨W.heap.size, 0, none⟩) 1 1] (W.alloc (.cells #[.string (strOf q)] 9)) fun e W' => PrOk w0 g h B W l (ts ++ [sgn q]) e W' := signs_lit [q] p hf
theorem signs2 {w0 : World} {g h B : Nat} {W : World} {l : List Nd} {ts : List Tk} (q r : List UInt8) (p : PW w0 g h B W l ts) (hf : ts.length + 2 ≤ 99999999) :
    Calls Tryz.prog 57 #[ptr g, .slice (some ⟨W.heap.size, 0, none⟩) 2 2] (W.alloc (.cells #[.string (strOf q), .string (strOf r)] 9)) fun e W' => PrOk w0 g h B W l (ts ++ [sgn q, sgn r]) e W' := signs_lit [q, r] p hf
def Prt (w0 : World) (g h B : Nat) (f : FuncId) (args : Array Value) (A : List PSy) (N : Nat) : Prop :=
  ∀ (W : World) (l l' : List Nd) (ts o : List Tk), l.length < N → Prn A l o l' → FitN l → ts.length + o.length ≤ 99999990 → PW w0 g h B W l ts → Calls Tryz.prog f args W fun e W' => PrOk w0 g h B W l' (ts ++ o) e W'
theorem fit_len {A : List PSy} {l l' : List Nd} {o : List Tk} {N : Nat} (h : Prn A l o l') (hl : l.length < N) (hn : FitN l) : l'.length < N ∧ FitN l' := by
  obtain ⟨n, -, rfl⟩ := h.ends; exact ⟨by rw [List.length_drop]; omega, fun x hx => hn x (List.mem_of_mem_drop hx)⟩
theorem LB.box {w0 : World} {g h B : Nat} {W : World} {l : List Nd} {ts : List Tk} (p : PW w0 g h B W l ts) (x : Nd) (ty : TypeId) : LB g h (W.alloc (.cells x.cells.toArray ty)) W.heap.size x := by
  have hb : Below W.heap.size W (W.alloc (.cells x.cells.toArray ty)) := (Below.refl _ _).alloc (Nat.le_refl _) _; obtain ⟨l1, l2⟩ := p.low; refine ⟨nb_new W x ty, by omega, by omega, fun e => ?_⟩
  have e' : ownT W h = some W.heap.size := by
    unfold ownT at e ⊢; rwa [World.cell?_of_block (a := ⟨h, 0, none⟩) (hb.block h l2)] at e
  have := (own_lt p e').2; omega
theorem param_prt {w0 : World} {g h B N : Nat} : Prt w0 g h B 154 #[ptr g] [.nd .par] N := by
  intro W l l' ts o hl hp hn hf p; obtain ⟨x, r, rfl, hc, -, -, hq0⟩ := hp.nd_inv; clear hp; obtain ⟨k, d, q, z, s⟩ := x; obtain rfl : k = 4 := eq_of_beq (show (k == 4) = true from hc); obtain ⟨_, rfl, hq1⟩ := Prn.tok_inv (A := []) hq0; clear hq0; cases hq1
  have hfd : ∀ W : World, (Instr.field 58 (.agg #[.int .i64 4, .int .i64 d, .string (strOf q), .int .i64 z, .string (strOf s)]) 2).run Tryz.prog W = .ok (.string (strOf q)) W := fun _ => by kernel_rfl
  clear hl hn hc; have P0 := hid p; have S0 := hid (Step.refl g h W); have HF := hid hf; have HB := hid p.hB; clear p hf; go_enter Tryz.func154, Tryz.ntmps154
  have X := hid (next_any P0.out); go_wp2_with fail
  refine X.out.mono ?_; rintro e w1 ⟨rfl, hp', hs'⟩; have P1 := hid hp'; have S1 := hid (S0.out.trans hs'); clear hp' hs' P0 S0 X; simp only [Nd.cells]; have X := hid (pname_any q P1.out (by have := HF.out; simp at this ⊢; omega))
  go_wp2_with fail
  refine X.out.mono ?_; rintro e w2 ⟨rfl, hp', hs'⟩; have P2 := hid hp'; have S2 := hid (S1.out.trans hs'); clear hp' hs' P1 S1 X; go_wp2; refine bodyPost_end (results_none rfl _ _ _) rfl ?_; exact ⟨rfl, by have := P2.out; simpa [List.append_assoc] using this, S2.out⟩
theorem index_prt {w0 : World} {g h B N : Nat} (hE : Prt w0 g h B 50 #[ptr g] [.nd .ex] N) : Prt w0 g h B 91 #[ptr g] [.nd .ex, sg [91], .nd .ex, sg [93]] N := by
  intro W l l' ts o hl hp hn hf p; have HE := hid hE; have K1 := hid (And.intro hl hn); obtain ⟨o1, _, l1, rfl, hp1, hq1⟩ := hp.nd_cons; clear hp; have H1 := hid hp1; have K2 := hid (fit_len hp1 K1.out.1 K1.out.2); clear hp1; obtain ⟨_, rfl, hq2⟩ := hq1.tok_inv; clear hq1; obtain ⟨o2, _, l2, rfl, hp2, hq3⟩ := hq2.nd_cons; clear hq2; have H2 := hid hp2; have K3 := hid (fit_len hp2 K2.out.1 K2.out.2); clear hp2; obtain ⟨_, rfl, hq4⟩ := hq3.tok_inv; clear hq3; cases hq4
  have P0 := hid p; have S0 := hid (Step.refl g h W); have HF := hid hf; have HB := hid p.hB; clear p hf hl hn hE; go_enter Tryz.func91, Tryz.ntmps91
  have X := hid (HE.out _ _ _ ts _ K1.out.1 H1.out K1.out.2 (by have := HF.out; simp at this ⊢; omega) P0.out)
  go_wp2_with fail
  refine X.out.mono ?_; rintro e w1 ⟨rfl, hp', hs'⟩; have P1 := hid hp'; have S1 := hid (S0.out.trans hs'); clear hp' hs' P0 S0 X; have X := hid (signs1 [91] P1.out (by have := HF.out; simp at this ⊢; omega))
  go_wp2_with fail
  refine X.out.mono ?_; rintro e w2 ⟨rfl, hp', hs'⟩; have P2 := hid hp'; have S2 := hid (S1.out.trans hs'); clear hp' hs' P1 S1 X; have X := hid (HE.out _ _ _ ((ts ++ o1) ++ [sgn [91]]) _ K2.out.1 H2.out K2.out.2 (by have := HF.out; simp at this ⊢; omega) P2.out)
  go_wp2_with fail
  refine X.out.mono ?_; rintro e w3 ⟨rfl, hp', hs'⟩; have P3 := hid hp'; have S3 := hid (S2.out.trans hs'); clear hp' hs' P2 S2 X; have X := hid (signs1 [93] P3.out (by have := HF.out; simp at this ⊢; omega))
  go_wp2_with fail
  refine X.out.mono ?_; rintro e w4 ⟨rfl, hp', hs'⟩; have P4 := hid hp'; have S4 := hid (S3.out.trans hs'); clear hp' hs' P3 S3 X; go_wp2; refine bodyPost_end (results_none rfl _ _ _) rfl ?_; exact ⟨rfl, by have := P4.out; simpa [List.append_assoc] using this, S4.out⟩
theorem unary_prt {w0 : World} {g h B N : Nat} (y : List UInt8) (hE : Prt w0 g h B 50 #[ptr g] [.nd .ex] N) : Prt w0 g h B 94 #[ptr g, .string (strOf y)] [sg [40], sg y, .nd .ex, sg [41]] N := by
  intro W l l' ts o hl hp hn hf p; have HE := hid hE; have K1 := hid (And.intro hl hn); obtain ⟨_, rfl, hq1⟩ := hp.tok_inv; clear hp; obtain ⟨_, rfl, hq2⟩ := hq1.tok_inv; clear hq1; obtain ⟨o1, _, l1, rfl, hp1, hq3⟩ := hq2.nd_cons; clear hq2; have H1 := hid hp1; have K2 := hid (fit_len hp1 K1.out.1 K1.out.2); clear hp1; obtain ⟨_, rfl, hq4⟩ := hq3.tok_inv; clear hq3; cases hq4
  have P0 := hid p; have S0 := hid (Step.refl g h W); have HF := hid hf; have HB := hid p.hB; clear p hf hl hn hE; go_enter Tryz.func94, Tryz.ntmps94
  have X := hid (signs2 [40] y P0.out (by have := HF.out; simp at this ⊢; omega))
  go_wp2_with fail
  refine X.out.mono ?_; rintro e w1 ⟨rfl, hp', hs'⟩; have P1 := hid hp'; have S1 := hid (S0.out.trans hs'); clear hp' hs' P0 S0 X; have X := hid (HE.out _ _ _ (ts ++ [sgn [40], sgn y]) _ K1.out.1 H1.out K1.out.2 (by have := HF.out; simp at this ⊢; omega) P1.out)
  go_wp2_with fail
  refine X.out.mono ?_; rintro e w2 ⟨rfl, hp', hs'⟩; have P2 := hid hp'; have S2 := hid (S1.out.trans hs'); clear hp' hs' P1 S1 X; have X := hid (signs1 [41] P2.out (by have := HF.out; simp at this ⊢; omega))
  go_wp2_with fail
  refine X.out.mono ?_; rintro e w3 ⟨rfl, hp', hs'⟩; have P3 := hid hp'; have S3 := hid (S2.out.trans hs'); clear hp' hs' P2 S2 X; go_wp2; refine bodyPost_end (results_none rfl _ _ _) rfl ?_; exact ⟨rfl, by have := P3.out; simpa [List.append_assoc] using this, S3.out⟩
theorem outer_prt {w0 : World} {g h B N : Nat} (k d : Int) (q : List UInt8) (z : Int) (s : List UInt8) : Prt w0 g h B 93 #[ptr g, .agg #[.int .i64 k, .int .i64 d, .string (strOf q), .int .i64 z, .string (strOf s)]] [nm q, sg [46], nm s] N := by
  intro W l l' ts o hl hp hn hf p; have K1 := hid (And.intro hl hn); obtain ⟨_, rfl, hq1⟩ := hp.tok_inv; clear hp; obtain ⟨_, rfl, hq2⟩ := hq1.tok_inv; clear hq1; obtain ⟨_, rfl, hq3⟩ := hq2.tok_inv; clear hq2; cases hq3
  have P0 := hid p; have S0 := hid (Step.refl g h W); have HF := hid hf; have HB := hid p.hB; clear p hf hl hn K1; go_enter Tryz.func93, Tryz.ntmps93
  go_upto_region 1 with fail
  have hbx : Below W.heap.size W (W.alloc (.cells #[.int .i64 k, .int .i64 d, .string (strOf q), .int .i64 z, .string (strOf s)] 58)) := (Below.refl _ _).alloc (Nat.le_refl _) _; have P1 := hid (P0.out.later hbx); have S1 := hid (S0.out.trans (P0.out.step hbx)); have B1 := hid (LB.box P0.out ⟨k, d, q, z, s⟩ 58); simp only [Nd.cells] at B1; obtain ⟨w1, hw1⟩ : ∃ w1, w1 = W.alloc (.cells #[.int .i64 k, .int .i64 d, .string (strOf q), .int .i64 z, .string (strOf s)] 58) := ⟨_, rfl⟩; rw [← hw1] at P1 S1 B1 ⊢; obtain ⟨b, hb⟩ : ∃ b, b = W.heap.size := ⟨_, rfl⟩; rw [← hb] at B1 ⊢; obtain ⟨c0, c1, c2, c3, c4⟩ := B1.out.nb.at; simp only at c0 c1 c2 c3 c4; clear hbx hw1 hb P0 S0; have X := hid (pname_any q P1.out (by have := HF.out; simp at this ⊢; omega))
  go_wp2_with fail
  refine X.out.mono ?_; rintro e w2 ⟨rfl, hp', hs'⟩; have P2 := hid hp'; have S2 := hid (S1.out.trans hs'); have B2 := hid (B1.out.step hs'); clear c0 c1 c2 c3 c4; obtain ⟨c0, c1, c2, c3, c4⟩ := B2.out.nb.at; clear hp' hs' P1 S1 B1 X; have X := hid (signs1 [46] P2.out (by have := HF.out; simp at this ⊢; omega))
  go_wp2_with fail
  refine X.out.mono ?_; rintro e w3 ⟨rfl, hp', hs'⟩; have P3 := hid hp'; have S3 := hid (S2.out.trans hs'); have B3 := hid (B2.out.step hs'); clear c0 c1 c2 c3 c4; obtain ⟨c0, c1, c2, c3, c4⟩ := B3.out.nb.at; clear hp' hs' P2 S2 B2 X; have X := hid (pname_any s P3.out (by have := HF.out; simp at this ⊢; omega))
  go_wp2_with fail
  refine X.out.mono ?_; rintro e w4 ⟨rfl, hp', hs'⟩; have P4 := hid hp'; have S4 := hid (S3.out.trans hs'); have B4 := hid (B3.out.step hs'); clear c0 c1 c2 c3 c4; obtain ⟨c0, c1, c2, c3, c4⟩ := B4.out.nb.at; clear hp' hs' P3 S3 B3 X; go_wp2; refine bodyPost_end (results_none rfl _ _ _) rfl ?_; exact ⟨rfl, by have := P4.out; simpa [List.append_assoc] using this, S4.out⟩
theorem function_prt {w0 : World} {g h B N : Nat} (hB : Prt w0 g h B 155 #[ptr g] [.nd .blk] N) (k d : Int) (q : List UInt8) (z : Int) (s : List UInt8) (hd : 1 ≤ d ∧ d ≤ 100000) (hL : Prt w0 g h B 92 #[ptr g, .int .i64 (((d.toNat - 1 : Nat)) : Int), .func (.func 154) #[ptr g] #[]] (lstX .par (d.toNat - 1)) N) : Prt w0 g h B 90 #[ptr g, .agg #[.int .i64 k, .int .i64 d, .string (strOf q), .int .i64 z, .string (strOf s)]] (fnX d.toNat) N := by
  intro W l l' ts o hl hp hn hf p; have HBL := hid hB; have HL := hid hL; have HD := hid hd; have K1 := hid (And.intro hl hn); obtain ⟨o1, _, l1, rfl, hp1, hq1⟩ := hp.split (lstX .par (d.toNat - 1)) _ rfl; clear hp; have H1 := hid hp1; have K2 := hid (fit_len hp1 K1.out.1 K1.out.2); clear hp1; obtain ⟨o2, _, l2, rfl, hp2, hq2⟩ := hq1.nd_cons; clear hq1; have H2 := hid hp2; have K3 := hid (fit_len hp2 K2.out.1 K2.out.2); clear hp2; cases hq2
  have P0 := hid p; have S0 := hid (Step.refl g h W); have HF := hid hf; have HB := hid p.hB; have e9 : IntKind.i64.wrap (d - 1) = ((d.toNat - 1 : Nat) : Int) := by rw [wrap_in _ (by omega)]; omega
  clear p hf hl hn hB hL hd; go_enter Tryz.func90, Tryz.ntmps90
  go_upto_region 1 with fail
  have hbx : Below W.heap.size W (W.alloc (.cells #[.int .i64 k, .int .i64 d, .string (strOf q), .int .i64 z, .string (strOf s)] 58)) := (Below.refl _ _).alloc (Nat.le_refl _) _; have P1 := hid (P0.out.later hbx); have S1 := hid (S0.out.trans (P0.out.step hbx)); have B1 := hid (LB.box P0.out ⟨k, d, q, z, s⟩ 58); simp only [Nd.cells] at B1; obtain ⟨w1, hw1⟩ : ∃ w1, w1 = W.alloc (.cells #[.int .i64 k, .int .i64 d, .string (strOf q), .int .i64 z, .string (strOf s)] 58) := ⟨_, rfl⟩; rw [← hw1] at P1 S1 B1 ⊢; obtain ⟨b, hb⟩ : ∃ b, b = W.heap.size := ⟨_, rfl⟩; rw [← hb] at B1 ⊢; obtain ⟨c0, c1, c2, c3, c4⟩ := B1.out.nb.at; simp only at c0 c1 c2 c3 c4; clear hbx hw1 hb P0 S0; have X := hid (HL.out _ _ _ ts _ K1.out.1 H1.out K1.out.2 (by have := HF.out; simp at this ⊢; omega) P1.out)
  go_wp2_with fail
  refine X.out.mono ?_; rintro e w2 ⟨rfl, hp', hs'⟩; have P2 := hid hp'; have S2 := hid (S1.out.trans hs'); have B2 := hid (B1.out.step hs'); clear c0 c1 c2 c3 c4; obtain ⟨c0, c1, c2, c3, c4⟩ := B2.out.nb.at; clear hp' hs' P1 S1 B1 X; have X := hid (HBL.out _ _ _ (ts ++ o1) _ K2.out.1 H2.out K2.out.2 (by have := HF.out; simp at this ⊢; omega) P2.out)
  go_wp2_with fail
  refine X.out.mono ?_; rintro e w3 ⟨rfl, hp', hs'⟩; have P3 := hid hp'; have S3 := hid (S2.out.trans hs'); have B3 := hid (B2.out.step hs'); clear c0 c1 c2 c3 c4; obtain ⟨c0, c1, c2, c3, c4⟩ := B3.out.nb.at; clear hp' hs' P2 S2 B2 X; go_wp2; refine bodyPost_end (results_none rfl _ _ _) rfl ?_; exact ⟨rfl, by have := P3.out; simpa [List.append_assoc] using this, S3.out⟩
theorem branches_prt3 {w0 : World} {g h B N : Nat} (hE : Prt w0 g h B 50 #[ptr g] [.nd .ex] N) (hB : Prt w0 g h B 155 #[ptr g] [.nd .blk] N) (k d : Int) (q : List UInt8) (z : Int) (s : List UInt8) (hd : d > 2) : Prt w0 g h B 210 #[ptr g, .agg #[.int .i64 k, .int .i64 d, .string (strOf q), .int .i64 z, .string (strOf s)]] [.nd .ex, .nd .blk, sg [101, 108, 115, 101], .nd .blk] N := by
  intro W l l' ts o hl hp hn hf p; have HE := hid hE; have HBL := hid hB; have K1 := hid (And.intro hl hn); obtain ⟨o1, _, l1, rfl, hp1, hq1⟩ := hp.nd_cons; clear hp; have H1 := hid hp1; have K2 := hid (fit_len hp1 K1.out.1 K1.out.2); clear hp1; obtain ⟨o2, _, l2, rfl, hp2, hq2⟩ := hq1.nd_cons; clear hq1; have H2 := hid hp2; have K3 := hid (fit_len hp2 K2.out.1 K2.out.2); clear hp2; obtain ⟨_, rfl, hq3⟩ := hq2.tok_inv; clear hq2; obtain ⟨o3, _, l3, rfl, hp3, hq4⟩ := hq3.nd_cons; clear hq3; have H3 := hid hp3; have K4 := hid (fit_len hp3 K3.out.1 K3.out.2); clear hp3; cases hq4
  have P0 := hid p; have S0 := hid (Step.refl g h W); have HF := hid hf; have HB := hid p.hB; clear p hf hl hn hB hE; go_enter Tryz.func210, Tryz.ntmps210
  go_upto_region 1 with fail
  have hbx : Below W.heap.size W (W.alloc (.cells #[.int .i64 k, .int .i64 d, .string (strOf q), .int .i64 z, .string (strOf s)] 58)) := (Below.refl _ _).alloc (Nat.le_refl _) _; have P1 := hid (P0.out.later hbx); have S1 := hid (S0.out.trans (P0.out.step hbx)); have B1 := hid (LB.box P0.out ⟨k, d, q, z, s⟩ 58); simp only [Nd.cells] at B1; obtain ⟨w1, hw1⟩ : ∃ w1, w1 = W.alloc (.cells #[.int .i64 k, .int .i64 d, .string (strOf q), .int .i64 z, .string (strOf s)] 58) := ⟨_, rfl⟩; rw [← hw1] at P1 S1 B1 ⊢; obtain ⟨b, hb⟩ : ∃ b, b = W.heap.size := ⟨_, rfl⟩; rw [← hb] at B1 ⊢; obtain ⟨c0, c1, c2, c3, c4⟩ := B1.out.nb.at; simp only at c0 c1 c2 c3 c4; clear hbx hw1 hb P0 S0; have X := hid (HE.out _ _ _ ts _ K1.out.1 H1.out K1.out.2 (by have := HF.out; simp at this ⊢; omega) P1.out)
  go_wp2_with fail
  refine X.out.mono ?_; rintro e w2 ⟨rfl, hp', hs'⟩; have P2 := hid hp'; have S2 := hid (S1.out.trans hs'); have B2 := hid (B1.out.step hs'); clear c0 c1 c2 c3 c4; obtain ⟨c0, c1, c2, c3, c4⟩ := B2.out.nb.at; clear hp' hs' P1 S1 B1 X; have X := hid (HBL.out _ _ _ (ts ++ o1) _ K2.out.1 H2.out K2.out.2 (by have := HF.out; simp at this ⊢; omega) P2.out)
  go_wp2_with fail
  refine X.out.mono ?_; rintro e w3 ⟨rfl, hp', hs'⟩; have P3 := hid hp'; have S3 := hid (S2.out.trans hs'); have B3 := hid (B2.out.step hs'); clear c0 c1 c2 c3 c4; obtain ⟨c0, c1, c2, c3, c4⟩ := B3.out.nb.at; clear hp' hs' P2 S2 B2 X; have X := hid (signs1 [101, 108, 115, 101] P3.out (by have := HF.out; simp at this ⊢; omega))
  go_wp2_with fail
  refine X.out.mono ?_; rintro e w4 ⟨rfl, hp', hs'⟩; have P4 := hid hp'; have S4 := hid (S3.out.trans hs'); have B4 := hid (B3.out.step hs'); clear c0 c1 c2 c3 c4; obtain ⟨c0, c1, c2, c3, c4⟩ := B4.out.nb.at; clear hp' hs' P3 S3 B3 X; have X := hid (HBL.out _ _ _ (((ts ++ o1) ++ o2) ++ [sgn [101, 108, 115, 101]]) _ K3.out.1 H3.out K3.out.2 (by have := HF.out; simp at this ⊢; omega) P4.out)
  go_wp2_with fail
  refine X.out.mono ?_; rintro e w5 ⟨rfl, hp', hs'⟩; have P5 := hid hp'; have S5 := hid (S4.out.trans hs'); have B5 := hid (B4.out.step hs'); clear c0 c1 c2 c3 c4; obtain ⟨c0, c1, c2, c3, c4⟩ := B5.out.nb.at; clear hp' hs' P4 S4 B4 X; go_wp2; refine bodyPost_end (results_none rfl _ _ _) rfl ?_; exact ⟨rfl, by have := P5.out; simpa [List.append_assoc] using this, S5.out⟩
theorem branches_prt2 {w0 : World} {g h B N : Nat} (hE : Prt w0 g h B 50 #[ptr g] [.nd .ex] N) (hB : Prt w0 g h B 155 #[ptr g] [.nd .blk] N) (k d : Int) (q : List UInt8) (z : Int) (s : List UInt8) (hd : ¬d > 2) : Prt w0 g h B 210 #[ptr g, .agg #[.int .i64 k, .int .i64 d, .string (strOf q), .int .i64 z, .string (strOf s)]] [.nd .ex, .nd .blk] N := by
  intro W l l' ts o hl hp hn hf p; have HE := hid hE; have HBL := hid hB; have K1 := hid (And.intro hl hn); obtain ⟨o1, _, l1, rfl, hp1, hq1⟩ := hp.nd_cons; clear hp; have H1 := hid hp1; have K2 := hid (fit_len hp1 K1.out.1 K1.out.2); clear hp1; obtain ⟨o2, _, l2, rfl, hp2, hq2⟩ := hq1.nd_cons; clear hq1; have H2 := hid hp2; have K3 := hid (fit_len hp2 K2.out.1 K2.out.2); clear hp2; cases hq2
  have P0 := hid p; have S0 := hid (Step.refl g h W); have HF := hid hf; have HB := hid p.hB; clear p hf hl hn hB hE; go_enter Tryz.func210, Tryz.ntmps210
  go_upto_region 1 with fail
  have hbx : Below W.heap.size W (W.alloc (.cells #[.int .i64 k, .int .i64 d, .string (strOf q), .int .i64 z, .string (strOf s)] 58)) := (Below.refl _ _).alloc (Nat.le_refl _) _; have P1 := hid (P0.out.later hbx); have S1 := hid (S0.out.trans (P0.out.step hbx)); have B1 := hid (LB.box P0.out ⟨k, d, q, z, s⟩ 58); simp only [Nd.cells] at B1; obtain ⟨w1, hw1⟩ : ∃ w1, w1 = W.alloc (.cells #[.int .i64 k, .int .i64 d, .string (strOf q), .int .i64 z, .string (strOf s)] 58) := ⟨_, rfl⟩; rw [← hw1] at P1 S1 B1 ⊢; obtain ⟨b, hb⟩ : ∃ b, b = W.heap.size := ⟨_, rfl⟩; rw [← hb] at B1 ⊢; obtain ⟨c0, c1, c2, c3, c4⟩ := B1.out.nb.at; simp only at c0 c1 c2 c3 c4; clear hbx hw1 hb P0 S0; have X := hid (HE.out _ _ _ ts _ K1.out.1 H1.out K1.out.2 (by have := HF.out; simp at this ⊢; omega) P1.out)
  go_wp2_with fail
  refine X.out.mono ?_; rintro e w2 ⟨rfl, hp', hs'⟩; have P2 := hid hp'; have S2 := hid (S1.out.trans hs'); have B2 := hid (B1.out.step hs'); clear c0 c1 c2 c3 c4; obtain ⟨c0, c1, c2, c3, c4⟩ := B2.out.nb.at; clear hp' hs' P1 S1 B1 X; have X := hid (HBL.out _ _ _ (ts ++ o1) _ K2.out.1 H2.out K2.out.2 (by have := HF.out; simp at this ⊢; omega) P2.out)
  go_wp2_with fail
  refine X.out.mono ?_; rintro e w3 ⟨rfl, hp', hs'⟩; have P3 := hid hp'; have S3 := hid (S2.out.trans hs'); have B3 := hid (B2.out.step hs'); clear c0 c1 c2 c3 c4; obtain ⟨c0, c1, c2, c3, c4⟩ := B3.out.nb.at; clear hp' hs' P2 S2 B2 X; go_wp2; refine bodyPost_end (results_none rfl _ _ _) rfl ?_; exact ⟨rfl, by have := P3.out; simpa [List.append_assoc] using this, S3.out⟩
end Go.Proofs.YtmljjpdodcpohaaGreatDoor.Sw

