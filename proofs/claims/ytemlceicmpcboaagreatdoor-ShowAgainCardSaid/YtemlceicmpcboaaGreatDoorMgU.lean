/- The walks of the printer's param, index, unary, outer, list, function, branches: their contracts. The walks of the printer's list, keyword, block, stmt: their contracts. No condition but those that each states. -/
import Derived.Test.YtemlceicmpcboaaGreatDoorMgS
import Derived.Test.YtemlceicmpcboaaGreatDoorMgT
import Derived.Test.YtemlceicmpcboaaGreatDoorMgD
namespace Go.Proofs.YtemlceicmpcboaaGreatDoor.Sw
open Go.RowKit Dk Lx Tr Pa

theorem signs1 {w0 : World} {g h B : Nat} {W : World} {l : List Nd} {ts : List Tk} (q : List UInt8) (p : PW w0 g h B W l ts) (hf : ts.length + 1 ≤ 99999999) :
    Calls Tryz.prog 89 #[ptr g, .slice (some ⟨W.heap.size, 0, none⟩) 1 1] (W.alloc (.cells #[.string (strOf q)] 9)) fun e W' => PrOk w0 g h B W l (ts ++ [sgn q]) e W' := signs_lit [q] p hf
theorem signs2 {w0 : World} {g h B : Nat} {W : World} {l : List Nd} {ts : List Tk} (q r : List UInt8) (p : PW w0 g h B W l ts) (hf : ts.length + 2 ≤ 99999999) :
    Calls Tryz.prog 89 #[ptr g, .slice (some ⟨W.heap.size, 0, none⟩) 2 2] (W.alloc (.cells #[.string (strOf q), .string (strOf r)] 9)) fun e W' => PrOk w0 g h B W l (ts ++ [sgn q, sgn r]) e W' := signs_lit [q, r] p hf
/-- A function writes so much, of so many nodes. -/
def Prt (w0 : World) (g h B : Nat) (f : FuncId) (args : Array Value) (A : List PSy) (N : Nat) : Prop :=
  ∀ (W : World) (l l' : List Nd) (ts o : List Tk), l.length < N → Prn A l o l' → FitN l → ts.length + o.length ≤ 99999990 → PW w0 g h B W l ts → Calls Tryz.prog f args W fun e W' => PrOk w0 g h B W l' (ts ++ o) e W'
theorem fit_len {A : List PSy} {l l' : List Nd} {o : List Tk} {N : Nat} (h : Prn A l o l') (hl : l.length < N) (hn : FitN l) : l'.length < N ∧ FitN l' := by
  obtain ⟨n, -, rfl⟩ := h.ends
  exact ⟨by rw [List.length_drop]; omega, fun x hx => hn x (List.mem_of_mem_drop hx)⟩
theorem LB.box {w0 : World} {g h B : Nat} {W : World} {l : List Nd} {ts : List Tk} (p : PW w0 g h B W l ts) (x : Nd) (ty : TypeId) : LB g h (W.alloc (.cells x.cells.toArray ty)) W.heap.size x := by
  have hb : Below W.heap.size W (W.alloc (.cells x.cells.toArray ty)) := (Below.refl _ _).alloc (Nat.le_refl _) _
  obtain ⟨l1, l2⟩ := p.low
  refine ⟨nb_new W x ty, by omega, by omega, fun e => ?_⟩
  have e' : ownT W h = some W.heap.size := by
    unfold ownT at e ⊢
    rwa [World.cell?_of_block (a := ⟨h, 0, none⟩) (hb.block h l2)] at e
  have := (own_lt p e').2
  omega

set_option maxHeartbeats 4000000 in
set_option maxRecDepth 100000 in
theorem param_prt {w0 : World} {g h B N : Nat} : Prt w0 g h B 181 #[ptr g] [.nd .par] N := by
  intro W l l' ts o hl hp hn hf p
  obtain ⟨x, r, rfl, hc, -, -, hq0⟩ := hp.nd_inv
  clear hp
  obtain ⟨k, d, q, z, s⟩ := x
  obtain rfl : k = 4 := eq_of_beq (show (k == 4) = true from hc)
  obtain ⟨_, rfl, hq1⟩ := Prn.tok_inv (A := []) hq0
  clear hq0
  cases hq1
  have hfd : ∀ W : World, (Instr.field 29 (.agg #[.int .i64 4, .int .i64 d, .string (strOf q), .int .i64 z, .string (strOf s)]) 2).run Tryz.prog W = .ok (.string (strOf q)) W := fun _ => by kernel_rfl
  clear hl hn hc
  have P0 := Lib.hid p
  have S0 := Lib.hid (Step.refl g h W)
  have HF := Lib.hid hf
  have HB := Lib.hid p.hB
  clear p hf
  go_enter Tryz.func181, Tryz.ntmps181
  have X := Lib.hid (next_any P0.out)
  go_wp2_with fail
  refine X.out.mono ?_
  rintro e w1 ⟨rfl, hp', hs'⟩
  have P1 := Lib.hid hp'
  have S1 := Lib.hid (S0.out.trans hs')
  clear hp' hs' P0 S0 X
  simp only [Nd.cells]
  have X := Lib.hid (pname_any q P1.out (by have := HF.out; simp at this ⊢; omega))
  go_wp2_with fail
  refine X.out.mono ?_
  rintro e w2 ⟨rfl, hp', hs'⟩
  have P2 := Lib.hid hp'
  have S2 := Lib.hid (S1.out.trans hs')
  clear hp' hs' P1 S1 X
  go_wp2
  refine bodyPost_end (results_none rfl _ _ _) rfl ?_
  exact ⟨rfl, by have := P2.out; simpa [List.append_assoc] using this, S2.out⟩

set_option maxHeartbeats 4000000 in
set_option maxRecDepth 100000 in
theorem index_prt {w0 : World} {g h B N : Nat} (hE : Prt w0 g h B 86 #[ptr g] [.nd .ex] N) : Prt w0 g h B 145 #[ptr g] [.nd .ex, sg [91], .nd .ex, sg [93]] N := by
  intro W l l' ts o hl hp hn hf p
  have HE := Lib.hid hE
  have K1 := Lib.hid (And.intro hl hn)
  obtain ⟨o1, _, l1, rfl, hp1, hq1⟩ := hp.nd_cons
  clear hp
  have H1 := Lib.hid hp1
  have K2 := Lib.hid (fit_len hp1 K1.out.1 K1.out.2)
  clear hp1
  obtain ⟨_, rfl, hq2⟩ := hq1.tok_inv
  clear hq1
  obtain ⟨o2, _, l2, rfl, hp2, hq3⟩ := hq2.nd_cons
  clear hq2
  have H2 := Lib.hid hp2
  have K3 := Lib.hid (fit_len hp2 K2.out.1 K2.out.2)
  clear hp2
  obtain ⟨_, rfl, hq4⟩ := hq3.tok_inv
  clear hq3
  cases hq4
  have P0 := Lib.hid p
  have S0 := Lib.hid (Step.refl g h W)
  have HF := Lib.hid hf
  have HB := Lib.hid p.hB
  clear p hf hl hn hE
  go_enter Tryz.func145, Tryz.ntmps145
  have X := Lib.hid (HE.out _ _ _ ts _ K1.out.1 H1.out K1.out.2 (by have := HF.out; simp at this ⊢; omega) P0.out)
  go_wp2_with fail
  refine X.out.mono ?_
  rintro e w1 ⟨rfl, hp', hs'⟩
  have P1 := Lib.hid hp'
  have S1 := Lib.hid (S0.out.trans hs')
  clear hp' hs' P0 S0 X
  have X := Lib.hid (signs1 [91] P1.out (by have := HF.out; simp at this ⊢; omega))
  go_wp2_with fail
  refine X.out.mono ?_
  rintro e w2 ⟨rfl, hp', hs'⟩
  have P2 := Lib.hid hp'
  have S2 := Lib.hid (S1.out.trans hs')
  clear hp' hs' P1 S1 X
  have X := Lib.hid (HE.out _ _ _ ((ts ++ o1) ++ [sgn [91]]) _ K2.out.1 H2.out K2.out.2 (by have := HF.out; simp at this ⊢; omega) P2.out)
  go_wp2_with fail
  refine X.out.mono ?_
  rintro e w3 ⟨rfl, hp', hs'⟩
  have P3 := Lib.hid hp'
  have S3 := Lib.hid (S2.out.trans hs')
  clear hp' hs' P2 S2 X
  have X := Lib.hid (signs1 [93] P3.out (by have := HF.out; simp at this ⊢; omega))
  go_wp2_with fail
  refine X.out.mono ?_
  rintro e w4 ⟨rfl, hp', hs'⟩
  have P4 := Lib.hid hp'
  have S4 := Lib.hid (S3.out.trans hs')
  clear hp' hs' P3 S3 X
  go_wp2
  refine bodyPost_end (results_none rfl _ _ _) rfl ?_
  exact ⟨rfl, by have := P4.out; simpa [List.append_assoc] using this, S4.out⟩

set_option maxHeartbeats 4000000 in
set_option maxRecDepth 100000 in
theorem unary_prt {w0 : World} {g h B N : Nat} (y : List UInt8) (hE : Prt w0 g h B 86 #[ptr g] [.nd .ex] N) : Prt w0 g h B 148 #[ptr g, .string (strOf y)] [sg [40], sg y, .nd .ex, sg [41]] N := by
  intro W l l' ts o hl hp hn hf p
  have HE := Lib.hid hE
  have K1 := Lib.hid (And.intro hl hn)
  obtain ⟨_, rfl, hq1⟩ := hp.tok_inv
  clear hp
  obtain ⟨_, rfl, hq2⟩ := hq1.tok_inv
  clear hq1
  obtain ⟨o1, _, l1, rfl, hp1, hq3⟩ := hq2.nd_cons
  clear hq2
  have H1 := Lib.hid hp1
  have K2 := Lib.hid (fit_len hp1 K1.out.1 K1.out.2)
  clear hp1
  obtain ⟨_, rfl, hq4⟩ := hq3.tok_inv
  clear hq3
  cases hq4
  have P0 := Lib.hid p
  have S0 := Lib.hid (Step.refl g h W)
  have HF := Lib.hid hf
  have HB := Lib.hid p.hB
  clear p hf hl hn hE
  go_enter Tryz.func148, Tryz.ntmps148
  have X := Lib.hid (signs2 [40] y P0.out (by have := HF.out; simp at this ⊢; omega))
  go_wp2_with fail
  refine X.out.mono ?_
  rintro e w1 ⟨rfl, hp', hs'⟩
  have P1 := Lib.hid hp'
  have S1 := Lib.hid (S0.out.trans hs')
  clear hp' hs' P0 S0 X
  have X := Lib.hid (HE.out _ _ _ (ts ++ [sgn [40], sgn y]) _ K1.out.1 H1.out K1.out.2 (by have := HF.out; simp at this ⊢; omega) P1.out)
  go_wp2_with fail
  refine X.out.mono ?_
  rintro e w2 ⟨rfl, hp', hs'⟩
  have P2 := Lib.hid hp'
  have S2 := Lib.hid (S1.out.trans hs')
  clear hp' hs' P1 S1 X
  have X := Lib.hid (signs1 [41] P2.out (by have := HF.out; simp at this ⊢; omega))
  go_wp2_with fail
  refine X.out.mono ?_
  rintro e w3 ⟨rfl, hp', hs'⟩
  have P3 := Lib.hid hp'
  have S3 := Lib.hid (S2.out.trans hs')
  clear hp' hs' P2 S2 X
  go_wp2
  refine bodyPost_end (results_none rfl _ _ _) rfl ?_
  exact ⟨rfl, by have := P3.out; simpa [List.append_assoc] using this, S3.out⟩

set_option maxHeartbeats 4000000 in
set_option maxRecDepth 100000 in
theorem outer_prt {w0 : World} {g h B N : Nat} (k d : Int) (q : List UInt8) (z : Int) (s : List UInt8) : Prt w0 g h B 147 #[ptr g, .agg #[.int .i64 k, .int .i64 d, .string (strOf q), .int .i64 z, .string (strOf s)]] [nm q, sg [46], nm s] N := by
  intro W l l' ts o hl hp hn hf p
  have K1 := Lib.hid (And.intro hl hn)
  obtain ⟨_, rfl, hq1⟩ := hp.tok_inv
  clear hp
  obtain ⟨_, rfl, hq2⟩ := hq1.tok_inv
  clear hq1
  obtain ⟨_, rfl, hq3⟩ := hq2.tok_inv
  clear hq2
  cases hq3
  have P0 := Lib.hid p
  have S0 := Lib.hid (Step.refl g h W)
  have HF := Lib.hid hf
  have HB := Lib.hid p.hB
  clear p hf hl hn K1
  go_enter Tryz.func147, Tryz.ntmps147
  go_upto_region 1 with fail
  have hbx : Below W.heap.size W (W.alloc (.cells #[.int .i64 k, .int .i64 d, .string (strOf q), .int .i64 z, .string (strOf s)] 29)) := (Below.refl _ _).alloc (Nat.le_refl _) _
  have P1 := Lib.hid (P0.out.later hbx)
  have S1 := Lib.hid (S0.out.trans (P0.out.step hbx))
  have B1 := Lib.hid (LB.box P0.out ⟨k, d, q, z, s⟩ 29)
  simp only [Nd.cells] at B1
  obtain ⟨w1, hw1⟩ : ∃ w1, w1 = W.alloc (.cells #[.int .i64 k, .int .i64 d, .string (strOf q), .int .i64 z, .string (strOf s)] 29) := ⟨_, rfl⟩
  rw [← hw1] at P1 S1 B1 ⊢
  obtain ⟨b, hb⟩ : ∃ b, b = W.heap.size := ⟨_, rfl⟩
  rw [← hb] at B1 ⊢
  obtain ⟨c0, c1, c2, c3, c4⟩ := B1.out.nb.at
  simp only at c0 c1 c2 c3 c4
  clear hbx hw1 hb P0 S0
  have X := Lib.hid (pname_any q P1.out (by have := HF.out; simp at this ⊢; omega))
  go_wp2_with fail
  refine X.out.mono ?_
  rintro e w2 ⟨rfl, hp', hs'⟩
  have P2 := Lib.hid hp'
  have S2 := Lib.hid (S1.out.trans hs')
  have B2 := Lib.hid (B1.out.step hs')
  clear c0 c1 c2 c3 c4
  obtain ⟨c0, c1, c2, c3, c4⟩ := B2.out.nb.at
  clear hp' hs' P1 S1 B1 X
  have X := Lib.hid (signs1 [46] P2.out (by have := HF.out; simp at this ⊢; omega))
  go_wp2_with fail
  refine X.out.mono ?_
  rintro e w3 ⟨rfl, hp', hs'⟩
  have P3 := Lib.hid hp'
  have S3 := Lib.hid (S2.out.trans hs')
  have B3 := Lib.hid (B2.out.step hs')
  clear c0 c1 c2 c3 c4
  obtain ⟨c0, c1, c2, c3, c4⟩ := B3.out.nb.at
  clear hp' hs' P2 S2 B2 X
  have X := Lib.hid (pname_any s P3.out (by have := HF.out; simp at this ⊢; omega))
  go_wp2_with fail
  refine X.out.mono ?_
  rintro e w4 ⟨rfl, hp', hs'⟩
  have P4 := Lib.hid hp'
  have S4 := Lib.hid (S3.out.trans hs')
  have B4 := Lib.hid (B3.out.step hs')
  clear c0 c1 c2 c3 c4
  obtain ⟨c0, c1, c2, c3, c4⟩ := B4.out.nb.at
  clear hp' hs' P3 S3 B3 X
  go_wp2
  refine bodyPost_end (results_none rfl _ _ _) rfl ?_
  exact ⟨rfl, by have := P4.out; simpa [List.append_assoc] using this, S4.out⟩

set_option maxHeartbeats 4000000 in
set_option maxRecDepth 100000 in
theorem function_prt {w0 : World} {g h B N : Nat} (hB : Prt w0 g h B 182 #[ptr g] [.nd .blk] N) (k d : Int) (q : List UInt8) (z : Int) (s : List UInt8) (hd : 1 ≤ d ∧ d ≤ 100000) (hL : Prt w0 g h B 146 #[ptr g, .int .i64 (((d.toNat - 1 : Nat)) : Int), .func (.func 181) #[ptr g] #[]] (lstX .par (d.toNat - 1)) N) : Prt w0 g h B 144 #[ptr g, .agg #[.int .i64 k, .int .i64 d, .string (strOf q), .int .i64 z, .string (strOf s)]] (fnX d.toNat) N := by
  intro W l l' ts o hl hp hn hf p
  have HBL := Lib.hid hB
  have HL := Lib.hid hL
  have HD := Lib.hid hd
  have K1 := Lib.hid (And.intro hl hn)
  obtain ⟨o1, _, l1, rfl, hp1, hq1⟩ := hp.split (lstX .par (d.toNat - 1)) _ rfl
  clear hp
  have H1 := Lib.hid hp1
  have K2 := Lib.hid (fit_len hp1 K1.out.1 K1.out.2)
  clear hp1
  obtain ⟨o2, _, l2, rfl, hp2, hq2⟩ := hq1.nd_cons
  clear hq1
  have H2 := Lib.hid hp2
  have K3 := Lib.hid (fit_len hp2 K2.out.1 K2.out.2)
  clear hp2
  cases hq2
  have P0 := Lib.hid p
  have S0 := Lib.hid (Step.refl g h W)
  have HF := Lib.hid hf
  have HB := Lib.hid p.hB
  have e9 : IntKind.i64.wrap (d - 1) = ((d.toNat - 1 : Nat) : Int) := by rw [wrap_in _ (by omega)]; omega
  clear p hf hl hn hB hL hd
  go_enter Tryz.func144, Tryz.ntmps144
  go_upto_region 1 with fail
  have hbx : Below W.heap.size W (W.alloc (.cells #[.int .i64 k, .int .i64 d, .string (strOf q), .int .i64 z, .string (strOf s)] 29)) := (Below.refl _ _).alloc (Nat.le_refl _) _
  have P1 := Lib.hid (P0.out.later hbx)
  have S1 := Lib.hid (S0.out.trans (P0.out.step hbx))
  have B1 := Lib.hid (LB.box P0.out ⟨k, d, q, z, s⟩ 29)
  simp only [Nd.cells] at B1
  obtain ⟨w1, hw1⟩ : ∃ w1, w1 = W.alloc (.cells #[.int .i64 k, .int .i64 d, .string (strOf q), .int .i64 z, .string (strOf s)] 29) := ⟨_, rfl⟩
  rw [← hw1] at P1 S1 B1 ⊢
  obtain ⟨b, hb⟩ : ∃ b, b = W.heap.size := ⟨_, rfl⟩
  rw [← hb] at B1 ⊢
  obtain ⟨c0, c1, c2, c3, c4⟩ := B1.out.nb.at
  simp only at c0 c1 c2 c3 c4
  clear hbx hw1 hb P0 S0
  have X := Lib.hid (HL.out _ _ _ ts _ K1.out.1 H1.out K1.out.2 (by have := HF.out; simp at this ⊢; omega) P1.out)
  go_wp2_with fail
  refine X.out.mono ?_
  rintro e w2 ⟨rfl, hp', hs'⟩
  have P2 := Lib.hid hp'
  have S2 := Lib.hid (S1.out.trans hs')
  have B2 := Lib.hid (B1.out.step hs')
  clear c0 c1 c2 c3 c4
  obtain ⟨c0, c1, c2, c3, c4⟩ := B2.out.nb.at
  clear hp' hs' P1 S1 B1 X
  have X := Lib.hid (HBL.out _ _ _ (ts ++ o1) _ K2.out.1 H2.out K2.out.2 (by have := HF.out; simp at this ⊢; omega) P2.out)
  go_wp2_with fail
  refine X.out.mono ?_
  rintro e w3 ⟨rfl, hp', hs'⟩
  have P3 := Lib.hid hp'
  have S3 := Lib.hid (S2.out.trans hs')
  have B3 := Lib.hid (B2.out.step hs')
  clear c0 c1 c2 c3 c4
  obtain ⟨c0, c1, c2, c3, c4⟩ := B3.out.nb.at
  clear hp' hs' P2 S2 B2 X
  go_wp2
  refine bodyPost_end (results_none rfl _ _ _) rfl ?_
  exact ⟨rfl, by have := P3.out; simpa [List.append_assoc] using this, S3.out⟩

set_option maxHeartbeats 4000000 in
set_option maxRecDepth 100000 in
theorem branches_prt3 {w0 : World} {g h B N : Nat} (hE : Prt w0 g h B 86 #[ptr g] [.nd .ex] N) (hB : Prt w0 g h B 182 #[ptr g] [.nd .blk] N) (k d : Int) (q : List UInt8) (z : Int) (s : List UInt8) (hd : d > 2) : Prt w0 g h B 233 #[ptr g, .agg #[.int .i64 k, .int .i64 d, .string (strOf q), .int .i64 z, .string (strOf s)]] [.nd .ex, .nd .blk, sg [101, 108, 115, 101], .nd .blk] N := by
  intro W l l' ts o hl hp hn hf p
  have HE := Lib.hid hE
  have HBL := Lib.hid hB
  have K1 := Lib.hid (And.intro hl hn)
  obtain ⟨o1, _, l1, rfl, hp1, hq1⟩ := hp.nd_cons
  clear hp
  have H1 := Lib.hid hp1
  have K2 := Lib.hid (fit_len hp1 K1.out.1 K1.out.2)
  clear hp1
  obtain ⟨o2, _, l2, rfl, hp2, hq2⟩ := hq1.nd_cons
  clear hq1
  have H2 := Lib.hid hp2
  have K3 := Lib.hid (fit_len hp2 K2.out.1 K2.out.2)
  clear hp2
  obtain ⟨_, rfl, hq3⟩ := hq2.tok_inv
  clear hq2
  obtain ⟨o3, _, l3, rfl, hp3, hq4⟩ := hq3.nd_cons
  clear hq3
  have H3 := Lib.hid hp3
  have K4 := Lib.hid (fit_len hp3 K3.out.1 K3.out.2)
  clear hp3
  cases hq4
  have P0 := Lib.hid p
  have S0 := Lib.hid (Step.refl g h W)
  have HF := Lib.hid hf
  have HB := Lib.hid p.hB
  clear p hf hl hn hB hE
  go_enter Tryz.func233, Tryz.ntmps233
  go_upto_region 1 with fail
  have hbx : Below W.heap.size W (W.alloc (.cells #[.int .i64 k, .int .i64 d, .string (strOf q), .int .i64 z, .string (strOf s)] 29)) := (Below.refl _ _).alloc (Nat.le_refl _) _
  have P1 := Lib.hid (P0.out.later hbx)
  have S1 := Lib.hid (S0.out.trans (P0.out.step hbx))
  have B1 := Lib.hid (LB.box P0.out ⟨k, d, q, z, s⟩ 29)
  simp only [Nd.cells] at B1
  obtain ⟨w1, hw1⟩ : ∃ w1, w1 = W.alloc (.cells #[.int .i64 k, .int .i64 d, .string (strOf q), .int .i64 z, .string (strOf s)] 29) := ⟨_, rfl⟩
  rw [← hw1] at P1 S1 B1 ⊢
  obtain ⟨b, hb⟩ : ∃ b, b = W.heap.size := ⟨_, rfl⟩
  rw [← hb] at B1 ⊢
  obtain ⟨c0, c1, c2, c3, c4⟩ := B1.out.nb.at
  simp only at c0 c1 c2 c3 c4
  clear hbx hw1 hb P0 S0
  have X := Lib.hid (HE.out _ _ _ ts _ K1.out.1 H1.out K1.out.2 (by have := HF.out; simp at this ⊢; omega) P1.out)
  go_wp2_with fail
  refine X.out.mono ?_
  rintro e w2 ⟨rfl, hp', hs'⟩
  have P2 := Lib.hid hp'
  have S2 := Lib.hid (S1.out.trans hs')
  have B2 := Lib.hid (B1.out.step hs')
  clear c0 c1 c2 c3 c4
  obtain ⟨c0, c1, c2, c3, c4⟩ := B2.out.nb.at
  clear hp' hs' P1 S1 B1 X
  have X := Lib.hid (HBL.out _ _ _ (ts ++ o1) _ K2.out.1 H2.out K2.out.2 (by have := HF.out; simp at this ⊢; omega) P2.out)
  go_wp2_with fail
  refine X.out.mono ?_
  rintro e w3 ⟨rfl, hp', hs'⟩
  have P3 := Lib.hid hp'
  have S3 := Lib.hid (S2.out.trans hs')
  have B3 := Lib.hid (B2.out.step hs')
  clear c0 c1 c2 c3 c4
  obtain ⟨c0, c1, c2, c3, c4⟩ := B3.out.nb.at
  clear hp' hs' P2 S2 B2 X
  have X := Lib.hid (signs1 [101, 108, 115, 101] P3.out (by have := HF.out; simp at this ⊢; omega))
  go_wp2_with fail
  refine X.out.mono ?_
  rintro e w4 ⟨rfl, hp', hs'⟩
  have P4 := Lib.hid hp'
  have S4 := Lib.hid (S3.out.trans hs')
  have B4 := Lib.hid (B3.out.step hs')
  clear c0 c1 c2 c3 c4
  obtain ⟨c0, c1, c2, c3, c4⟩ := B4.out.nb.at
  clear hp' hs' P3 S3 B3 X
  have X := Lib.hid (HBL.out _ _ _ (((ts ++ o1) ++ o2) ++ [sgn [101, 108, 115, 101]]) _ K3.out.1 H3.out K3.out.2 (by have := HF.out; simp at this ⊢; omega) P4.out)
  go_wp2_with fail
  refine X.out.mono ?_
  rintro e w5 ⟨rfl, hp', hs'⟩
  have P5 := Lib.hid hp'
  have S5 := Lib.hid (S4.out.trans hs')
  have B5 := Lib.hid (B4.out.step hs')
  clear c0 c1 c2 c3 c4
  obtain ⟨c0, c1, c2, c3, c4⟩ := B5.out.nb.at
  clear hp' hs' P4 S4 B4 X
  go_wp2
  refine bodyPost_end (results_none rfl _ _ _) rfl ?_
  exact ⟨rfl, by have := P5.out; simpa [List.append_assoc] using this, S5.out⟩

set_option maxHeartbeats 4000000 in
set_option maxRecDepth 100000 in
theorem branches_prt2 {w0 : World} {g h B N : Nat} (hE : Prt w0 g h B 86 #[ptr g] [.nd .ex] N) (hB : Prt w0 g h B 182 #[ptr g] [.nd .blk] N) (k d : Int) (q : List UInt8) (z : Int) (s : List UInt8) (hd : ¬d > 2) : Prt w0 g h B 233 #[ptr g, .agg #[.int .i64 k, .int .i64 d, .string (strOf q), .int .i64 z, .string (strOf s)]] [.nd .ex, .nd .blk] N := by
  intro W l l' ts o hl hp hn hf p
  have HE := Lib.hid hE
  have HBL := Lib.hid hB
  have K1 := Lib.hid (And.intro hl hn)
  obtain ⟨o1, _, l1, rfl, hp1, hq1⟩ := hp.nd_cons
  clear hp
  have H1 := Lib.hid hp1
  have K2 := Lib.hid (fit_len hp1 K1.out.1 K1.out.2)
  clear hp1
  obtain ⟨o2, _, l2, rfl, hp2, hq2⟩ := hq1.nd_cons
  clear hq1
  have H2 := Lib.hid hp2
  have K3 := Lib.hid (fit_len hp2 K2.out.1 K2.out.2)
  clear hp2
  cases hq2
  have P0 := Lib.hid p
  have S0 := Lib.hid (Step.refl g h W)
  have HF := Lib.hid hf
  have HB := Lib.hid p.hB
  clear p hf hl hn hB hE
  go_enter Tryz.func233, Tryz.ntmps233
  go_upto_region 1 with fail
  have hbx : Below W.heap.size W (W.alloc (.cells #[.int .i64 k, .int .i64 d, .string (strOf q), .int .i64 z, .string (strOf s)] 29)) := (Below.refl _ _).alloc (Nat.le_refl _) _
  have P1 := Lib.hid (P0.out.later hbx)
  have S1 := Lib.hid (S0.out.trans (P0.out.step hbx))
  have B1 := Lib.hid (LB.box P0.out ⟨k, d, q, z, s⟩ 29)
  simp only [Nd.cells] at B1
  obtain ⟨w1, hw1⟩ : ∃ w1, w1 = W.alloc (.cells #[.int .i64 k, .int .i64 d, .string (strOf q), .int .i64 z, .string (strOf s)] 29) := ⟨_, rfl⟩
  rw [← hw1] at P1 S1 B1 ⊢
  obtain ⟨b, hb⟩ : ∃ b, b = W.heap.size := ⟨_, rfl⟩
  rw [← hb] at B1 ⊢
  obtain ⟨c0, c1, c2, c3, c4⟩ := B1.out.nb.at
  simp only at c0 c1 c2 c3 c4
  clear hbx hw1 hb P0 S0
  have X := Lib.hid (HE.out _ _ _ ts _ K1.out.1 H1.out K1.out.2 (by have := HF.out; simp at this ⊢; omega) P1.out)
  go_wp2_with fail
  refine X.out.mono ?_
  rintro e w2 ⟨rfl, hp', hs'⟩
  have P2 := Lib.hid hp'
  have S2 := Lib.hid (S1.out.trans hs')
  have B2 := Lib.hid (B1.out.step hs')
  clear c0 c1 c2 c3 c4
  obtain ⟨c0, c1, c2, c3, c4⟩ := B2.out.nb.at
  clear hp' hs' P1 S1 B1 X
  have X := Lib.hid (HBL.out _ _ _ (ts ++ o1) _ K2.out.1 H2.out K2.out.2 (by have := HF.out; simp at this ⊢; omega) P2.out)
  go_wp2_with fail
  refine X.out.mono ?_
  rintro e w3 ⟨rfl, hp', hs'⟩
  have P3 := Lib.hid hp'
  have S3 := Lib.hid (S2.out.trans hs')
  have B3 := Lib.hid (B2.out.step hs')
  clear c0 c1 c2 c3 c4
  obtain ⟨c0, c1, c2, c3, c4⟩ := B3.out.nb.at
  clear hp' hs' P2 S2 B2 X
  go_wp2
  refine bodyPost_end (results_none rfl _ _ _) rfl ?_
  exact ⟨rfl, by have := P3.out; simpa [List.append_assoc] using this, S3.out⟩

end Go.Proofs.YtemlceicmpcboaaGreatDoor.Sw
namespace Go.Proofs.YtemlceicmpcboaaGreatDoor.Sw
open Go.RowKit Dk Lx Tr Pa

/-- What is still to be written of a list. -/
def remX (c : Cat) (n i : Nat) : List PSy := if i = 0 then (match n with
  | 0 => [sg [41]]
  | m + 1 => .nd c :: (sepX c m ++ [sg [41]])) else sepX c (n - i) ++ [sg [41]]

set_option maxHeartbeats 4000000 in
set_option maxRecDepth 100000 in
theorem list_prt {w0 : World} {g h B N : Nat} (Fe : FuncId) (hF : Pa.Enters Fe) (c : Cat) (n : Nat) (hn6 : n ≤ 1000000) (hE : Prt w0 g h B Fe #[ptr g] [.nd c] N) : Prt w0 g h B 146 #[ptr g, .int .i64 (n : Int), .func (.func Fe) #[ptr g] #[]] (lstX c n) N := by
  intro W l l' ts o hl hp hn hf p
  have HE := Lib.hid hE
  have hcall := hF #[ptr g]
  have hp0 : ∃ o', o = sgn [40] :: o' ∧ Prn (remX c n 0) l o' l' := by
    cases n with
    | zero =>
      obtain ⟨o', rfl, h1⟩ := hp.tok_inv
      exact ⟨o', rfl, h1⟩
    | succ n =>
      obtain ⟨o', rfl, h1⟩ := hp.tok_inv
      exact ⟨o', rfl, h1⟩
  obtain ⟨o', rfl, hp1⟩ := hp0
  have HP1 := Lib.hid hp1
  have HF := Lib.hid hf
  have HLN := Lib.hid (And.intro hl hn)
  have P0 := Lib.hid p
  clear hp hp1 hf hl hn p hE hF
  go_enter Tryz.func146, Tryz.ntmps146
  have X := Lib.hid (signs1 [40] P0.out (by have := HF.out; simp at this ⊢; omega))
  go_wp2_with fail
  refine X.out.mono ?_
  rintro e w1 ⟨rfl, hp', hs'⟩
  have P1 := Lib.hid hp'
  have S1 := Lib.hid hs'
  clear hp' hs' X P0
  go_wp2
  go_loopw [11] (fun vi wr => ∃ (i : Nat) (li : List Nd) (ti oi : List Tk), i ≤ n ∧ vi = .int .i64 (i : Int) ∧ Hid (PW w0 g h B wr li ti) ∧ Hid (Step g h W wr) ∧ Hid (Prn (remX c n i) li oi l') ∧ Hid (ts ++ sgn [40] :: o' = ti ++ oi) ∧ Hid (li.length < N ∧ FitN li)) (fun vi _ => n - (intOf vi).toNat)
  case atStart => exact ⟨0, l, _, o', Nat.zero_le _, rfl, P1, S1, HP1, Lib.hid (by simp), HLN⟩
  case round =>
    clear P1 S1 HP1 HLN
    obtain ⟨i, li, ti, oi, hi, rfl, P2, S2, HP2, HEQ, HLN⟩ := hrel
    have HBD : Hid (ti.length + oi.length ≤ 99999990) := Lib.hid (by have h1 := HF.out; have h2 := congrArg List.length HEQ.out; simp only [List.length_append, List.length_cons] at h1 h2; omega)
    by_cases hlt : i < n
    · have z1 : (i : Int) < (n : Int) := by omega
      by_cases h0 : i = 0
      · have z2 : ¬(i : Int) > 0 := by omega
        have e1 : remX c n i = .nd c :: (sepX c (n - (i + 1)) ++ [sg [41]]) := by
          unfold remX
          rw [if_pos h0]
          obtain ⟨m, rfl⟩ : ∃ m, n = m + 1 := ⟨n - 1, by omega⟩
          rw [h0]; rfl
        have hq := HP2.out
        rw [e1] at hq
        obtain ⟨o1, o2, l1, he, hp1, hp2⟩ := hq.nd_cons
        have HO := Lib.hid he
        have X := Lib.hid (HE.out _ _ _ ti _ HLN.out.1 hp1 HLN.out.2 (by have := HBD.out; rw [he, List.length_append] at this; omega) P2.out)
        have HP3 : Hid (Prn (remX c n (i + 1)) l1 o2 l') := Lib.hid (by unfold remX; rw [if_neg (by omega)]; exact hp2)
        have HL3 := Lib.hid (fit_len hp1 HLN.out.1 HLN.out.2)
        clear he hp1 hp2 hq e1 h0
        go_wp2_with fail
        refine X.out.mono ?_
        rintro e w3 ⟨rfl, hp', hs'⟩
        have P3 := Lib.hid hp'
        have S3 := Lib.hid (S2.out.trans hs')
        clear hp' hs' X
        go_wp2
        go_roundw
        case rel => exact ⟨i + 1, l1, _, o2, by omega, by go_num, P3, S3, HP3, Lib.hid (by rw [HEQ.out, HO.out, List.append_assoc]), HL3⟩
        case measure => simp [intOf]; omega
      · have z2 : (i : Int) > 0 := by omega
        have e1 : remX c n i = sg [44] :: .nd c :: (sepX c (n - (i + 1)) ++ [sg [41]]) := by
          unfold remX
          rw [if_neg h0, show n - i = (n - (i + 1)) + 1 by omega]; rfl
        have hq := HP2.out
        rw [e1] at hq
        obtain ⟨o0, he0, hq⟩ := hq.tok_inv
        obtain ⟨o1, o2, l1, he, hp1, hp2⟩ := hq.nd_cons
        have HO : Hid (oi = sgn [44] :: (o1 ++ o2)) := Lib.hid (by rw [he0, he])
        have hb := HBD.out
        rw [HO.out, List.length_cons, List.length_append] at hb
        have HB5 := Lib.hid hb
        have X := Lib.hid (signs1 [44] P2.out (by omega))
        have HP3 : Hid (Prn (remX c n (i + 1)) l1 o2 l') := Lib.hid (by unfold remX; rw [if_neg (by omega)]; exact hp2)
        have HL3 := Lib.hid (fit_len hp1 HLN.out.1 HLN.out.2)
        have HP1 := Lib.hid hp1
        clear he hp1 hp2 he0 hq hb e1 h0
        go_wp2_with fail
        refine X.out.mono ?_
        rintro e w3 ⟨rfl, hp', hs'⟩
        have P3 := Lib.hid hp'
        have S3 := Lib.hid (S2.out.trans hs')
        clear hp' hs' X
        have X := Lib.hid (HE.out _ _ _ (ti ++ [sgn [44]]) _ HLN.out.1 HP1.out HLN.out.2 (by have := HB5.out; rw [List.length_append, List.length_singleton]; omega) P3.out)
        go_wp2_with fail
        refine X.out.mono ?_
        rintro e w4 ⟨rfl, hp', hs'⟩
        have P4 := Lib.hid hp'
        have S4 := Lib.hid (S3.out.trans hs')
        clear hp' hs' X
        go_wp2
        go_roundw
        case rel => exact ⟨i + 1, l1, _, o2, by omega, by go_num, P4, S4, HP3, Lib.hid (by rw [HEQ.out, HO.out]; simp), HL3⟩
        case measure => simp [intOf]; omega
    · obtain rfl : i = n := by omega
      have e1 : remX c i i = [sg [41]] := by
        unfold remX
        by_cases h0 : i = 0
        · subst h0; rfl
        · rw [if_neg h0, Nat.sub_self]; rfl
      have hq := HP2.out
      rw [e1] at hq
      obtain ⟨o0, he0, hq⟩ := hq.tok_inv
      cases hq
      have HO := Lib.hid he0
      have X := Lib.hid (signs1 [41] P2.out (by have := HBD.out; rw [he0] at this; simp at this ⊢; omega))
      clear he0 e1 hlt hi
      go_wp2_with fail
      refine X.out.mono ?_
      rintro e w3 ⟨rfl, hp', hs'⟩
      have P3 := Lib.hid hp'
      have S3 := Lib.hid (S2.out.trans hs')
      clear hp' hs' X
      go_wp2
      refine bodyPost_end (results_none rfl _ _ _) rfl ?_
      exact ⟨rfl, by rw [HEQ.out, HO.out]; exact P3.out, S3.out⟩

set_option maxRecDepth 100000 in
theorem keyword_6 (w : World) : Calls Tryz.prog 232 #[.int .i64 6] w fun e w' => e = .returned (.string ⟨#[108, 101, 116]⟩) ∧ w = w' := by
  go_enter Tryz.func232, Tryz.ntmps232
  go_wp2
  go_ret
  exact ⟨rfl, rfl⟩
set_option maxRecDepth 100000 in
theorem keyword_7 (w : World) : Calls Tryz.prog 232 #[.int .i64 7] w fun e w' => e = .returned (.string ⟨#[]⟩) ∧ w = w' := by
  go_enter Tryz.func232, Tryz.ntmps232
  go_wp2
  go_ret
  exact ⟨rfl, rfl⟩
set_option maxRecDepth 100000 in
theorem keyword_8 (w : World) : Calls Tryz.prog 232 #[.int .i64 8] w fun e w' => e = .returned (.string ⟨#[]⟩) ∧ w = w' := by
  go_enter Tryz.func232, Tryz.ntmps232
  go_wp2
  go_ret
  exact ⟨rfl, rfl⟩
set_option maxRecDepth 100000 in
theorem keyword_9 (w : World) : Calls Tryz.prog 232 #[.int .i64 9] w fun e w' => e = .returned (.string ⟨#[105, 102]⟩) ∧ w = w' := by
  go_enter Tryz.func232, Tryz.ntmps232
  go_wp2
  go_ret
  exact ⟨rfl, rfl⟩
set_option maxRecDepth 100000 in
theorem keyword_10 (w : World) : Calls Tryz.prog 232 #[.int .i64 10] w fun e w' => e = .returned (.string ⟨#[119, 104, 105, 108, 101]⟩) ∧ w = w' := by
  go_enter Tryz.func232, Tryz.ntmps232
  go_wp2
  go_ret
  exact ⟨rfl, rfl⟩
set_option maxRecDepth 100000 in
theorem keyword_11 (w : World) : Calls Tryz.prog 232 #[.int .i64 11] w fun e w' => e = .returned (.string ⟨#[98, 114, 101, 97, 107]⟩) ∧ w = w' := by
  go_enter Tryz.func232, Tryz.ntmps232
  go_wp2
  go_ret
  exact ⟨rfl, rfl⟩
set_option maxRecDepth 100000 in
theorem keyword_12 (w : World) : Calls Tryz.prog 232 #[.int .i64 12] w fun e w' => e = .returned (.string ⟨#[99, 111, 110, 116, 105, 110, 117, 101]⟩) ∧ w = w' := by
  go_enter Tryz.func232, Tryz.ntmps232
  go_wp2
  go_ret
  exact ⟨rfl, rfl⟩
set_option maxRecDepth 100000 in
theorem keyword_13 (w : World) : Calls Tryz.prog 232 #[.int .i64 13] w fun e w' => e = .returned (.string ⟨#[114, 101, 116, 117, 114, 110]⟩) ∧ w = w' := by
  go_enter Tryz.func232, Tryz.ntmps232
  go_wp2
  go_ret
  exact ⟨rfl, rfl⟩
set_option maxRecDepth 100000 in
theorem keyword_14 (w : World) : Calls Tryz.prog 232 #[.int .i64 14] w fun e w' => e = .returned (.string ⟨#[112, 117, 116]⟩) ∧ w = w' := by
  go_enter Tryz.func232, Tryz.ntmps232
  go_wp2
  go_ret
  exact ⟨rfl, rfl⟩
set_option maxRecDepth 100000 in
theorem keyword_15 (w : World) : Calls Tryz.prog 232 #[.int .i64 15] w fun e w' => e = .returned (.string ⟨#[101, 109, 105, 116]⟩) ∧ w = w' := by
  go_enter Tryz.func232, Tryz.ntmps232
  go_wp2
  go_ret
  exact ⟨rfl, rfl⟩
set_option maxRecDepth 100000 in
theorem keyword_16 (w : World) : Calls Tryz.prog 232 #[.int .i64 16] w fun e w' => e = .returned (.string ⟨#[121, 105, 101, 108, 100]⟩) ∧ w = w' := by
  go_enter Tryz.func232, Tryz.ntmps232
  go_wp2
  go_ret
  exact ⟨rfl, rfl⟩
set_option maxRecDepth 100000 in
theorem keyword_17 (w : World) : Calls Tryz.prog 232 #[.int .i64 17] w fun e w' => e = .returned (.string ⟨#[]⟩) ∧ w = w' := by
  go_enter Tryz.func232, Tryz.ntmps232
  go_wp2
  go_ret
  exact ⟨rfl, rfl⟩

set_option maxHeartbeats 4000000 in
set_option maxRecDepth 100000 in
theorem block_prt {w0 : World} {g h B N : Nat} (hS : Prt w0 g h B 207 #[ptr g] [.nd .st] N) (hN : N ≤ 1000000) : Prt w0 g h B 182 #[ptr g] [.nd .blk] (N + 1) := by
  intro W l l' ts o hl0 hp hn0 hf p
  have HST := Lib.hid hS
  obtain ⟨x, r, rfl, hc, hkx, hfx, hq0⟩ := hp.nd_inv
  clear hp
  have hl : r.length < N := by rw [List.length_cons] at hl0; omega
  have hn : FitN r := fun y hy => hn0 y (List.mem_cons_of_mem _ hy)
  obtain ⟨k, d, q, z, s⟩ := x
  obtain rfl : k = 5 := eq_of_beq (show (k == 5) = true from hc)
  change Prn (sg [123] :: (List.replicate d.toNat (.nd .st) ++ [sg [125]])) r o l' at hq0
  have hless := hq0.less
  change d = (((cats (List.replicate d.toNat (.nd .st) ++ [sg [125]])).length : Nat) : Int) at hkx
  rw [cats_app, cats_rep, List.length_append, List.length_replicate] at hkx
  have hless2 : d.toNat ≤ r.length := by
    have e : (cats (sg [123] :: (List.replicate d.toNat (.nd .st) ++ [sg [125]]))).length = (cats (List.replicate d.toNat (.nd .st) ++ [sg [125]])).length := rfl
    rw [e, cats_app, cats_rep, List.length_append, List.length_replicate] at hless
    omega
  obtain ⟨o', rfl, hq1⟩ := hq0.tok_inv
  obtain ⟨n, rfl⟩ : ∃ n : Nat, d = (n : Int) := ⟨d.toNat, by have : (cats [sg [125]]).length = 0 := rfl; omega⟩
  rw [Int.toNat_natCast] at hq1 hless2
  have hn6 : n ≤ 1000000 := by omega
  have HQ := Lib.hid hq1
  have HLN := Lib.hid (And.intro hl hn)
  clear hless hkx hq0 hq1 hc hfx hless2
  have P0 := Lib.hid p
  have S0 := Lib.hid (Step.refl g h W)
  have HF := Lib.hid hf
  have HB := Lib.hid p.hB
  clear p hf hl hn hl0 hn0 hS
  have HI : Hid ((Tryz.prog.info? 29).map (·.size) = some [Value.int .i64 5, .int .i64 (n : Int), .string (strOf q), .int .i64 z, .string (strOf s)].length) := Lib.hid (n_info ⟨5, (n : Int), q, z, s⟩)
  have HIA : Hid ((Tryz.prog.info? 29).map (·.size) = some (Nd.cells ⟨5, (n : Int), q, z, s⟩).toArray.size) := Lib.hid (n_infoA _)
  have HLA : Hid ((Nd.cells ⟨5, (n : Int), q, z, s⟩).toArray.all (·.oneCell') = true) := Lib.hid (n_all _)
  go_enter Tryz.func182, Tryz.ntmps182
  have X := Lib.hid (next_any P0.out)
  go_wp2_with fail
  refine X.out.mono ?_
  rintro e w1 ⟨rfl, hp', hs'⟩
  have P1 := Lib.hid hp'
  have S1 := Lib.hid (S0.out.trans hs')
  clear hp' hs' P0 S0 X
  simp only [Nd.cells]
  have HZN := Lib.hid (nb_zero w1)
  have HPN := Lib.hid (nb_put w1 ⟨5, (n : Int), q, z, s⟩)
  have BN := Lib.hid (LB.start P1.out ⟨5, (n : Int), q, z, s⟩)
  go_upto_region 1 with (first
    | (refine wpList_store_mid rfl 29 (.tmp 2) (.tmp 4) rfl w1.heap.size 0 (Nd.cells ⟨5, (n : Int), q, z, s⟩).toArray rfl rfl HZN.out.room HIA.out HLA.out ?_; generalize World.setCells _ _ _ _ = w2 at HPN BN ⊢)
    | fail)
  have P2 := Lib.hid (P1.out.later HPN.out.2)
  have S2 := Lib.hid (S1.out.trans (P1.out.step HPN.out.2))
  obtain ⟨b, hb⟩ : ∃ b, b = w1.heap.size := ⟨_, rfl⟩
  rw [← hb] at BN ⊢
  have B2 := Lib.hid BN.out
  obtain ⟨c0, c1, c2, c3, c4⟩ := B2.out.nb.at
  clear HZN HPN BN hb P1 S1
  simp only at c0 c1 c2 c3 c4
  have X := Lib.hid (signs1 [123] P2.out (by have := HF.out; simp at this ⊢; omega))
  go_wp2_with fail
  refine X.out.mono ?_
  rintro e w3 ⟨rfl, hp', hs'⟩
  have P3 := Lib.hid hp'
  have S3 := Lib.hid (S2.out.trans hs')
  have B3 := Lib.hid (B2.out.step hs')
  clear c0 c1 c2 c3 c4
  obtain ⟨c0, c1, c2, c3, c4⟩ := B3.out.nb.at
  clear hp' hs' P2 S2 B2 X
  simp only at c0 c1 c2 c3 c4
  go_wp2
  go_loopw [10] (fun vi wr => ∃ (i : Nat) (li : List Nd) (ti oi : List Tk), i ≤ n ∧ vi = .int .i64 (i : Int) ∧ Hid (PW w0 g h B wr li ti) ∧ Hid (Step g h W wr) ∧ Hid (Prn (List.replicate (n - i) (.nd .st) ++ [sg [125]]) li oi l') ∧ Hid (ts ++ sgn [123] :: o' = ti ++ oi) ∧ Hid (li.length < N ∧ FitN li)) (fun vi _ => n - (intOf vi).toNat)
  case atStart => exact ⟨0, r, _, o', Nat.zero_le _, rfl, P3, S3, HQ, Lib.hid (by simp), HLN⟩
  case round =>
    clear P3 S3 HQ HLN B3 c0 c1 c2 c3 c4
    obtain ⟨i, li, ti, oi, hi, rfl, P2, S2, HP2, HEQ, HLN⟩ := hrel
    have HBD : Hid (ti.length + oi.length ≤ 99999990) := Lib.hid (by have h1 := HF.out; have h2 := congrArg List.length HEQ.out; simp only [List.length_append, List.length_cons] at h1 h2; omega)
    by_cases hlt : i < n
    · have z1 : (i : Int) < (n : Int) := by omega
      have hq := HP2.out
      rw [show n - i = (n - (i + 1)) + 1 by omega, List.replicate_succ, List.cons_append] at hq
      obtain ⟨o1, o2, l1, he, hp1, hp2⟩ := hq.nd_cons
      have HO := Lib.hid he
      have X := Lib.hid (HST.out _ _ _ ti _ HLN.out.1 hp1 HLN.out.2 (by have := HBD.out; rw [he, List.length_append] at this; omega) P2.out)
      have HP3 := Lib.hid hp2
      have HL3 := Lib.hid (fit_len hp1 HLN.out.1 HLN.out.2)
      clear he hp1 hp2 hq
      go_wp2_with fail
      refine X.out.mono ?_
      rintro e w3 ⟨rfl, hp', hs'⟩
      have P3 := Lib.hid hp'
      have S3 := Lib.hid (S2.out.trans hs')
      clear hp' hs' X
      go_wp2
      go_roundw
      case rel => exact ⟨i + 1, l1, _, o2, by omega, by go_num, P3, S3, HP3, Lib.hid (by rw [HEQ.out, HO.out, List.append_assoc]), HL3⟩
      case measure => simp [intOf]; omega
    · obtain rfl : i = n := by omega
      have hq := HP2.out
      rw [Nat.sub_self] at hq
      obtain ⟨o0, he0, hq⟩ := Prn.tok_inv (A := []) hq
      cases hq
      have HO := Lib.hid he0
      have X := Lib.hid (signs1 [125] P2.out (by have := HBD.out; rw [he0] at this; simp at this ⊢; omega))
      clear he0 hlt hi
      go_wp2_with fail
      refine X.out.mono ?_
      rintro e w3 ⟨rfl, hp', hs'⟩
      have P3 := Lib.hid hp'
      have S3 := Lib.hid (S2.out.trans hs')
      clear hp' hs' X
      go_wp2
      refine bodyPost_end (results_none rfl _ _ _) rfl ?_
      exact ⟨rfl, by rw [HEQ.out, HO.out]; exact P3.out, S3.out⟩

set_option maxHeartbeats 4000000 in
set_option maxRecDepth 100000 in
theorem stmt_6 {w0 : World} {g h B N : Nat} (hE : Prt w0 g h B 86 #[ptr g] [.nd .ex] N) (q : List UInt8) (z : Int) (s : List UInt8) {W : World} {r l' : List Nd} {ts o : List Tk} (hl : r.length < N) (hp : Prn [sg [108, 101, 116], nm q, sg [61], .nd .ex, sg [59]] r o l') (hn : FitN r) (hf : ts.length + o.length ≤ 99999990) (p : PW w0 g h B W (⟨6, 1, q, z, s⟩ :: r) ts) : Calls Tryz.prog 207 #[ptr g] W fun e W' => PrOk w0 g h B W l' (ts ++ o) e W' := by
  have HE := Lib.hid hE
  have K1 := Lib.hid (And.intro hl hn)
  obtain ⟨_, rfl, hq1⟩ := hp.tok_inv
  clear hp
  obtain ⟨_, rfl, hq2⟩ := hq1.tok_inv
  clear hq1
  obtain ⟨_, rfl, hq3⟩ := hq2.tok_inv
  clear hq2
  obtain ⟨o1, _, l1, rfl, hp1, hq4⟩ := hq3.nd_cons
  clear hq3
  have H1 := Lib.hid hp1
  have K2 := Lib.hid (fit_len hp1 K1.out.1 K1.out.2)
  clear hp1
  obtain ⟨_, rfl, hq5⟩ := hq4.tok_inv
  clear hq4
  cases hq5
  have P0 := Lib.hid p
  have S0 := Lib.hid (Step.refl g h W)
  have HF := Lib.hid hf
  have HB := Lib.hid p.hB
  clear p hf hl hn hE
  have HI : Hid ((Tryz.prog.info? 29).map (·.size) = some [Value.int .i64 6, .int .i64 1, .string (strOf q), .int .i64 z, .string (strOf s)].length) := Lib.hid (n_info ⟨6, 1, q, z, s⟩)
  have HIA : Hid ((Tryz.prog.info? 29).map (·.size) = some (Nd.cells ⟨6, 1, q, z, s⟩).toArray.size) := Lib.hid (n_infoA _)
  have HLA : Hid ((Nd.cells ⟨6, 1, q, z, s⟩).toArray.all (·.oneCell') = true) := Lib.hid (n_all _)
  go_enter Tryz.func207, Tryz.ntmps207
  have X := Lib.hid (next_any P0.out)
  go_wp2_with fail
  refine X.out.mono ?_
  rintro e w1 ⟨rfl, hp', hs'⟩
  have P1 := Lib.hid hp'
  have S1 := Lib.hid (S0.out.trans hs')
  clear hp' hs' P0 S0 X
  simp only [Nd.cells]
  have HZN := Lib.hid (nb_zero w1)
  have HPN := Lib.hid (nb_put w1 ⟨6, 1, q, z, s⟩)
  have BN := Lib.hid (LB.start P1.out ⟨6, 1, q, z, s⟩)
  go_upto_region 1 with (first
    | (refine wpList_store_mid rfl 29 (.tmp 2) (.tmp 5) rfl w1.heap.size 0 (Nd.cells ⟨6, 1, q, z, s⟩).toArray rfl rfl HZN.out.room HIA.out HLA.out ?_; generalize World.setCells _ _ _ _ = w2 at HPN BN ⊢)
    | fail)
  have P2 := Lib.hid (P1.out.later HPN.out.2)
  have S2 := Lib.hid (S1.out.trans (P1.out.step HPN.out.2))
  obtain ⟨b, hb⟩ : ∃ b, b = w1.heap.size := ⟨_, rfl⟩
  rw [← hb] at BN ⊢
  have B2 := Lib.hid BN.out
  obtain ⟨c0, c1, c2, c3, c4⟩ := B2.out.nb.at
  clear HZN HPN BN hb P1 S1
  simp only at c0 c1 c2 c3 c4
  have X := Lib.hid (keyword_6 w2)
  go_wp2_with fail
  refine X.out.mono ?_
  rintro e w9 ⟨rfl, rfl⟩
  clear X
  have X := Lib.hid (signs1 [108, 101, 116] P2.out (by have := HF.out; simp at this ⊢; omega))
  go_wp2_with fail
  refine X.out.mono ?_
  rintro e w3 ⟨rfl, hp', hs'⟩
  have P3 := Lib.hid hp'
  have S3 := Lib.hid (S2.out.trans hs')
  have B3 := Lib.hid (B2.out.step hs')
  clear c0 c1 c2 c3 c4
  obtain ⟨c0, c1, c2, c3, c4⟩ := B3.out.nb.at
  clear hp' hs' P2 S2 B2 X
  simp only at c0 c1 c2 c3 c4
  have X := Lib.hid (pname_any q P3.out (by have := HF.out; simp at this ⊢; omega))
  go_wp2_with fail
  refine X.out.mono ?_
  rintro e w4 ⟨rfl, hp', hs'⟩
  have P4 := Lib.hid hp'
  have S4 := Lib.hid (S3.out.trans hs')
  have B4 := Lib.hid (B3.out.step hs')
  clear c0 c1 c2 c3 c4
  obtain ⟨c0, c1, c2, c3, c4⟩ := B4.out.nb.at
  clear hp' hs' P3 S3 B3 X
  simp only at c0 c1 c2 c3 c4
  have X := Lib.hid (signs1 [61] P4.out (by have := HF.out; simp at this ⊢; omega))
  go_wp2_with fail
  refine X.out.mono ?_
  rintro e w5 ⟨rfl, hp', hs'⟩
  have P5 := Lib.hid hp'
  have S5 := Lib.hid (S4.out.trans hs')
  have B5 := Lib.hid (B4.out.step hs')
  clear c0 c1 c2 c3 c4
  obtain ⟨c0, c1, c2, c3, c4⟩ := B5.out.nb.at
  clear hp' hs' P4 S4 B4 X
  simp only at c0 c1 c2 c3 c4
  have X := Lib.hid (HE.out _ _ _ (((ts ++ [sgn [108, 101, 116]]) ++ [nmT q]) ++ [sgn [61]]) _ K1.out.1 H1.out K1.out.2 (by have := HF.out; simp at this ⊢; omega) P5.out)
  go_wp2_with fail
  refine X.out.mono ?_
  rintro e w6 ⟨rfl, hp', hs'⟩
  have P6 := Lib.hid hp'
  have S6 := Lib.hid (S5.out.trans hs')
  have B6 := Lib.hid (B5.out.step hs')
  clear c0 c1 c2 c3 c4
  obtain ⟨c0, c1, c2, c3, c4⟩ := B6.out.nb.at
  clear hp' hs' P5 S5 B5 X
  simp only at c0 c1 c2 c3 c4
  have X := Lib.hid (signs1 [59] P6.out (by have := HF.out; simp at this ⊢; omega))
  go_wp2_with fail
  refine X.out.mono ?_
  rintro e w7 ⟨rfl, hp', hs'⟩
  have P7 := Lib.hid hp'
  have S7 := Lib.hid (S6.out.trans hs')
  have B7 := Lib.hid (B6.out.step hs')
  clear c0 c1 c2 c3 c4
  obtain ⟨c0, c1, c2, c3, c4⟩ := B7.out.nb.at
  clear hp' hs' P6 S6 B6 X
  simp only at c0 c1 c2 c3 c4
  go_wp2
  refine bodyPost_end (results_none rfl _ _ _) rfl ?_
  exact ⟨rfl, by have := P7.out; simpa [List.append_assoc] using this, S7.out⟩

set_option maxHeartbeats 4000000 in
set_option maxRecDepth 100000 in
theorem stmt_7 {w0 : World} {g h B N : Nat} (hE : Prt w0 g h B 86 #[ptr g] [.nd .ex] N) (q : List UInt8) (z : Int) (s : List UInt8) {W : World} {r l' : List Nd} {ts o : List Tk} (hl : r.length < N) (hp : Prn [nm q, sg [61], .nd .ex, sg [59]] r o l') (hn : FitN r) (hf : ts.length + o.length ≤ 99999990) (p : PW w0 g h B W (⟨7, 1, q, z, s⟩ :: r) ts) : Calls Tryz.prog 207 #[ptr g] W fun e W' => PrOk w0 g h B W l' (ts ++ o) e W' := by
  have HE := Lib.hid hE
  have K1 := Lib.hid (And.intro hl hn)
  obtain ⟨_, rfl, hq1⟩ := hp.tok_inv
  clear hp
  obtain ⟨_, rfl, hq2⟩ := hq1.tok_inv
  clear hq1
  obtain ⟨o1, _, l1, rfl, hp1, hq3⟩ := hq2.nd_cons
  clear hq2
  have H1 := Lib.hid hp1
  have K2 := Lib.hid (fit_len hp1 K1.out.1 K1.out.2)
  clear hp1
  obtain ⟨_, rfl, hq4⟩ := hq3.tok_inv
  clear hq3
  cases hq4
  have P0 := Lib.hid p
  have S0 := Lib.hid (Step.refl g h W)
  have HF := Lib.hid hf
  have HB := Lib.hid p.hB
  clear p hf hl hn hE
  have HI : Hid ((Tryz.prog.info? 29).map (·.size) = some [Value.int .i64 7, .int .i64 1, .string (strOf q), .int .i64 z, .string (strOf s)].length) := Lib.hid (n_info ⟨7, 1, q, z, s⟩)
  have HIA : Hid ((Tryz.prog.info? 29).map (·.size) = some (Nd.cells ⟨7, 1, q, z, s⟩).toArray.size) := Lib.hid (n_infoA _)
  have HLA : Hid ((Nd.cells ⟨7, 1, q, z, s⟩).toArray.all (·.oneCell') = true) := Lib.hid (n_all _)
  go_enter Tryz.func207, Tryz.ntmps207
  have X := Lib.hid (next_any P0.out)
  go_wp2_with fail
  refine X.out.mono ?_
  rintro e w1 ⟨rfl, hp', hs'⟩
  have P1 := Lib.hid hp'
  have S1 := Lib.hid (S0.out.trans hs')
  clear hp' hs' P0 S0 X
  simp only [Nd.cells]
  have HZN := Lib.hid (nb_zero w1)
  have HPN := Lib.hid (nb_put w1 ⟨7, 1, q, z, s⟩)
  have BN := Lib.hid (LB.start P1.out ⟨7, 1, q, z, s⟩)
  go_upto_region 1 with (first
    | (refine wpList_store_mid rfl 29 (.tmp 2) (.tmp 5) rfl w1.heap.size 0 (Nd.cells ⟨7, 1, q, z, s⟩).toArray rfl rfl HZN.out.room HIA.out HLA.out ?_; generalize World.setCells _ _ _ _ = w2 at HPN BN ⊢)
    | fail)
  have P2 := Lib.hid (P1.out.later HPN.out.2)
  have S2 := Lib.hid (S1.out.trans (P1.out.step HPN.out.2))
  obtain ⟨b, hb⟩ : ∃ b, b = w1.heap.size := ⟨_, rfl⟩
  rw [← hb] at BN ⊢
  have B2 := Lib.hid BN.out
  obtain ⟨c0, c1, c2, c3, c4⟩ := B2.out.nb.at
  clear HZN HPN BN hb P1 S1
  simp only at c0 c1 c2 c3 c4
  have X := Lib.hid (keyword_7 w2)
  go_wp2_with fail
  refine X.out.mono ?_
  rintro e w9 ⟨rfl, rfl⟩
  clear X
  have X := Lib.hid (pname_any q P2.out (by have := HF.out; simp at this ⊢; omega))
  go_wp2_with fail
  refine X.out.mono ?_
  rintro e w3 ⟨rfl, hp', hs'⟩
  have P3 := Lib.hid hp'
  have S3 := Lib.hid (S2.out.trans hs')
  have B3 := Lib.hid (B2.out.step hs')
  clear c0 c1 c2 c3 c4
  obtain ⟨c0, c1, c2, c3, c4⟩ := B3.out.nb.at
  clear hp' hs' P2 S2 B2 X
  simp only at c0 c1 c2 c3 c4
  have X := Lib.hid (signs1 [61] P3.out (by have := HF.out; simp at this ⊢; omega))
  go_wp2_with fail
  refine X.out.mono ?_
  rintro e w4 ⟨rfl, hp', hs'⟩
  have P4 := Lib.hid hp'
  have S4 := Lib.hid (S3.out.trans hs')
  have B4 := Lib.hid (B3.out.step hs')
  clear c0 c1 c2 c3 c4
  obtain ⟨c0, c1, c2, c3, c4⟩ := B4.out.nb.at
  clear hp' hs' P3 S3 B3 X
  simp only at c0 c1 c2 c3 c4
  have X := Lib.hid (HE.out _ _ _ ((ts ++ [nmT q]) ++ [sgn [61]]) _ K1.out.1 H1.out K1.out.2 (by have := HF.out; simp at this ⊢; omega) P4.out)
  go_wp2_with fail
  refine X.out.mono ?_
  rintro e w5 ⟨rfl, hp', hs'⟩
  have P5 := Lib.hid hp'
  have S5 := Lib.hid (S4.out.trans hs')
  have B5 := Lib.hid (B4.out.step hs')
  clear c0 c1 c2 c3 c4
  obtain ⟨c0, c1, c2, c3, c4⟩ := B5.out.nb.at
  clear hp' hs' P4 S4 B4 X
  simp only at c0 c1 c2 c3 c4
  have X := Lib.hid (signs1 [59] P5.out (by have := HF.out; simp at this ⊢; omega))
  go_wp2_with fail
  refine X.out.mono ?_
  rintro e w6 ⟨rfl, hp', hs'⟩
  have P6 := Lib.hid hp'
  have S6 := Lib.hid (S5.out.trans hs')
  have B6 := Lib.hid (B5.out.step hs')
  clear c0 c1 c2 c3 c4
  obtain ⟨c0, c1, c2, c3, c4⟩ := B6.out.nb.at
  clear hp' hs' P5 S5 B5 X
  simp only at c0 c1 c2 c3 c4
  go_wp2
  refine bodyPost_end (results_none rfl _ _ _) rfl ?_
  exact ⟨rfl, by have := P6.out; simpa [List.append_assoc] using this, S6.out⟩

set_option maxHeartbeats 4000000 in
set_option maxRecDepth 100000 in
theorem stmt_8 {w0 : World} {g h B N : Nat} (hE : Prt w0 g h B 86 #[ptr g] [.nd .ex] N) (q : List UInt8) (z : Int) (s : List UInt8) {W : World} {r l' : List Nd} {ts o : List Tk} (hl : r.length < N) (hp : Prn [.nd .ex, sg [91], .nd .ex, sg [93], sg [61], .nd .ex, sg [59]] r o l') (hn : FitN r) (hf : ts.length + o.length ≤ 99999990) (p : PW w0 g h B W (⟨8, 3, q, z, s⟩ :: r) ts) : Calls Tryz.prog 207 #[ptr g] W fun e W' => PrOk w0 g h B W l' (ts ++ o) e W' := by
  have HE := Lib.hid hE
  have HIX := Lib.hid (index_prt hE)
  have K1 := Lib.hid (And.intro hl hn)
  obtain ⟨o1, _, l1, rfl, hp1, hq1⟩ := hp.split [.nd .ex, sg [91], .nd .ex, sg [93]] _ rfl
  clear hp
  have H1 := Lib.hid hp1
  have K2 := Lib.hid (fit_len hp1 K1.out.1 K1.out.2)
  clear hp1
  obtain ⟨_, rfl, hq2⟩ := hq1.tok_inv
  clear hq1
  obtain ⟨o2, _, l2, rfl, hp2, hq3⟩ := hq2.nd_cons
  clear hq2
  have H2 := Lib.hid hp2
  have K3 := Lib.hid (fit_len hp2 K2.out.1 K2.out.2)
  clear hp2
  obtain ⟨_, rfl, hq4⟩ := hq3.tok_inv
  clear hq3
  cases hq4
  have P0 := Lib.hid p
  have S0 := Lib.hid (Step.refl g h W)
  have HF := Lib.hid hf
  have HB := Lib.hid p.hB
  clear p hf hl hn hE
  have HI : Hid ((Tryz.prog.info? 29).map (·.size) = some [Value.int .i64 8, .int .i64 3, .string (strOf q), .int .i64 z, .string (strOf s)].length) := Lib.hid (n_info ⟨8, 3, q, z, s⟩)
  have HIA : Hid ((Tryz.prog.info? 29).map (·.size) = some (Nd.cells ⟨8, 3, q, z, s⟩).toArray.size) := Lib.hid (n_infoA _)
  have HLA : Hid ((Nd.cells ⟨8, 3, q, z, s⟩).toArray.all (·.oneCell') = true) := Lib.hid (n_all _)
  go_enter Tryz.func207, Tryz.ntmps207
  have X := Lib.hid (next_any P0.out)
  go_wp2_with fail
  refine X.out.mono ?_
  rintro e w1 ⟨rfl, hp', hs'⟩
  have P1 := Lib.hid hp'
  have S1 := Lib.hid (S0.out.trans hs')
  clear hp' hs' P0 S0 X
  simp only [Nd.cells]
  have HZN := Lib.hid (nb_zero w1)
  have HPN := Lib.hid (nb_put w1 ⟨8, 3, q, z, s⟩)
  have BN := Lib.hid (LB.start P1.out ⟨8, 3, q, z, s⟩)
  go_upto_region 1 with (first
    | (refine wpList_store_mid rfl 29 (.tmp 2) (.tmp 5) rfl w1.heap.size 0 (Nd.cells ⟨8, 3, q, z, s⟩).toArray rfl rfl HZN.out.room HIA.out HLA.out ?_; generalize World.setCells _ _ _ _ = w2 at HPN BN ⊢)
    | fail)
  have P2 := Lib.hid (P1.out.later HPN.out.2)
  have S2 := Lib.hid (S1.out.trans (P1.out.step HPN.out.2))
  obtain ⟨b, hb⟩ : ∃ b, b = w1.heap.size := ⟨_, rfl⟩
  rw [← hb] at BN ⊢
  have B2 := Lib.hid BN.out
  obtain ⟨c0, c1, c2, c3, c4⟩ := B2.out.nb.at
  clear HZN HPN BN hb P1 S1
  simp only at c0 c1 c2 c3 c4
  have X := Lib.hid (keyword_8 w2)
  go_wp2_with fail
  refine X.out.mono ?_
  rintro e w9 ⟨rfl, rfl⟩
  clear X
  have X := Lib.hid (HIX.out _ _ _ ts _ K1.out.1 H1.out K1.out.2 (by have := HF.out; simp at this ⊢; omega) P2.out)
  go_wp2_with fail
  refine X.out.mono ?_
  rintro e w3 ⟨rfl, hp', hs'⟩
  have P3 := Lib.hid hp'
  have S3 := Lib.hid (S2.out.trans hs')
  have B3 := Lib.hid (B2.out.step hs')
  clear c0 c1 c2 c3 c4
  obtain ⟨c0, c1, c2, c3, c4⟩ := B3.out.nb.at
  clear hp' hs' P2 S2 B2 X
  simp only at c0 c1 c2 c3 c4
  have X := Lib.hid (signs1 [61] P3.out (by have := HF.out; simp at this ⊢; omega))
  go_wp2_with fail
  refine X.out.mono ?_
  rintro e w4 ⟨rfl, hp', hs'⟩
  have P4 := Lib.hid hp'
  have S4 := Lib.hid (S3.out.trans hs')
  have B4 := Lib.hid (B3.out.step hs')
  clear c0 c1 c2 c3 c4
  obtain ⟨c0, c1, c2, c3, c4⟩ := B4.out.nb.at
  clear hp' hs' P3 S3 B3 X
  simp only at c0 c1 c2 c3 c4
  have X := Lib.hid (HE.out _ _ _ ((ts ++ o1) ++ [sgn [61]]) _ K2.out.1 H2.out K2.out.2 (by have := HF.out; simp at this ⊢; omega) P4.out)
  go_wp2_with fail
  refine X.out.mono ?_
  rintro e w5 ⟨rfl, hp', hs'⟩
  have P5 := Lib.hid hp'
  have S5 := Lib.hid (S4.out.trans hs')
  have B5 := Lib.hid (B4.out.step hs')
  clear c0 c1 c2 c3 c4
  obtain ⟨c0, c1, c2, c3, c4⟩ := B5.out.nb.at
  clear hp' hs' P4 S4 B4 X
  simp only at c0 c1 c2 c3 c4
  have X := Lib.hid (signs1 [59] P5.out (by have := HF.out; simp at this ⊢; omega))
  go_wp2_with fail
  refine X.out.mono ?_
  rintro e w6 ⟨rfl, hp', hs'⟩
  have P6 := Lib.hid hp'
  have S6 := Lib.hid (S5.out.trans hs')
  have B6 := Lib.hid (B5.out.step hs')
  clear c0 c1 c2 c3 c4
  obtain ⟨c0, c1, c2, c3, c4⟩ := B6.out.nb.at
  clear hp' hs' P5 S5 B5 X
  simp only at c0 c1 c2 c3 c4
  go_wp2
  refine bodyPost_end (results_none rfl _ _ _) rfl ?_
  exact ⟨rfl, by have := P6.out; simpa [List.append_assoc] using this, S6.out⟩

set_option maxHeartbeats 4000000 in
set_option maxRecDepth 100000 in
theorem stmt_11 {w0 : World} {g h B N : Nat} (hE : Prt w0 g h B 86 #[ptr g] [.nd .ex] N) (q : List UInt8) (z : Int) (s : List UInt8) {W : World} {r l' : List Nd} {ts o : List Tk} (hl : r.length < N) (hp : Prn [sg [98, 114, 101, 97, 107], sg [59]] r o l') (hn : FitN r) (hf : ts.length + o.length ≤ 99999990) (p : PW w0 g h B W (⟨11, 0, q, z, s⟩ :: r) ts) : Calls Tryz.prog 207 #[ptr g] W fun e W' => PrOk w0 g h B W l' (ts ++ o) e W' := by
  have HE := Lib.hid hE
  have K1 := Lib.hid (And.intro hl hn)
  obtain ⟨_, rfl, hq1⟩ := hp.tok_inv
  clear hp
  obtain ⟨_, rfl, hq2⟩ := hq1.tok_inv
  clear hq1
  cases hq2
  have P0 := Lib.hid p
  have S0 := Lib.hid (Step.refl g h W)
  have HF := Lib.hid hf
  have HB := Lib.hid p.hB
  clear p hf hl hn hE
  have HI : Hid ((Tryz.prog.info? 29).map (·.size) = some [Value.int .i64 11, .int .i64 0, .string (strOf q), .int .i64 z, .string (strOf s)].length) := Lib.hid (n_info ⟨11, 0, q, z, s⟩)
  have HIA : Hid ((Tryz.prog.info? 29).map (·.size) = some (Nd.cells ⟨11, 0, q, z, s⟩).toArray.size) := Lib.hid (n_infoA _)
  have HLA : Hid ((Nd.cells ⟨11, 0, q, z, s⟩).toArray.all (·.oneCell') = true) := Lib.hid (n_all _)
  go_enter Tryz.func207, Tryz.ntmps207
  have X := Lib.hid (next_any P0.out)
  go_wp2_with fail
  refine X.out.mono ?_
  rintro e w1 ⟨rfl, hp', hs'⟩
  have P1 := Lib.hid hp'
  have S1 := Lib.hid (S0.out.trans hs')
  clear hp' hs' P0 S0 X
  simp only [Nd.cells]
  have HZN := Lib.hid (nb_zero w1)
  have HPN := Lib.hid (nb_put w1 ⟨11, 0, q, z, s⟩)
  have BN := Lib.hid (LB.start P1.out ⟨11, 0, q, z, s⟩)
  go_upto_region 1 with (first
    | (refine wpList_store_mid rfl 29 (.tmp 2) (.tmp 5) rfl w1.heap.size 0 (Nd.cells ⟨11, 0, q, z, s⟩).toArray rfl rfl HZN.out.room HIA.out HLA.out ?_; generalize World.setCells _ _ _ _ = w2 at HPN BN ⊢)
    | fail)
  have P2 := Lib.hid (P1.out.later HPN.out.2)
  have S2 := Lib.hid (S1.out.trans (P1.out.step HPN.out.2))
  obtain ⟨b, hb⟩ : ∃ b, b = w1.heap.size := ⟨_, rfl⟩
  rw [← hb] at BN ⊢
  have B2 := Lib.hid BN.out
  obtain ⟨c0, c1, c2, c3, c4⟩ := B2.out.nb.at
  clear HZN HPN BN hb P1 S1
  simp only at c0 c1 c2 c3 c4
  have X := Lib.hid (keyword_11 w2)
  go_wp2_with fail
  refine X.out.mono ?_
  rintro e w9 ⟨rfl, rfl⟩
  clear X
  have X := Lib.hid (signs1 [98, 114, 101, 97, 107] P2.out (by have := HF.out; simp at this ⊢; omega))
  go_wp2_with fail
  refine X.out.mono ?_
  rintro e w3 ⟨rfl, hp', hs'⟩
  have P3 := Lib.hid hp'
  have S3 := Lib.hid (S2.out.trans hs')
  have B3 := Lib.hid (B2.out.step hs')
  clear c0 c1 c2 c3 c4
  obtain ⟨c0, c1, c2, c3, c4⟩ := B3.out.nb.at
  clear hp' hs' P2 S2 B2 X
  simp only at c0 c1 c2 c3 c4
  have X := Lib.hid (signs1 [59] P3.out (by have := HF.out; simp at this ⊢; omega))
  go_wp2_with fail
  refine X.out.mono ?_
  rintro e w4 ⟨rfl, hp', hs'⟩
  have P4 := Lib.hid hp'
  have S4 := Lib.hid (S3.out.trans hs')
  have B4 := Lib.hid (B3.out.step hs')
  clear c0 c1 c2 c3 c4
  obtain ⟨c0, c1, c2, c3, c4⟩ := B4.out.nb.at
  clear hp' hs' P3 S3 B3 X
  simp only at c0 c1 c2 c3 c4
  go_wp2
  refine bodyPost_end (results_none rfl _ _ _) rfl ?_
  exact ⟨rfl, by have := P4.out; simpa [List.append_assoc] using this, S4.out⟩

set_option maxHeartbeats 4000000 in
set_option maxRecDepth 100000 in
theorem stmt_12 {w0 : World} {g h B N : Nat} (hE : Prt w0 g h B 86 #[ptr g] [.nd .ex] N) (q : List UInt8) (z : Int) (s : List UInt8) {W : World} {r l' : List Nd} {ts o : List Tk} (hl : r.length < N) (hp : Prn [sg [99, 111, 110, 116, 105, 110, 117, 101], sg [59]] r o l') (hn : FitN r) (hf : ts.length + o.length ≤ 99999990) (p : PW w0 g h B W (⟨12, 0, q, z, s⟩ :: r) ts) : Calls Tryz.prog 207 #[ptr g] W fun e W' => PrOk w0 g h B W l' (ts ++ o) e W' := by
  have HE := Lib.hid hE
  have K1 := Lib.hid (And.intro hl hn)
  obtain ⟨_, rfl, hq1⟩ := hp.tok_inv
  clear hp
  obtain ⟨_, rfl, hq2⟩ := hq1.tok_inv
  clear hq1
  cases hq2
  have P0 := Lib.hid p
  have S0 := Lib.hid (Step.refl g h W)
  have HF := Lib.hid hf
  have HB := Lib.hid p.hB
  clear p hf hl hn hE
  have HI : Hid ((Tryz.prog.info? 29).map (·.size) = some [Value.int .i64 12, .int .i64 0, .string (strOf q), .int .i64 z, .string (strOf s)].length) := Lib.hid (n_info ⟨12, 0, q, z, s⟩)
  have HIA : Hid ((Tryz.prog.info? 29).map (·.size) = some (Nd.cells ⟨12, 0, q, z, s⟩).toArray.size) := Lib.hid (n_infoA _)
  have HLA : Hid ((Nd.cells ⟨12, 0, q, z, s⟩).toArray.all (·.oneCell') = true) := Lib.hid (n_all _)
  go_enter Tryz.func207, Tryz.ntmps207
  have X := Lib.hid (next_any P0.out)
  go_wp2_with fail
  refine X.out.mono ?_
  rintro e w1 ⟨rfl, hp', hs'⟩
  have P1 := Lib.hid hp'
  have S1 := Lib.hid (S0.out.trans hs')
  clear hp' hs' P0 S0 X
  simp only [Nd.cells]
  have HZN := Lib.hid (nb_zero w1)
  have HPN := Lib.hid (nb_put w1 ⟨12, 0, q, z, s⟩)
  have BN := Lib.hid (LB.start P1.out ⟨12, 0, q, z, s⟩)
  go_upto_region 1 with (first
    | (refine wpList_store_mid rfl 29 (.tmp 2) (.tmp 5) rfl w1.heap.size 0 (Nd.cells ⟨12, 0, q, z, s⟩).toArray rfl rfl HZN.out.room HIA.out HLA.out ?_; generalize World.setCells _ _ _ _ = w2 at HPN BN ⊢)
    | fail)
  have P2 := Lib.hid (P1.out.later HPN.out.2)
  have S2 := Lib.hid (S1.out.trans (P1.out.step HPN.out.2))
  obtain ⟨b, hb⟩ : ∃ b, b = w1.heap.size := ⟨_, rfl⟩
  rw [← hb] at BN ⊢
  have B2 := Lib.hid BN.out
  obtain ⟨c0, c1, c2, c3, c4⟩ := B2.out.nb.at
  clear HZN HPN BN hb P1 S1
  simp only at c0 c1 c2 c3 c4
  have X := Lib.hid (keyword_12 w2)
  go_wp2_with fail
  refine X.out.mono ?_
  rintro e w9 ⟨rfl, rfl⟩
  clear X
  have X := Lib.hid (signs1 [99, 111, 110, 116, 105, 110, 117, 101] P2.out (by have := HF.out; simp at this ⊢; omega))
  go_wp2_with fail
  refine X.out.mono ?_
  rintro e w3 ⟨rfl, hp', hs'⟩
  have P3 := Lib.hid hp'
  have S3 := Lib.hid (S2.out.trans hs')
  have B3 := Lib.hid (B2.out.step hs')
  clear c0 c1 c2 c3 c4
  obtain ⟨c0, c1, c2, c3, c4⟩ := B3.out.nb.at
  clear hp' hs' P2 S2 B2 X
  simp only at c0 c1 c2 c3 c4
  have X := Lib.hid (signs1 [59] P3.out (by have := HF.out; simp at this ⊢; omega))
  go_wp2_with fail
  refine X.out.mono ?_
  rintro e w4 ⟨rfl, hp', hs'⟩
  have P4 := Lib.hid hp'
  have S4 := Lib.hid (S3.out.trans hs')
  have B4 := Lib.hid (B3.out.step hs')
  clear c0 c1 c2 c3 c4
  obtain ⟨c0, c1, c2, c3, c4⟩ := B4.out.nb.at
  clear hp' hs' P3 S3 B3 X
  simp only at c0 c1 c2 c3 c4
  go_wp2
  refine bodyPost_end (results_none rfl _ _ _) rfl ?_
  exact ⟨rfl, by have := P4.out; simpa [List.append_assoc] using this, S4.out⟩

set_option maxHeartbeats 4000000 in
set_option maxRecDepth 100000 in
theorem stmt_13 {w0 : World} {g h B N : Nat} (hE : Prt w0 g h B 86 #[ptr g] [.nd .ex] N) (q : List UInt8) (z : Int) (s : List UInt8) {W : World} {r l' : List Nd} {ts o : List Tk} (hl : r.length < N) (hp : Prn [sg [114, 101, 116, 117, 114, 110], .nd .ex, sg [59]] r o l') (hn : FitN r) (hf : ts.length + o.length ≤ 99999990) (p : PW w0 g h B W (⟨13, 1, q, z, s⟩ :: r) ts) : Calls Tryz.prog 207 #[ptr g] W fun e W' => PrOk w0 g h B W l' (ts ++ o) e W' := by
  have HE := Lib.hid hE
  have K1 := Lib.hid (And.intro hl hn)
  obtain ⟨_, rfl, hq1⟩ := hp.tok_inv
  clear hp
  obtain ⟨o1, _, l1, rfl, hp1, hq2⟩ := hq1.nd_cons
  clear hq1
  have H1 := Lib.hid hp1
  have K2 := Lib.hid (fit_len hp1 K1.out.1 K1.out.2)
  clear hp1
  obtain ⟨_, rfl, hq3⟩ := hq2.tok_inv
  clear hq2
  cases hq3
  have P0 := Lib.hid p
  have S0 := Lib.hid (Step.refl g h W)
  have HF := Lib.hid hf
  have HB := Lib.hid p.hB
  clear p hf hl hn hE
  have HI : Hid ((Tryz.prog.info? 29).map (·.size) = some [Value.int .i64 13, .int .i64 1, .string (strOf q), .int .i64 z, .string (strOf s)].length) := Lib.hid (n_info ⟨13, 1, q, z, s⟩)
  have HIA : Hid ((Tryz.prog.info? 29).map (·.size) = some (Nd.cells ⟨13, 1, q, z, s⟩).toArray.size) := Lib.hid (n_infoA _)
  have HLA : Hid ((Nd.cells ⟨13, 1, q, z, s⟩).toArray.all (·.oneCell') = true) := Lib.hid (n_all _)
  go_enter Tryz.func207, Tryz.ntmps207
  have X := Lib.hid (next_any P0.out)
  go_wp2_with fail
  refine X.out.mono ?_
  rintro e w1 ⟨rfl, hp', hs'⟩
  have P1 := Lib.hid hp'
  have S1 := Lib.hid (S0.out.trans hs')
  clear hp' hs' P0 S0 X
  simp only [Nd.cells]
  have HZN := Lib.hid (nb_zero w1)
  have HPN := Lib.hid (nb_put w1 ⟨13, 1, q, z, s⟩)
  have BN := Lib.hid (LB.start P1.out ⟨13, 1, q, z, s⟩)
  go_upto_region 1 with (first
    | (refine wpList_store_mid rfl 29 (.tmp 2) (.tmp 5) rfl w1.heap.size 0 (Nd.cells ⟨13, 1, q, z, s⟩).toArray rfl rfl HZN.out.room HIA.out HLA.out ?_; generalize World.setCells _ _ _ _ = w2 at HPN BN ⊢)
    | fail)
  have P2 := Lib.hid (P1.out.later HPN.out.2)
  have S2 := Lib.hid (S1.out.trans (P1.out.step HPN.out.2))
  obtain ⟨b, hb⟩ : ∃ b, b = w1.heap.size := ⟨_, rfl⟩
  rw [← hb] at BN ⊢
  have B2 := Lib.hid BN.out
  obtain ⟨c0, c1, c2, c3, c4⟩ := B2.out.nb.at
  clear HZN HPN BN hb P1 S1
  simp only at c0 c1 c2 c3 c4
  have X := Lib.hid (keyword_13 w2)
  go_wp2_with fail
  refine X.out.mono ?_
  rintro e w9 ⟨rfl, rfl⟩
  clear X
  have X := Lib.hid (signs1 [114, 101, 116, 117, 114, 110] P2.out (by have := HF.out; simp at this ⊢; omega))
  go_wp2_with fail
  refine X.out.mono ?_
  rintro e w3 ⟨rfl, hp', hs'⟩
  have P3 := Lib.hid hp'
  have S3 := Lib.hid (S2.out.trans hs')
  have B3 := Lib.hid (B2.out.step hs')
  clear c0 c1 c2 c3 c4
  obtain ⟨c0, c1, c2, c3, c4⟩ := B3.out.nb.at
  clear hp' hs' P2 S2 B2 X
  simp only at c0 c1 c2 c3 c4
  have X := Lib.hid (HE.out _ _ _ (ts ++ [sgn [114, 101, 116, 117, 114, 110]]) _ K1.out.1 H1.out K1.out.2 (by have := HF.out; simp at this ⊢; omega) P3.out)
  go_wp2_with fail
  refine X.out.mono ?_
  rintro e w4 ⟨rfl, hp', hs'⟩
  have P4 := Lib.hid hp'
  have S4 := Lib.hid (S3.out.trans hs')
  have B4 := Lib.hid (B3.out.step hs')
  clear c0 c1 c2 c3 c4
  obtain ⟨c0, c1, c2, c3, c4⟩ := B4.out.nb.at
  clear hp' hs' P3 S3 B3 X
  simp only at c0 c1 c2 c3 c4
  have X := Lib.hid (signs1 [59] P4.out (by have := HF.out; simp at this ⊢; omega))
  go_wp2_with fail
  refine X.out.mono ?_
  rintro e w5 ⟨rfl, hp', hs'⟩
  have P5 := Lib.hid hp'
  have S5 := Lib.hid (S4.out.trans hs')
  have B5 := Lib.hid (B4.out.step hs')
  clear c0 c1 c2 c3 c4
  obtain ⟨c0, c1, c2, c3, c4⟩ := B5.out.nb.at
  clear hp' hs' P4 S4 B4 X
  simp only at c0 c1 c2 c3 c4
  go_wp2
  refine bodyPost_end (results_none rfl _ _ _) rfl ?_
  exact ⟨rfl, by have := P5.out; simpa [List.append_assoc] using this, S5.out⟩

set_option maxHeartbeats 4000000 in
set_option maxRecDepth 100000 in
theorem stmt_14 {w0 : World} {g h B N : Nat} (hE : Prt w0 g h B 86 #[ptr g] [.nd .ex] N) (q : List UInt8) (z : Int) (s : List UInt8) {W : World} {r l' : List Nd} {ts o : List Tk} (hl : r.length < N) (hp : Prn [sg [112, 117, 116], .nd .ex, sg [59]] r o l') (hn : FitN r) (hf : ts.length + o.length ≤ 99999990) (p : PW w0 g h B W (⟨14, 1, q, z, s⟩ :: r) ts) : Calls Tryz.prog 207 #[ptr g] W fun e W' => PrOk w0 g h B W l' (ts ++ o) e W' := by
  have HE := Lib.hid hE
  have K1 := Lib.hid (And.intro hl hn)
  obtain ⟨_, rfl, hq1⟩ := hp.tok_inv
  clear hp
  obtain ⟨o1, _, l1, rfl, hp1, hq2⟩ := hq1.nd_cons
  clear hq1
  have H1 := Lib.hid hp1
  have K2 := Lib.hid (fit_len hp1 K1.out.1 K1.out.2)
  clear hp1
  obtain ⟨_, rfl, hq3⟩ := hq2.tok_inv
  clear hq2
  cases hq3
  have P0 := Lib.hid p
  have S0 := Lib.hid (Step.refl g h W)
  have HF := Lib.hid hf
  have HB := Lib.hid p.hB
  clear p hf hl hn hE
  have HI : Hid ((Tryz.prog.info? 29).map (·.size) = some [Value.int .i64 14, .int .i64 1, .string (strOf q), .int .i64 z, .string (strOf s)].length) := Lib.hid (n_info ⟨14, 1, q, z, s⟩)
  have HIA : Hid ((Tryz.prog.info? 29).map (·.size) = some (Nd.cells ⟨14, 1, q, z, s⟩).toArray.size) := Lib.hid (n_infoA _)
  have HLA : Hid ((Nd.cells ⟨14, 1, q, z, s⟩).toArray.all (·.oneCell') = true) := Lib.hid (n_all _)
  go_enter Tryz.func207, Tryz.ntmps207
  have X := Lib.hid (next_any P0.out)
  go_wp2_with fail
  refine X.out.mono ?_
  rintro e w1 ⟨rfl, hp', hs'⟩
  have P1 := Lib.hid hp'
  have S1 := Lib.hid (S0.out.trans hs')
  clear hp' hs' P0 S0 X
  simp only [Nd.cells]
  have HZN := Lib.hid (nb_zero w1)
  have HPN := Lib.hid (nb_put w1 ⟨14, 1, q, z, s⟩)
  have BN := Lib.hid (LB.start P1.out ⟨14, 1, q, z, s⟩)
  go_upto_region 1 with (first
    | (refine wpList_store_mid rfl 29 (.tmp 2) (.tmp 5) rfl w1.heap.size 0 (Nd.cells ⟨14, 1, q, z, s⟩).toArray rfl rfl HZN.out.room HIA.out HLA.out ?_; generalize World.setCells _ _ _ _ = w2 at HPN BN ⊢)
    | fail)
  have P2 := Lib.hid (P1.out.later HPN.out.2)
  have S2 := Lib.hid (S1.out.trans (P1.out.step HPN.out.2))
  obtain ⟨b, hb⟩ : ∃ b, b = w1.heap.size := ⟨_, rfl⟩
  rw [← hb] at BN ⊢
  have B2 := Lib.hid BN.out
  obtain ⟨c0, c1, c2, c3, c4⟩ := B2.out.nb.at
  clear HZN HPN BN hb P1 S1
  simp only at c0 c1 c2 c3 c4
  have X := Lib.hid (keyword_14 w2)
  go_wp2_with fail
  refine X.out.mono ?_
  rintro e w9 ⟨rfl, rfl⟩
  clear X
  have X := Lib.hid (signs1 [112, 117, 116] P2.out (by have := HF.out; simp at this ⊢; omega))
  go_wp2_with fail
  refine X.out.mono ?_
  rintro e w3 ⟨rfl, hp', hs'⟩
  have P3 := Lib.hid hp'
  have S3 := Lib.hid (S2.out.trans hs')
  have B3 := Lib.hid (B2.out.step hs')
  clear c0 c1 c2 c3 c4
  obtain ⟨c0, c1, c2, c3, c4⟩ := B3.out.nb.at
  clear hp' hs' P2 S2 B2 X
  simp only at c0 c1 c2 c3 c4
  have X := Lib.hid (HE.out _ _ _ (ts ++ [sgn [112, 117, 116]]) _ K1.out.1 H1.out K1.out.2 (by have := HF.out; simp at this ⊢; omega) P3.out)
  go_wp2_with fail
  refine X.out.mono ?_
  rintro e w4 ⟨rfl, hp', hs'⟩
  have P4 := Lib.hid hp'
  have S4 := Lib.hid (S3.out.trans hs')
  have B4 := Lib.hid (B3.out.step hs')
  clear c0 c1 c2 c3 c4
  obtain ⟨c0, c1, c2, c3, c4⟩ := B4.out.nb.at
  clear hp' hs' P3 S3 B3 X
  simp only at c0 c1 c2 c3 c4
  have X := Lib.hid (signs1 [59] P4.out (by have := HF.out; simp at this ⊢; omega))
  go_wp2_with fail
  refine X.out.mono ?_
  rintro e w5 ⟨rfl, hp', hs'⟩
  have P5 := Lib.hid hp'
  have S5 := Lib.hid (S4.out.trans hs')
  have B5 := Lib.hid (B4.out.step hs')
  clear c0 c1 c2 c3 c4
  obtain ⟨c0, c1, c2, c3, c4⟩ := B5.out.nb.at
  clear hp' hs' P4 S4 B4 X
  simp only at c0 c1 c2 c3 c4
  go_wp2
  refine bodyPost_end (results_none rfl _ _ _) rfl ?_
  exact ⟨rfl, by have := P5.out; simpa [List.append_assoc] using this, S5.out⟩

set_option maxHeartbeats 4000000 in
set_option maxRecDepth 100000 in
theorem stmt_15 {w0 : World} {g h B N : Nat} (hE : Prt w0 g h B 86 #[ptr g] [.nd .ex] N) (q : List UInt8) (z : Int) (s : List UInt8) {W : World} {r l' : List Nd} {ts o : List Tk} (hl : r.length < N) (hp : Prn [sg [101, 109, 105, 116], .nd .ex, sg [59]] r o l') (hn : FitN r) (hf : ts.length + o.length ≤ 99999990) (p : PW w0 g h B W (⟨15, 1, q, z, s⟩ :: r) ts) : Calls Tryz.prog 207 #[ptr g] W fun e W' => PrOk w0 g h B W l' (ts ++ o) e W' := by
  have HE := Lib.hid hE
  have K1 := Lib.hid (And.intro hl hn)
  obtain ⟨_, rfl, hq1⟩ := hp.tok_inv
  clear hp
  obtain ⟨o1, _, l1, rfl, hp1, hq2⟩ := hq1.nd_cons
  clear hq1
  have H1 := Lib.hid hp1
  have K2 := Lib.hid (fit_len hp1 K1.out.1 K1.out.2)
  clear hp1
  obtain ⟨_, rfl, hq3⟩ := hq2.tok_inv
  clear hq2
  cases hq3
  have P0 := Lib.hid p
  have S0 := Lib.hid (Step.refl g h W)
  have HF := Lib.hid hf
  have HB := Lib.hid p.hB
  clear p hf hl hn hE
  have HI : Hid ((Tryz.prog.info? 29).map (·.size) = some [Value.int .i64 15, .int .i64 1, .string (strOf q), .int .i64 z, .string (strOf s)].length) := Lib.hid (n_info ⟨15, 1, q, z, s⟩)
  have HIA : Hid ((Tryz.prog.info? 29).map (·.size) = some (Nd.cells ⟨15, 1, q, z, s⟩).toArray.size) := Lib.hid (n_infoA _)
  have HLA : Hid ((Nd.cells ⟨15, 1, q, z, s⟩).toArray.all (·.oneCell') = true) := Lib.hid (n_all _)
  go_enter Tryz.func207, Tryz.ntmps207
  have X := Lib.hid (next_any P0.out)
  go_wp2_with fail
  refine X.out.mono ?_
  rintro e w1 ⟨rfl, hp', hs'⟩
  have P1 := Lib.hid hp'
  have S1 := Lib.hid (S0.out.trans hs')
  clear hp' hs' P0 S0 X
  simp only [Nd.cells]
  have HZN := Lib.hid (nb_zero w1)
  have HPN := Lib.hid (nb_put w1 ⟨15, 1, q, z, s⟩)
  have BN := Lib.hid (LB.start P1.out ⟨15, 1, q, z, s⟩)
  go_upto_region 1 with (first
    | (refine wpList_store_mid rfl 29 (.tmp 2) (.tmp 5) rfl w1.heap.size 0 (Nd.cells ⟨15, 1, q, z, s⟩).toArray rfl rfl HZN.out.room HIA.out HLA.out ?_; generalize World.setCells _ _ _ _ = w2 at HPN BN ⊢)
    | fail)
  have P2 := Lib.hid (P1.out.later HPN.out.2)
  have S2 := Lib.hid (S1.out.trans (P1.out.step HPN.out.2))
  obtain ⟨b, hb⟩ : ∃ b, b = w1.heap.size := ⟨_, rfl⟩
  rw [← hb] at BN ⊢
  have B2 := Lib.hid BN.out
  obtain ⟨c0, c1, c2, c3, c4⟩ := B2.out.nb.at
  clear HZN HPN BN hb P1 S1
  simp only at c0 c1 c2 c3 c4
  have X := Lib.hid (keyword_15 w2)
  go_wp2_with fail
  refine X.out.mono ?_
  rintro e w9 ⟨rfl, rfl⟩
  clear X
  have X := Lib.hid (signs1 [101, 109, 105, 116] P2.out (by have := HF.out; simp at this ⊢; omega))
  go_wp2_with fail
  refine X.out.mono ?_
  rintro e w3 ⟨rfl, hp', hs'⟩
  have P3 := Lib.hid hp'
  have S3 := Lib.hid (S2.out.trans hs')
  have B3 := Lib.hid (B2.out.step hs')
  clear c0 c1 c2 c3 c4
  obtain ⟨c0, c1, c2, c3, c4⟩ := B3.out.nb.at
  clear hp' hs' P2 S2 B2 X
  simp only at c0 c1 c2 c3 c4
  have X := Lib.hid (HE.out _ _ _ (ts ++ [sgn [101, 109, 105, 116]]) _ K1.out.1 H1.out K1.out.2 (by have := HF.out; simp at this ⊢; omega) P3.out)
  go_wp2_with fail
  refine X.out.mono ?_
  rintro e w4 ⟨rfl, hp', hs'⟩
  have P4 := Lib.hid hp'
  have S4 := Lib.hid (S3.out.trans hs')
  have B4 := Lib.hid (B3.out.step hs')
  clear c0 c1 c2 c3 c4
  obtain ⟨c0, c1, c2, c3, c4⟩ := B4.out.nb.at
  clear hp' hs' P3 S3 B3 X
  simp only at c0 c1 c2 c3 c4
  have X := Lib.hid (signs1 [59] P4.out (by have := HF.out; simp at this ⊢; omega))
  go_wp2_with fail
  refine X.out.mono ?_
  rintro e w5 ⟨rfl, hp', hs'⟩
  have P5 := Lib.hid hp'
  have S5 := Lib.hid (S4.out.trans hs')
  have B5 := Lib.hid (B4.out.step hs')
  clear c0 c1 c2 c3 c4
  obtain ⟨c0, c1, c2, c3, c4⟩ := B5.out.nb.at
  clear hp' hs' P4 S4 B4 X
  simp only at c0 c1 c2 c3 c4
  go_wp2
  refine bodyPost_end (results_none rfl _ _ _) rfl ?_
  exact ⟨rfl, by have := P5.out; simpa [List.append_assoc] using this, S5.out⟩

set_option maxHeartbeats 4000000 in
set_option maxRecDepth 100000 in
theorem stmt_16 {w0 : World} {g h B N : Nat} (hE : Prt w0 g h B 86 #[ptr g] [.nd .ex] N) (q : List UInt8) (z : Int) (s : List UInt8) {W : World} {r l' : List Nd} {ts o : List Tk} (hl : r.length < N) (hp : Prn [sg [121, 105, 101, 108, 100], sg [59]] r o l') (hn : FitN r) (hf : ts.length + o.length ≤ 99999990) (p : PW w0 g h B W (⟨16, 0, q, z, s⟩ :: r) ts) : Calls Tryz.prog 207 #[ptr g] W fun e W' => PrOk w0 g h B W l' (ts ++ o) e W' := by
  have HE := Lib.hid hE
  have K1 := Lib.hid (And.intro hl hn)
  obtain ⟨_, rfl, hq1⟩ := hp.tok_inv
  clear hp
  obtain ⟨_, rfl, hq2⟩ := hq1.tok_inv
  clear hq1
  cases hq2
  have P0 := Lib.hid p
  have S0 := Lib.hid (Step.refl g h W)
  have HF := Lib.hid hf
  have HB := Lib.hid p.hB
  clear p hf hl hn hE
  have HI : Hid ((Tryz.prog.info? 29).map (·.size) = some [Value.int .i64 16, .int .i64 0, .string (strOf q), .int .i64 z, .string (strOf s)].length) := Lib.hid (n_info ⟨16, 0, q, z, s⟩)
  have HIA : Hid ((Tryz.prog.info? 29).map (·.size) = some (Nd.cells ⟨16, 0, q, z, s⟩).toArray.size) := Lib.hid (n_infoA _)
  have HLA : Hid ((Nd.cells ⟨16, 0, q, z, s⟩).toArray.all (·.oneCell') = true) := Lib.hid (n_all _)
  go_enter Tryz.func207, Tryz.ntmps207
  have X := Lib.hid (next_any P0.out)
  go_wp2_with fail
  refine X.out.mono ?_
  rintro e w1 ⟨rfl, hp', hs'⟩
  have P1 := Lib.hid hp'
  have S1 := Lib.hid (S0.out.trans hs')
  clear hp' hs' P0 S0 X
  simp only [Nd.cells]
  have HZN := Lib.hid (nb_zero w1)
  have HPN := Lib.hid (nb_put w1 ⟨16, 0, q, z, s⟩)
  have BN := Lib.hid (LB.start P1.out ⟨16, 0, q, z, s⟩)
  go_upto_region 1 with (first
    | (refine wpList_store_mid rfl 29 (.tmp 2) (.tmp 5) rfl w1.heap.size 0 (Nd.cells ⟨16, 0, q, z, s⟩).toArray rfl rfl HZN.out.room HIA.out HLA.out ?_; generalize World.setCells _ _ _ _ = w2 at HPN BN ⊢)
    | fail)
  have P2 := Lib.hid (P1.out.later HPN.out.2)
  have S2 := Lib.hid (S1.out.trans (P1.out.step HPN.out.2))
  obtain ⟨b, hb⟩ : ∃ b, b = w1.heap.size := ⟨_, rfl⟩
  rw [← hb] at BN ⊢
  have B2 := Lib.hid BN.out
  obtain ⟨c0, c1, c2, c3, c4⟩ := B2.out.nb.at
  clear HZN HPN BN hb P1 S1
  simp only at c0 c1 c2 c3 c4
  have X := Lib.hid (keyword_16 w2)
  go_wp2_with fail
  refine X.out.mono ?_
  rintro e w9 ⟨rfl, rfl⟩
  clear X
  have X := Lib.hid (signs1 [121, 105, 101, 108, 100] P2.out (by have := HF.out; simp at this ⊢; omega))
  go_wp2_with fail
  refine X.out.mono ?_
  rintro e w3 ⟨rfl, hp', hs'⟩
  have P3 := Lib.hid hp'
  have S3 := Lib.hid (S2.out.trans hs')
  have B3 := Lib.hid (B2.out.step hs')
  clear c0 c1 c2 c3 c4
  obtain ⟨c0, c1, c2, c3, c4⟩ := B3.out.nb.at
  clear hp' hs' P2 S2 B2 X
  simp only at c0 c1 c2 c3 c4
  have X := Lib.hid (signs1 [59] P3.out (by have := HF.out; simp at this ⊢; omega))
  go_wp2_with fail
  refine X.out.mono ?_
  rintro e w4 ⟨rfl, hp', hs'⟩
  have P4 := Lib.hid hp'
  have S4 := Lib.hid (S3.out.trans hs')
  have B4 := Lib.hid (B3.out.step hs')
  clear c0 c1 c2 c3 c4
  obtain ⟨c0, c1, c2, c3, c4⟩ := B4.out.nb.at
  clear hp' hs' P3 S3 B3 X
  simp only at c0 c1 c2 c3 c4
  go_wp2
  refine bodyPost_end (results_none rfl _ _ _) rfl ?_
  exact ⟨rfl, by have := P4.out; simpa [List.append_assoc] using this, S4.out⟩

set_option maxHeartbeats 4000000 in
set_option maxRecDepth 100000 in
theorem stmt_17 {w0 : World} {g h B N : Nat} (hE : Prt w0 g h B 86 #[ptr g] [.nd .ex] N) (q : List UInt8) (z : Int) (s : List UInt8) {W : World} {r l' : List Nd} {ts o : List Tk} (hl : r.length < N) (hp : Prn [.nd .ex, sg [59]] r o l') (hn : FitN r) (hf : ts.length + o.length ≤ 99999990) (p : PW w0 g h B W (⟨17, 1, q, z, s⟩ :: r) ts) : Calls Tryz.prog 207 #[ptr g] W fun e W' => PrOk w0 g h B W l' (ts ++ o) e W' := by
  have HE := Lib.hid hE
  have K1 := Lib.hid (And.intro hl hn)
  obtain ⟨o1, _, l1, rfl, hp1, hq1⟩ := hp.nd_cons
  clear hp
  have H1 := Lib.hid hp1
  have K2 := Lib.hid (fit_len hp1 K1.out.1 K1.out.2)
  clear hp1
  obtain ⟨_, rfl, hq2⟩ := hq1.tok_inv
  clear hq1
  cases hq2
  have P0 := Lib.hid p
  have S0 := Lib.hid (Step.refl g h W)
  have HF := Lib.hid hf
  have HB := Lib.hid p.hB
  clear p hf hl hn hE
  have HI : Hid ((Tryz.prog.info? 29).map (·.size) = some [Value.int .i64 17, .int .i64 1, .string (strOf q), .int .i64 z, .string (strOf s)].length) := Lib.hid (n_info ⟨17, 1, q, z, s⟩)
  have HIA : Hid ((Tryz.prog.info? 29).map (·.size) = some (Nd.cells ⟨17, 1, q, z, s⟩).toArray.size) := Lib.hid (n_infoA _)
  have HLA : Hid ((Nd.cells ⟨17, 1, q, z, s⟩).toArray.all (·.oneCell') = true) := Lib.hid (n_all _)
  go_enter Tryz.func207, Tryz.ntmps207
  have X := Lib.hid (next_any P0.out)
  go_wp2_with fail
  refine X.out.mono ?_
  rintro e w1 ⟨rfl, hp', hs'⟩
  have P1 := Lib.hid hp'
  have S1 := Lib.hid (S0.out.trans hs')
  clear hp' hs' P0 S0 X
  simp only [Nd.cells]
  have HZN := Lib.hid (nb_zero w1)
  have HPN := Lib.hid (nb_put w1 ⟨17, 1, q, z, s⟩)
  have BN := Lib.hid (LB.start P1.out ⟨17, 1, q, z, s⟩)
  go_upto_region 1 with (first
    | (refine wpList_store_mid rfl 29 (.tmp 2) (.tmp 5) rfl w1.heap.size 0 (Nd.cells ⟨17, 1, q, z, s⟩).toArray rfl rfl HZN.out.room HIA.out HLA.out ?_; generalize World.setCells _ _ _ _ = w2 at HPN BN ⊢)
    | fail)
  have P2 := Lib.hid (P1.out.later HPN.out.2)
  have S2 := Lib.hid (S1.out.trans (P1.out.step HPN.out.2))
  obtain ⟨b, hb⟩ : ∃ b, b = w1.heap.size := ⟨_, rfl⟩
  rw [← hb] at BN ⊢
  have B2 := Lib.hid BN.out
  obtain ⟨c0, c1, c2, c3, c4⟩ := B2.out.nb.at
  clear HZN HPN BN hb P1 S1
  simp only at c0 c1 c2 c3 c4
  have X := Lib.hid (keyword_17 w2)
  go_wp2_with fail
  refine X.out.mono ?_
  rintro e w9 ⟨rfl, rfl⟩
  clear X
  have X := Lib.hid (HE.out _ _ _ ts _ K1.out.1 H1.out K1.out.2 (by have := HF.out; simp at this ⊢; omega) P2.out)
  go_wp2_with fail
  refine X.out.mono ?_
  rintro e w3 ⟨rfl, hp', hs'⟩
  have P3 := Lib.hid hp'
  have S3 := Lib.hid (S2.out.trans hs')
  have B3 := Lib.hid (B2.out.step hs')
  clear c0 c1 c2 c3 c4
  obtain ⟨c0, c1, c2, c3, c4⟩ := B3.out.nb.at
  clear hp' hs' P2 S2 B2 X
  simp only at c0 c1 c2 c3 c4
  have X := Lib.hid (signs1 [59] P3.out (by have := HF.out; simp at this ⊢; omega))
  go_wp2_with fail
  refine X.out.mono ?_
  rintro e w4 ⟨rfl, hp', hs'⟩
  have P4 := Lib.hid hp'
  have S4 := Lib.hid (S3.out.trans hs')
  have B4 := Lib.hid (B3.out.step hs')
  clear c0 c1 c2 c3 c4
  obtain ⟨c0, c1, c2, c3, c4⟩ := B4.out.nb.at
  clear hp' hs' P3 S3 B3 X
  simp only at c0 c1 c2 c3 c4
  go_wp2
  refine bodyPost_end (results_none rfl _ _ _) rfl ?_
  exact ⟨rfl, by have := P4.out; simpa [List.append_assoc] using this, S4.out⟩

set_option maxHeartbeats 4000000 in
set_option maxRecDepth 100000 in
theorem stmt_9_3 {w0 : World} {g h B N : Nat} (hE : Prt w0 g h B 86 #[ptr g] [.nd .ex] N) (hBL : Prt w0 g h B 182 #[ptr g] [.nd .blk] N) (q : List UInt8) (z : Int) (s : List UInt8) {W : World} {r l' : List Nd} {ts o : List Tk} (hl : r.length < N) (hp : Prn [sg [105, 102], .nd .ex, .nd .blk, sg [101, 108, 115, 101], .nd .blk] r o l') (hn : FitN r) (hf : ts.length + o.length ≤ 99999990) (p : PW w0 g h B W (⟨9, 3, q, z, s⟩ :: r) ts) : Calls Tryz.prog 207 #[ptr g] W fun e W' => PrOk w0 g h B W l' (ts ++ o) e W' := by
  have HBR := Lib.hid (branches_prt3 hE hBL 9 3 q z s (by decide))
  have K1 := Lib.hid (And.intro hl hn)
  obtain ⟨_, rfl, hq1⟩ := hp.tok_inv
  clear hp
  obtain ⟨o1, _, l1, rfl, hp1, hq2⟩ := hq1.split [.nd .ex, .nd .blk, sg [101, 108, 115, 101], .nd .blk] _ rfl
  clear hq1
  have H1 := Lib.hid hp1
  have K2 := Lib.hid (fit_len hp1 K1.out.1 K1.out.2)
  clear hp1
  cases hq2
  have P0 := Lib.hid p
  have S0 := Lib.hid (Step.refl g h W)
  have HF := Lib.hid hf
  have HB := Lib.hid p.hB
  clear p hf hl hn hE hBL
  have HI : Hid ((Tryz.prog.info? 29).map (·.size) = some [Value.int .i64 9, .int .i64 3, .string (strOf q), .int .i64 z, .string (strOf s)].length) := Lib.hid (n_info ⟨9, 3, q, z, s⟩)
  have HIA : Hid ((Tryz.prog.info? 29).map (·.size) = some (Nd.cells ⟨9, 3, q, z, s⟩).toArray.size) := Lib.hid (n_infoA _)
  have HLA : Hid ((Nd.cells ⟨9, 3, q, z, s⟩).toArray.all (·.oneCell') = true) := Lib.hid (n_all _)
  go_enter Tryz.func207, Tryz.ntmps207
  have X := Lib.hid (next_any P0.out)
  go_wp2_with fail
  refine X.out.mono ?_
  rintro e w1 ⟨rfl, hp', hs'⟩
  have P1 := Lib.hid hp'
  have S1 := Lib.hid (S0.out.trans hs')
  clear hp' hs' P0 S0 X
  simp only [Nd.cells]
  have HZN := Lib.hid (nb_zero w1)
  have HPN := Lib.hid (nb_put w1 ⟨9, 3, q, z, s⟩)
  have BN := Lib.hid (LB.start P1.out ⟨9, 3, q, z, s⟩)
  go_upto_region 1 with (first
    | (refine wpList_store_mid rfl 29 (.tmp 2) (.tmp 5) rfl w1.heap.size 0 (Nd.cells ⟨9, 3, q, z, s⟩).toArray rfl rfl HZN.out.room HIA.out HLA.out ?_; generalize World.setCells _ _ _ _ = w2 at HPN BN ⊢)
    | fail)
  have P2 := Lib.hid (P1.out.later HPN.out.2)
  have S2 := Lib.hid (S1.out.trans (P1.out.step HPN.out.2))
  obtain ⟨b, hb⟩ : ∃ b, b = w1.heap.size := ⟨_, rfl⟩
  rw [← hb] at BN ⊢
  have B2 := Lib.hid BN.out
  obtain ⟨c0, c1, c2, c3, c4⟩ := B2.out.nb.at
  clear HZN HPN BN hb P1 S1
  simp only at c0 c1 c2 c3 c4
  have X := Lib.hid (keyword_9 w2)
  go_wp2_with fail
  refine X.out.mono ?_
  rintro e w9 ⟨rfl, rfl⟩
  clear X
  have X := Lib.hid (signs1 [105, 102] P2.out (by have := HF.out; simp at this ⊢; omega))
  go_wp2_with fail
  refine X.out.mono ?_
  rintro e w3 ⟨rfl, hp', hs'⟩
  have P3 := Lib.hid hp'
  have S3 := Lib.hid (S2.out.trans hs')
  have B3 := Lib.hid (B2.out.step hs')
  clear c0 c1 c2 c3 c4
  obtain ⟨c0, c1, c2, c3, c4⟩ := B3.out.nb.at
  clear hp' hs' P2 S2 B2 X
  simp only at c0 c1 c2 c3 c4
  have X := Lib.hid (HBR.out _ _ _ (ts ++ [sgn [105, 102]]) _ K1.out.1 H1.out K1.out.2 (by have := HF.out; simp at this ⊢; omega) P3.out)
  go_wp2_with (first
    | (refine wpList_load_mid rfl 29 (.tmp 2) rfl b 0 rfl [.int .i64 9, .int .i64 3, .string (strOf q), .int .i64 z, .string (strOf s)] _ B3.out.nb.cells Tryz.underlying29 rfl HI.out ?_)
    | fail)
  refine X.out.mono ?_
  rintro e w4 ⟨rfl, hp', hs'⟩
  have P4 := Lib.hid hp'
  have S4 := Lib.hid (S3.out.trans hs')
  have B4 := Lib.hid (B3.out.step hs')
  clear c0 c1 c2 c3 c4
  obtain ⟨c0, c1, c2, c3, c4⟩ := B4.out.nb.at
  clear hp' hs' P3 S3 B3 X
  simp only at c0 c1 c2 c3 c4
  go_wp2
  refine bodyPost_ret (results_none rfl _ _ _) rfl ?_
  exact ⟨rfl, by have := P4.out; simpa [List.append_assoc] using this, S4.out⟩

set_option maxHeartbeats 4000000 in
set_option maxRecDepth 100000 in
theorem stmt_9_2 {w0 : World} {g h B N : Nat} (hE : Prt w0 g h B 86 #[ptr g] [.nd .ex] N) (hBL : Prt w0 g h B 182 #[ptr g] [.nd .blk] N) (q : List UInt8) (z : Int) (s : List UInt8) {W : World} {r l' : List Nd} {ts o : List Tk} (hl : r.length < N) (hp : Prn [sg [105, 102], .nd .ex, .nd .blk] r o l') (hn : FitN r) (hf : ts.length + o.length ≤ 99999990) (p : PW w0 g h B W (⟨9, 2, q, z, s⟩ :: r) ts) : Calls Tryz.prog 207 #[ptr g] W fun e W' => PrOk w0 g h B W l' (ts ++ o) e W' := by
  have HBR := Lib.hid (branches_prt2 hE hBL 9 2 q z s (by decide))
  have K1 := Lib.hid (And.intro hl hn)
  obtain ⟨_, rfl, hq1⟩ := hp.tok_inv
  clear hp
  obtain ⟨o1, _, l1, rfl, hp1, hq2⟩ := hq1.split [.nd .ex, .nd .blk] _ rfl
  clear hq1
  have H1 := Lib.hid hp1
  have K2 := Lib.hid (fit_len hp1 K1.out.1 K1.out.2)
  clear hp1
  cases hq2
  have P0 := Lib.hid p
  have S0 := Lib.hid (Step.refl g h W)
  have HF := Lib.hid hf
  have HB := Lib.hid p.hB
  clear p hf hl hn hE hBL
  have HI : Hid ((Tryz.prog.info? 29).map (·.size) = some [Value.int .i64 9, .int .i64 2, .string (strOf q), .int .i64 z, .string (strOf s)].length) := Lib.hid (n_info ⟨9, 2, q, z, s⟩)
  have HIA : Hid ((Tryz.prog.info? 29).map (·.size) = some (Nd.cells ⟨9, 2, q, z, s⟩).toArray.size) := Lib.hid (n_infoA _)
  have HLA : Hid ((Nd.cells ⟨9, 2, q, z, s⟩).toArray.all (·.oneCell') = true) := Lib.hid (n_all _)
  go_enter Tryz.func207, Tryz.ntmps207
  have X := Lib.hid (next_any P0.out)
  go_wp2_with fail
  refine X.out.mono ?_
  rintro e w1 ⟨rfl, hp', hs'⟩
  have P1 := Lib.hid hp'
  have S1 := Lib.hid (S0.out.trans hs')
  clear hp' hs' P0 S0 X
  simp only [Nd.cells]
  have HZN := Lib.hid (nb_zero w1)
  have HPN := Lib.hid (nb_put w1 ⟨9, 2, q, z, s⟩)
  have BN := Lib.hid (LB.start P1.out ⟨9, 2, q, z, s⟩)
  go_upto_region 1 with (first
    | (refine wpList_store_mid rfl 29 (.tmp 2) (.tmp 5) rfl w1.heap.size 0 (Nd.cells ⟨9, 2, q, z, s⟩).toArray rfl rfl HZN.out.room HIA.out HLA.out ?_; generalize World.setCells _ _ _ _ = w2 at HPN BN ⊢)
    | fail)
  have P2 := Lib.hid (P1.out.later HPN.out.2)
  have S2 := Lib.hid (S1.out.trans (P1.out.step HPN.out.2))
  obtain ⟨b, hb⟩ : ∃ b, b = w1.heap.size := ⟨_, rfl⟩
  rw [← hb] at BN ⊢
  have B2 := Lib.hid BN.out
  obtain ⟨c0, c1, c2, c3, c4⟩ := B2.out.nb.at
  clear HZN HPN BN hb P1 S1
  simp only at c0 c1 c2 c3 c4
  have X := Lib.hid (keyword_9 w2)
  go_wp2_with fail
  refine X.out.mono ?_
  rintro e w9 ⟨rfl, rfl⟩
  clear X
  have X := Lib.hid (signs1 [105, 102] P2.out (by have := HF.out; simp at this ⊢; omega))
  go_wp2_with fail
  refine X.out.mono ?_
  rintro e w3 ⟨rfl, hp', hs'⟩
  have P3 := Lib.hid hp'
  have S3 := Lib.hid (S2.out.trans hs')
  have B3 := Lib.hid (B2.out.step hs')
  clear c0 c1 c2 c3 c4
  obtain ⟨c0, c1, c2, c3, c4⟩ := B3.out.nb.at
  clear hp' hs' P2 S2 B2 X
  simp only at c0 c1 c2 c3 c4
  have X := Lib.hid (HBR.out _ _ _ (ts ++ [sgn [105, 102]]) _ K1.out.1 H1.out K1.out.2 (by have := HF.out; simp at this ⊢; omega) P3.out)
  go_wp2_with (first
    | (refine wpList_load_mid rfl 29 (.tmp 2) rfl b 0 rfl [.int .i64 9, .int .i64 2, .string (strOf q), .int .i64 z, .string (strOf s)] _ B3.out.nb.cells Tryz.underlying29 rfl HI.out ?_)
    | fail)
  refine X.out.mono ?_
  rintro e w4 ⟨rfl, hp', hs'⟩
  have P4 := Lib.hid hp'
  have S4 := Lib.hid (S3.out.trans hs')
  have B4 := Lib.hid (B3.out.step hs')
  clear c0 c1 c2 c3 c4
  obtain ⟨c0, c1, c2, c3, c4⟩ := B4.out.nb.at
  clear hp' hs' P3 S3 B3 X
  simp only at c0 c1 c2 c3 c4
  go_wp2
  refine bodyPost_ret (results_none rfl _ _ _) rfl ?_
  exact ⟨rfl, by have := P4.out; simpa [List.append_assoc] using this, S4.out⟩

set_option maxHeartbeats 4000000 in
set_option maxRecDepth 100000 in
theorem stmt_10_2 {w0 : World} {g h B N : Nat} (hE : Prt w0 g h B 86 #[ptr g] [.nd .ex] N) (hBL : Prt w0 g h B 182 #[ptr g] [.nd .blk] N) (q : List UInt8) (z : Int) (s : List UInt8) {W : World} {r l' : List Nd} {ts o : List Tk} (hl : r.length < N) (hp : Prn [sg [119, 104, 105, 108, 101], .nd .ex, .nd .blk] r o l') (hn : FitN r) (hf : ts.length + o.length ≤ 99999990) (p : PW w0 g h B W (⟨10, 2, q, z, s⟩ :: r) ts) : Calls Tryz.prog 207 #[ptr g] W fun e W' => PrOk w0 g h B W l' (ts ++ o) e W' := by
  have HBR := Lib.hid (branches_prt2 hE hBL 10 2 q z s (by decide))
  have K1 := Lib.hid (And.intro hl hn)
  obtain ⟨_, rfl, hq1⟩ := hp.tok_inv
  clear hp
  obtain ⟨o1, _, l1, rfl, hp1, hq2⟩ := hq1.split [.nd .ex, .nd .blk] _ rfl
  clear hq1
  have H1 := Lib.hid hp1
  have K2 := Lib.hid (fit_len hp1 K1.out.1 K1.out.2)
  clear hp1
  cases hq2
  have P0 := Lib.hid p
  have S0 := Lib.hid (Step.refl g h W)
  have HF := Lib.hid hf
  have HB := Lib.hid p.hB
  clear p hf hl hn hE hBL
  have HI : Hid ((Tryz.prog.info? 29).map (·.size) = some [Value.int .i64 10, .int .i64 2, .string (strOf q), .int .i64 z, .string (strOf s)].length) := Lib.hid (n_info ⟨10, 2, q, z, s⟩)
  have HIA : Hid ((Tryz.prog.info? 29).map (·.size) = some (Nd.cells ⟨10, 2, q, z, s⟩).toArray.size) := Lib.hid (n_infoA _)
  have HLA : Hid ((Nd.cells ⟨10, 2, q, z, s⟩).toArray.all (·.oneCell') = true) := Lib.hid (n_all _)
  go_enter Tryz.func207, Tryz.ntmps207
  have X := Lib.hid (next_any P0.out)
  go_wp2_with fail
  refine X.out.mono ?_
  rintro e w1 ⟨rfl, hp', hs'⟩
  have P1 := Lib.hid hp'
  have S1 := Lib.hid (S0.out.trans hs')
  clear hp' hs' P0 S0 X
  simp only [Nd.cells]
  have HZN := Lib.hid (nb_zero w1)
  have HPN := Lib.hid (nb_put w1 ⟨10, 2, q, z, s⟩)
  have BN := Lib.hid (LB.start P1.out ⟨10, 2, q, z, s⟩)
  go_upto_region 1 with (first
    | (refine wpList_store_mid rfl 29 (.tmp 2) (.tmp 5) rfl w1.heap.size 0 (Nd.cells ⟨10, 2, q, z, s⟩).toArray rfl rfl HZN.out.room HIA.out HLA.out ?_; generalize World.setCells _ _ _ _ = w2 at HPN BN ⊢)
    | fail)
  have P2 := Lib.hid (P1.out.later HPN.out.2)
  have S2 := Lib.hid (S1.out.trans (P1.out.step HPN.out.2))
  obtain ⟨b, hb⟩ : ∃ b, b = w1.heap.size := ⟨_, rfl⟩
  rw [← hb] at BN ⊢
  have B2 := Lib.hid BN.out
  obtain ⟨c0, c1, c2, c3, c4⟩ := B2.out.nb.at
  clear HZN HPN BN hb P1 S1
  simp only at c0 c1 c2 c3 c4
  have X := Lib.hid (keyword_10 w2)
  go_wp2_with fail
  refine X.out.mono ?_
  rintro e w9 ⟨rfl, rfl⟩
  clear X
  have X := Lib.hid (signs1 [119, 104, 105, 108, 101] P2.out (by have := HF.out; simp at this ⊢; omega))
  go_wp2_with fail
  refine X.out.mono ?_
  rintro e w3 ⟨rfl, hp', hs'⟩
  have P3 := Lib.hid hp'
  have S3 := Lib.hid (S2.out.trans hs')
  have B3 := Lib.hid (B2.out.step hs')
  clear c0 c1 c2 c3 c4
  obtain ⟨c0, c1, c2, c3, c4⟩ := B3.out.nb.at
  clear hp' hs' P2 S2 B2 X
  simp only at c0 c1 c2 c3 c4
  have X := Lib.hid (HBR.out _ _ _ (ts ++ [sgn [119, 104, 105, 108, 101]]) _ K1.out.1 H1.out K1.out.2 (by have := HF.out; simp at this ⊢; omega) P3.out)
  go_wp2_with (first
    | (refine wpList_load_mid rfl 29 (.tmp 2) rfl b 0 rfl [.int .i64 10, .int .i64 2, .string (strOf q), .int .i64 z, .string (strOf s)] _ B3.out.nb.cells Tryz.underlying29 rfl HI.out ?_)
    | fail)
  refine X.out.mono ?_
  rintro e w4 ⟨rfl, hp', hs'⟩
  have P4 := Lib.hid hp'
  have S4 := Lib.hid (S3.out.trans hs')
  have B4 := Lib.hid (B3.out.step hs')
  clear c0 c1 c2 c3 c4
  obtain ⟨c0, c1, c2, c3, c4⟩ := B4.out.nb.at
  clear hp' hs' P3 S3 B3 X
  simp only at c0 c1 c2 c3 c4
  go_wp2
  refine bodyPost_ret (results_none rfl _ _ _) rfl ?_
  exact ⟨rfl, by have := P4.out; simpa [List.append_assoc] using this, S4.out⟩

end Go.Proofs.YtemlceicmpcboaaGreatDoor.Sw
