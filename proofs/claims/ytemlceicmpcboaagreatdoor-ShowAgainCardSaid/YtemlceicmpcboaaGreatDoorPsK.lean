/- The walks of the printer's expr, part, module, a kind each: their contracts. No condition but those that each states. -/
import Derived.Test.YtemlceicmpcboaaGreatDoorMgU
namespace Go.Proofs.YtemlceicmpcboaaGreatDoor.Sw
open Go.RowKit Dk Lx Tr Pa

theorem enters_show_expr : Pa.Enters 86 := fun _ _ => by kernel_rfl
theorem enters_show_param : Pa.Enters 181 := fun _ _ => by kernel_rfl

set_option maxHeartbeats 4000000 in
set_option maxRecDepth 100000 in
theorem expr_18 {w0 : World} {g h B N : Nat} (q : List UInt8) (z : Int) (s : List UInt8) {W : World} {r l' : List Nd} {ts o : List Tk} (hl : r.length < N) (hp : Prn [sg [110, 105, 108]] r o l') (hn : FitN r) (hf : ts.length + o.length ≤ 99999990) (p : PW w0 g h B W (⟨18, 0, q, z, s⟩ :: r) ts) : Calls Tryz.prog 86 #[ptr g] W fun e W' => PrOk w0 g h B W l' (ts ++ o) e W' := by
  have K1 := Lib.hid (And.intro hl hn)
  obtain ⟨_, rfl, hq1⟩ := hp.tok_inv
  clear hp
  cases hq1
  have P0 := Lib.hid p
  have S0 := Lib.hid (Step.refl g h W)
  have HF := Lib.hid hf
  have HB := Lib.hid p.hB
  clear p hf hl hn
  have HI : Hid ((Tryz.prog.info? 29).map (·.size) = some [Value.int .i64 18, .int .i64 0, .string (strOf q), .int .i64 z, .string (strOf s)].length) := Lib.hid (n_info ⟨18, 0, q, z, s⟩)
  have HIA : Hid ((Tryz.prog.info? 29).map (·.size) = some (Nd.cells ⟨18, 0, q, z, s⟩).toArray.size) := Lib.hid (n_infoA _)
  have HLA : Hid ((Nd.cells ⟨18, 0, q, z, s⟩).toArray.all (·.oneCell') = true) := Lib.hid (n_all _)
  go_enter Tryz.func86, Tryz.ntmps86
  have X := Lib.hid (next_any P0.out)
  go_wp2_with fail
  refine X.out.mono ?_
  rintro e w1 ⟨rfl, hp', hs'⟩
  have P1 := Lib.hid hp'
  have S1 := Lib.hid (S0.out.trans hs')
  clear hp' hs' P0 S0 X
  simp only [Nd.cells]
  have HZN := Lib.hid (nb_zero w1)
  have HPN := Lib.hid (nb_put w1 ⟨18, 0, q, z, s⟩)
  have BN := Lib.hid (LB.start P1.out ⟨18, 0, q, z, s⟩)
  go_upto_region 1 with (first
    | (refine wpList_store_mid rfl 29 (.tmp 2) (.tmp 4) rfl w1.heap.size 0 (Nd.cells ⟨18, 0, q, z, s⟩).toArray rfl rfl HZN.out.room HIA.out HLA.out ?_; generalize World.setCells _ _ _ _ = w2 at HPN BN ⊢)
    | fail)
  have P2 := Lib.hid (P1.out.later HPN.out.2)
  have S2 := Lib.hid (S1.out.trans (P1.out.step HPN.out.2))
  obtain ⟨b, hb⟩ : ∃ b, b = w1.heap.size := ⟨_, rfl⟩
  rw [← hb] at BN ⊢
  have B2 := Lib.hid BN.out
  obtain ⟨c0, c1, c2, c3, c4⟩ := B2.out.nb.at
  clear HZN HPN BN hb P1 S1
  simp only at c0 c1 c2 c3 c4
  have X := Lib.hid (signs1 [110, 105, 108] P2.out (by have := HF.out; simp at this ⊢; omega))
  go_wp2_with fail
  refine X.out.mono ?_
  rintro e w3 ⟨rfl, hp', hs'⟩
  have P3 := Lib.hid hp'
  have S3 := Lib.hid (S2.out.trans hs')
  have B3 := Lib.hid (B2.out.step hs')
  clear c0 c1 c2 c3 c4
  obtain ⟨c0, c1, c2, c3, c4⟩ := B3.out.nb.at
  clear hp' hs' P2 S2 B2 X
  simp only at c0 c1 c2 c3 c4
  go_wp2
  refine bodyPost_end (results_none rfl _ _ _) rfl ?_
  exact ⟨rfl, by have := P3.out; simpa [List.append_assoc] using this, S3.out⟩

set_option maxHeartbeats 4000000 in
set_option maxRecDepth 100000 in
theorem expr_29 {w0 : World} {g h B N : Nat} (q : List UInt8) (z : Int) (s : List UInt8) {W : World} {r l' : List Nd} {ts o : List Tk} (hl : r.length < N) (hp : Prn [sg [115, 116, 97, 116, 101]] r o l') (hn : FitN r) (hf : ts.length + o.length ≤ 99999990) (p : PW w0 g h B W (⟨29, 0, q, z, s⟩ :: r) ts) : Calls Tryz.prog 86 #[ptr g] W fun e W' => PrOk w0 g h B W l' (ts ++ o) e W' := by
  have K1 := Lib.hid (And.intro hl hn)
  obtain ⟨_, rfl, hq1⟩ := hp.tok_inv
  clear hp
  cases hq1
  have P0 := Lib.hid p
  have S0 := Lib.hid (Step.refl g h W)
  have HF := Lib.hid hf
  have HB := Lib.hid p.hB
  clear p hf hl hn
  have HI : Hid ((Tryz.prog.info? 29).map (·.size) = some [Value.int .i64 29, .int .i64 0, .string (strOf q), .int .i64 z, .string (strOf s)].length) := Lib.hid (n_info ⟨29, 0, q, z, s⟩)
  have HIA : Hid ((Tryz.prog.info? 29).map (·.size) = some (Nd.cells ⟨29, 0, q, z, s⟩).toArray.size) := Lib.hid (n_infoA _)
  have HLA : Hid ((Nd.cells ⟨29, 0, q, z, s⟩).toArray.all (·.oneCell') = true) := Lib.hid (n_all _)
  go_enter Tryz.func86, Tryz.ntmps86
  have X := Lib.hid (next_any P0.out)
  go_wp2_with fail
  refine X.out.mono ?_
  rintro e w1 ⟨rfl, hp', hs'⟩
  have P1 := Lib.hid hp'
  have S1 := Lib.hid (S0.out.trans hs')
  clear hp' hs' P0 S0 X
  simp only [Nd.cells]
  have HZN := Lib.hid (nb_zero w1)
  have HPN := Lib.hid (nb_put w1 ⟨29, 0, q, z, s⟩)
  have BN := Lib.hid (LB.start P1.out ⟨29, 0, q, z, s⟩)
  go_upto_region 1 with (first
    | (refine wpList_store_mid rfl 29 (.tmp 2) (.tmp 4) rfl w1.heap.size 0 (Nd.cells ⟨29, 0, q, z, s⟩).toArray rfl rfl HZN.out.room HIA.out HLA.out ?_; generalize World.setCells _ _ _ _ = w2 at HPN BN ⊢)
    | fail)
  have P2 := Lib.hid (P1.out.later HPN.out.2)
  have S2 := Lib.hid (S1.out.trans (P1.out.step HPN.out.2))
  obtain ⟨b, hb⟩ : ∃ b, b = w1.heap.size := ⟨_, rfl⟩
  rw [← hb] at BN ⊢
  have B2 := Lib.hid BN.out
  obtain ⟨c0, c1, c2, c3, c4⟩ := B2.out.nb.at
  clear HZN HPN BN hb P1 S1
  simp only at c0 c1 c2 c3 c4
  have X := Lib.hid (signs1 [115, 116, 97, 116, 101] P2.out (by have := HF.out; simp at this ⊢; omega))
  go_wp2_with fail
  refine X.out.mono ?_
  rintro e w3 ⟨rfl, hp', hs'⟩
  have P3 := Lib.hid hp'
  have S3 := Lib.hid (S2.out.trans hs')
  have B3 := Lib.hid (B2.out.step hs')
  clear c0 c1 c2 c3 c4
  obtain ⟨c0, c1, c2, c3, c4⟩ := B3.out.nb.at
  clear hp' hs' P2 S2 B2 X
  simp only at c0 c1 c2 c3 c4
  go_wp2
  refine bodyPost_end (results_none rfl _ _ _) rfl ?_
  exact ⟨rfl, by have := P3.out; simpa [List.append_assoc] using this, S3.out⟩

set_option maxHeartbeats 4000000 in
set_option maxRecDepth 100000 in
theorem expr_19 {w0 : World} {g h B N : Nat} (q : List UInt8) (z : Int) (s : List UInt8) (hT : HasT w0) (hz : -9223372036854775808 ≤ z ∧ z < 9223372036854775808) {W : World} {r l' : List Nd} {ts o : List Tk} (hl : r.length < N) (hp : Prn [it z] r o l') (hn : FitN r) (hf : ts.length + o.length ≤ 99999990) (p : PW w0 g h B W (⟨19, 0, q, z, s⟩ :: r) ts) : Calls Tryz.prog 86 #[ptr g] W fun e W' => PrOk w0 g h B W l' (ts ++ o) e W' := by
  have HT := Lib.hid hT
  have HZ := Lib.hid hz
  have K1 := Lib.hid (And.intro hl hn)
  obtain ⟨_, rfl, hq1⟩ := hp.tok_inv
  clear hp
  cases hq1
  have P0 := Lib.hid p
  have S0 := Lib.hid (Step.refl g h W)
  have HF := Lib.hid hf
  have HB := Lib.hid p.hB
  clear p hf hl hn hT hz
  have HI : Hid ((Tryz.prog.info? 29).map (·.size) = some [Value.int .i64 19, .int .i64 0, .string (strOf q), .int .i64 z, .string (strOf s)].length) := Lib.hid (n_info ⟨19, 0, q, z, s⟩)
  have HIA : Hid ((Tryz.prog.info? 29).map (·.size) = some (Nd.cells ⟨19, 0, q, z, s⟩).toArray.size) := Lib.hid (n_infoA _)
  have HLA : Hid ((Nd.cells ⟨19, 0, q, z, s⟩).toArray.all (·.oneCell') = true) := Lib.hid (n_all _)
  go_enter Tryz.func86, Tryz.ntmps86
  have X := Lib.hid (next_any P0.out)
  go_wp2_with fail
  refine X.out.mono ?_
  rintro e w1 ⟨rfl, hp', hs'⟩
  have P1 := Lib.hid hp'
  have S1 := Lib.hid (S0.out.trans hs')
  clear hp' hs' P0 S0 X
  simp only [Nd.cells]
  have HZN := Lib.hid (nb_zero w1)
  have HPN := Lib.hid (nb_put w1 ⟨19, 0, q, z, s⟩)
  have BN := Lib.hid (LB.start P1.out ⟨19, 0, q, z, s⟩)
  go_upto_region 1 with (first
    | (refine wpList_store_mid rfl 29 (.tmp 2) (.tmp 4) rfl w1.heap.size 0 (Nd.cells ⟨19, 0, q, z, s⟩).toArray rfl rfl HZN.out.room HIA.out HLA.out ?_; generalize World.setCells _ _ _ _ = w2 at HPN BN ⊢)
    | fail)
  have P2 := Lib.hid (P1.out.later HPN.out.2)
  have S2 := Lib.hid (S1.out.trans (P1.out.step HPN.out.2))
  obtain ⟨b, hb⟩ : ∃ b, b = w1.heap.size := ⟨_, rfl⟩
  rw [← hb] at BN ⊢
  have B2 := Lib.hid BN.out
  obtain ⟨c0, c1, c2, c3, c4⟩ := B2.out.nb.at
  clear HZN HPN BN hb P1 S1
  simp only at c0 c1 c2 c3 c4
  have X := Lib.hid (pnumber_any z HZ.out.1 HZ.out.2 HT.out P2.out (by have := HF.out; simp at this ⊢; omega))
  go_wp2_with fail
  refine X.out.mono ?_
  rintro e w3 ⟨rfl, hp', hs'⟩
  have P3 := Lib.hid hp'
  have S3 := Lib.hid (S2.out.trans hs')
  have B3 := Lib.hid (B2.out.step hs')
  clear c0 c1 c2 c3 c4
  obtain ⟨c0, c1, c2, c3, c4⟩ := B3.out.nb.at
  clear hp' hs' P2 S2 B2 X
  simp only at c0 c1 c2 c3 c4
  go_wp2
  refine bodyPost_end (results_none rfl _ _ _) rfl ?_
  exact ⟨rfl, by have := P3.out; simpa [List.append_assoc] using this, S3.out⟩

set_option maxHeartbeats 4000000 in
set_option maxRecDepth 100000 in
theorem expr_20 {w0 : World} {g h B N : Nat} (q : List UInt8) (z : Int) (s : List UInt8) {W : World} {r l' : List Nd} {ts o : List Tk} (hl : r.length < N) (hp : Prn [.tok (txT s)] r o l') (hn : FitN r) (hf : ts.length + o.length ≤ 99999990) (p : PW w0 g h B W (⟨20, 0, q, z, s⟩ :: r) ts) : Calls Tryz.prog 86 #[ptr g] W fun e W' => PrOk w0 g h B W l' (ts ++ o) e W' := by
  have K1 := Lib.hid (And.intro hl hn)
  obtain ⟨_, rfl, hq1⟩ := hp.tok_inv
  clear hp
  cases hq1
  have P0 := Lib.hid p
  have S0 := Lib.hid (Step.refl g h W)
  have HF := Lib.hid hf
  have HB := Lib.hid p.hB
  clear p hf hl hn
  have HI : Hid ((Tryz.prog.info? 29).map (·.size) = some [Value.int .i64 20, .int .i64 0, .string (strOf q), .int .i64 z, .string (strOf s)].length) := Lib.hid (n_info ⟨20, 0, q, z, s⟩)
  have HIA : Hid ((Tryz.prog.info? 29).map (·.size) = some (Nd.cells ⟨20, 0, q, z, s⟩).toArray.size) := Lib.hid (n_infoA _)
  have HLA : Hid ((Nd.cells ⟨20, 0, q, z, s⟩).toArray.all (·.oneCell') = true) := Lib.hid (n_all _)
  go_enter Tryz.func86, Tryz.ntmps86
  have X := Lib.hid (next_any P0.out)
  go_wp2_with fail
  refine X.out.mono ?_
  rintro e w1 ⟨rfl, hp', hs'⟩
  have P1 := Lib.hid hp'
  have S1 := Lib.hid (S0.out.trans hs')
  clear hp' hs' P0 S0 X
  simp only [Nd.cells]
  have HZN := Lib.hid (nb_zero w1)
  have HPN := Lib.hid (nb_put w1 ⟨20, 0, q, z, s⟩)
  have BN := Lib.hid (LB.start P1.out ⟨20, 0, q, z, s⟩)
  go_upto_region 1 with (first
    | (refine wpList_store_mid rfl 29 (.tmp 2) (.tmp 4) rfl w1.heap.size 0 (Nd.cells ⟨20, 0, q, z, s⟩).toArray rfl rfl HZN.out.room HIA.out HLA.out ?_; generalize World.setCells _ _ _ _ = w2 at HPN BN ⊢)
    | fail)
  have P2 := Lib.hid (P1.out.later HPN.out.2)
  have S2 := Lib.hid (S1.out.trans (P1.out.step HPN.out.2))
  obtain ⟨b, hb⟩ : ∃ b, b = w1.heap.size := ⟨_, rfl⟩
  rw [← hb] at BN ⊢
  have B2 := Lib.hid BN.out
  obtain ⟨c0, c1, c2, c3, c4⟩ := B2.out.nb.at
  clear HZN HPN BN hb P1 S1
  simp only at c0 c1 c2 c3 c4
  go_upto_region 9 with fail
  have hpc := P2.out.cells
  have HAD := Lib.hid (fun W1 (hp1 : PW w0 g h B W1 r ts) => add_any (txT s) hp1 (by have := HF.out; simp at this ⊢; omega))
  unfold txT at HAD
  simp only [Tk.cells] at HAD
  go_region_law (go_simp; go_at_call 87; refine (HAD.out _ (P2.out.later (Below.refl w2.heap.size w2).drew)).mono ?_; rintro e w9 ⟨rfl, hp2, hs2⟩; have P9 := Lib.hid hp2; have S9 := Lib.hid ((S2.out.trans (P2.out.step (Below.refl w2.heap.size w2).drew)).trans hs2); clear hp2 hs2)
  all_goals
    go_wp2
    refine bodyPost_end (results_none rfl _ _ _) rfl ?_
    exact ⟨rfl, P9.out, S9.out⟩

set_option maxHeartbeats 4000000 in
set_option maxRecDepth 100000 in
theorem expr_21 {w0 : World} {g h B N : Nat} (q : List UInt8) (z : Int) (s : List UInt8) {W : World} {r l' : List Nd} {ts o : List Tk} (hl : r.length < N) (hp : Prn [nm q] r o l') (hn : FitN r) (hf : ts.length + o.length ≤ 99999990) (p : PW w0 g h B W (⟨21, 0, q, z, s⟩ :: r) ts) : Calls Tryz.prog 86 #[ptr g] W fun e W' => PrOk w0 g h B W l' (ts ++ o) e W' := by
  have K1 := Lib.hid (And.intro hl hn)
  obtain ⟨_, rfl, hq1⟩ := hp.tok_inv
  clear hp
  cases hq1
  have P0 := Lib.hid p
  have S0 := Lib.hid (Step.refl g h W)
  have HF := Lib.hid hf
  have HB := Lib.hid p.hB
  clear p hf hl hn
  have HI : Hid ((Tryz.prog.info? 29).map (·.size) = some [Value.int .i64 21, .int .i64 0, .string (strOf q), .int .i64 z, .string (strOf s)].length) := Lib.hid (n_info ⟨21, 0, q, z, s⟩)
  have HIA : Hid ((Tryz.prog.info? 29).map (·.size) = some (Nd.cells ⟨21, 0, q, z, s⟩).toArray.size) := Lib.hid (n_infoA _)
  have HLA : Hid ((Nd.cells ⟨21, 0, q, z, s⟩).toArray.all (·.oneCell') = true) := Lib.hid (n_all _)
  go_enter Tryz.func86, Tryz.ntmps86
  have X := Lib.hid (next_any P0.out)
  go_wp2_with fail
  refine X.out.mono ?_
  rintro e w1 ⟨rfl, hp', hs'⟩
  have P1 := Lib.hid hp'
  have S1 := Lib.hid (S0.out.trans hs')
  clear hp' hs' P0 S0 X
  simp only [Nd.cells]
  have HZN := Lib.hid (nb_zero w1)
  have HPN := Lib.hid (nb_put w1 ⟨21, 0, q, z, s⟩)
  have BN := Lib.hid (LB.start P1.out ⟨21, 0, q, z, s⟩)
  go_upto_region 1 with (first
    | (refine wpList_store_mid rfl 29 (.tmp 2) (.tmp 4) rfl w1.heap.size 0 (Nd.cells ⟨21, 0, q, z, s⟩).toArray rfl rfl HZN.out.room HIA.out HLA.out ?_; generalize World.setCells _ _ _ _ = w2 at HPN BN ⊢)
    | fail)
  have P2 := Lib.hid (P1.out.later HPN.out.2)
  have S2 := Lib.hid (S1.out.trans (P1.out.step HPN.out.2))
  obtain ⟨b, hb⟩ : ∃ b, b = w1.heap.size := ⟨_, rfl⟩
  rw [← hb] at BN ⊢
  have B2 := Lib.hid BN.out
  obtain ⟨c0, c1, c2, c3, c4⟩ := B2.out.nb.at
  clear HZN HPN BN hb P1 S1
  simp only at c0 c1 c2 c3 c4
  have X := Lib.hid (pname_any q P2.out (by have := HF.out; simp at this ⊢; omega))
  go_wp2_with fail
  refine X.out.mono ?_
  rintro e w3 ⟨rfl, hp', hs'⟩
  have P3 := Lib.hid hp'
  have S3 := Lib.hid (S2.out.trans hs')
  have B3 := Lib.hid (B2.out.step hs')
  clear c0 c1 c2 c3 c4
  obtain ⟨c0, c1, c2, c3, c4⟩ := B3.out.nb.at
  clear hp' hs' P2 S2 B2 X
  simp only at c0 c1 c2 c3 c4
  go_wp2
  refine bodyPost_end (results_none rfl _ _ _) rfl ?_
  exact ⟨rfl, by have := P3.out; simpa [List.append_assoc] using this, S3.out⟩

set_option maxHeartbeats 4000000 in
set_option maxRecDepth 100000 in
theorem expr_25 {w0 : World} {g h B N : Nat} (q : List UInt8) (z : Int) (s : List UInt8) {W : World} {r l' : List Nd} {ts o : List Tk} (hl : r.length < N) (hp : Prn [sg [123], sg [125]] r o l') (hn : FitN r) (hf : ts.length + o.length ≤ 99999990) (p : PW w0 g h B W (⟨25, 0, q, z, s⟩ :: r) ts) : Calls Tryz.prog 86 #[ptr g] W fun e W' => PrOk w0 g h B W l' (ts ++ o) e W' := by
  have K1 := Lib.hid (And.intro hl hn)
  obtain ⟨_, rfl, hq1⟩ := hp.tok_inv
  clear hp
  obtain ⟨_, rfl, hq2⟩ := hq1.tok_inv
  clear hq1
  cases hq2
  have P0 := Lib.hid p
  have S0 := Lib.hid (Step.refl g h W)
  have HF := Lib.hid hf
  have HB := Lib.hid p.hB
  clear p hf hl hn
  have HI : Hid ((Tryz.prog.info? 29).map (·.size) = some [Value.int .i64 25, .int .i64 0, .string (strOf q), .int .i64 z, .string (strOf s)].length) := Lib.hid (n_info ⟨25, 0, q, z, s⟩)
  have HIA : Hid ((Tryz.prog.info? 29).map (·.size) = some (Nd.cells ⟨25, 0, q, z, s⟩).toArray.size) := Lib.hid (n_infoA _)
  have HLA : Hid ((Nd.cells ⟨25, 0, q, z, s⟩).toArray.all (·.oneCell') = true) := Lib.hid (n_all _)
  go_enter Tryz.func86, Tryz.ntmps86
  have X := Lib.hid (next_any P0.out)
  go_wp2_with fail
  refine X.out.mono ?_
  rintro e w1 ⟨rfl, hp', hs'⟩
  have P1 := Lib.hid hp'
  have S1 := Lib.hid (S0.out.trans hs')
  clear hp' hs' P0 S0 X
  simp only [Nd.cells]
  have HZN := Lib.hid (nb_zero w1)
  have HPN := Lib.hid (nb_put w1 ⟨25, 0, q, z, s⟩)
  have BN := Lib.hid (LB.start P1.out ⟨25, 0, q, z, s⟩)
  go_upto_region 1 with (first
    | (refine wpList_store_mid rfl 29 (.tmp 2) (.tmp 4) rfl w1.heap.size 0 (Nd.cells ⟨25, 0, q, z, s⟩).toArray rfl rfl HZN.out.room HIA.out HLA.out ?_; generalize World.setCells _ _ _ _ = w2 at HPN BN ⊢)
    | fail)
  have P2 := Lib.hid (P1.out.later HPN.out.2)
  have S2 := Lib.hid (S1.out.trans (P1.out.step HPN.out.2))
  obtain ⟨b, hb⟩ : ∃ b, b = w1.heap.size := ⟨_, rfl⟩
  rw [← hb] at BN ⊢
  have B2 := Lib.hid BN.out
  obtain ⟨c0, c1, c2, c3, c4⟩ := B2.out.nb.at
  clear HZN HPN BN hb P1 S1
  simp only at c0 c1 c2 c3 c4
  have X := Lib.hid (signs2 [123] [125] P2.out (by have := HF.out; simp at this ⊢; omega))
  go_wp2_with fail
  refine X.out.mono ?_
  rintro e w3 ⟨rfl, hp', hs'⟩
  have P3 := Lib.hid hp'
  have S3 := Lib.hid (S2.out.trans hs')
  have B3 := Lib.hid (B2.out.step hs')
  clear c0 c1 c2 c3 c4
  obtain ⟨c0, c1, c2, c3, c4⟩ := B3.out.nb.at
  clear hp' hs' P2 S2 B2 X
  simp only at c0 c1 c2 c3 c4
  go_wp2
  refine bodyPost_end (results_none rfl _ _ _) rfl ?_
  exact ⟨rfl, by have := P3.out; simpa [List.append_assoc] using this, S3.out⟩

set_option maxHeartbeats 4000000 in
set_option maxRecDepth 100000 in
theorem expr_24 {w0 : World} {g h B N : Nat} (q : List UInt8) (z : Int) (s : List UInt8) (hBL : Prt w0 g h B 182 #[ptr g] [.nd .blk] N) (d : Int) (hd : 1 ≤ d ∧ d ≤ 100000) {W : World} {r l' : List Nd} {ts o : List Tk} (hl : r.length < N) (hp : Prn (sg [102, 110] :: fnX d.toNat) r o l') (hn : FitN r) (hf : ts.length + o.length ≤ 99999990) (p : PW w0 g h B W (⟨24, d, q, z, s⟩ :: r) ts) : Calls Tryz.prog 86 #[ptr g] W fun e W' => PrOk w0 g h B W l' (ts ++ o) e W' := by
  have HFN := Lib.hid (function_prt hBL 24 d q z s hd (list_prt _ enters_show_param .par (d.toNat - 1) (by omega) param_prt))
  have K1 := Lib.hid (And.intro hl hn)
  obtain ⟨_, rfl, hq1⟩ := hp.tok_inv
  clear hp
  obtain ⟨o1, _, l1, rfl, hp1, hq2⟩ := hq1.split (fnX d.toNat) [] (List.append_nil _).symm
  clear hq1
  have H1 := Lib.hid hp1
  have K2 := Lib.hid (fit_len hp1 K1.out.1 K1.out.2)
  clear hp1
  cases hq2
  have P0 := Lib.hid p
  have S0 := Lib.hid (Step.refl g h W)
  have HF := Lib.hid hf
  have HB := Lib.hid p.hB
  clear p hf hl hn hBL hd
  have HI : Hid ((Tryz.prog.info? 29).map (·.size) = some [Value.int .i64 24, .int .i64 d, .string (strOf q), .int .i64 z, .string (strOf s)].length) := Lib.hid (n_info ⟨24, d, q, z, s⟩)
  have HIA : Hid ((Tryz.prog.info? 29).map (·.size) = some (Nd.cells ⟨24, d, q, z, s⟩).toArray.size) := Lib.hid (n_infoA _)
  have HLA : Hid ((Nd.cells ⟨24, d, q, z, s⟩).toArray.all (·.oneCell') = true) := Lib.hid (n_all _)
  go_enter Tryz.func86, Tryz.ntmps86
  have X := Lib.hid (next_any P0.out)
  go_wp2_with fail
  refine X.out.mono ?_
  rintro e w1 ⟨rfl, hp', hs'⟩
  have P1 := Lib.hid hp'
  have S1 := Lib.hid (S0.out.trans hs')
  clear hp' hs' P0 S0 X
  simp only [Nd.cells]
  have HZN := Lib.hid (nb_zero w1)
  have HPN := Lib.hid (nb_put w1 ⟨24, d, q, z, s⟩)
  have BN := Lib.hid (LB.start P1.out ⟨24, d, q, z, s⟩)
  go_upto_region 1 with (first
    | (refine wpList_store_mid rfl 29 (.tmp 2) (.tmp 4) rfl w1.heap.size 0 (Nd.cells ⟨24, d, q, z, s⟩).toArray rfl rfl HZN.out.room HIA.out HLA.out ?_; generalize World.setCells _ _ _ _ = w2 at HPN BN ⊢)
    | fail)
  have P2 := Lib.hid (P1.out.later HPN.out.2)
  have S2 := Lib.hid (S1.out.trans (P1.out.step HPN.out.2))
  obtain ⟨b, hb⟩ : ∃ b, b = w1.heap.size := ⟨_, rfl⟩
  rw [← hb] at BN ⊢
  have B2 := Lib.hid BN.out
  obtain ⟨c0, c1, c2, c3, c4⟩ := B2.out.nb.at
  clear HZN HPN BN hb P1 S1
  simp only at c0 c1 c2 c3 c4
  have X := Lib.hid (signs1 [102, 110] P2.out (by have := HF.out; simp at this ⊢; omega))
  go_wp2_with fail
  refine X.out.mono ?_
  rintro e w3 ⟨rfl, hp', hs'⟩
  have P3 := Lib.hid hp'
  have S3 := Lib.hid (S2.out.trans hs')
  have B3 := Lib.hid (B2.out.step hs')
  clear c0 c1 c2 c3 c4
  obtain ⟨c0, c1, c2, c3, c4⟩ := B3.out.nb.at
  clear hp' hs' P2 S2 B2 X
  simp only at c0 c1 c2 c3 c4
  have X := Lib.hid (HFN.out _ _ _ (ts ++ [sgn [102, 110]]) _ K1.out.1 H1.out K1.out.2 (by have := HF.out; simp at this ⊢; omega) P3.out)
  go_wp2_with (first
    | (refine wpList_load_mid rfl 29 (.tmp 2) rfl b 0 rfl [.int .i64 24, .int .i64 d, .string (strOf q), .int .i64 z, .string (strOf s)] _ B3.out.nb.cells Tryz.underlying29 rfl HI.out ?_)
    | fail)
  refine X.out.mono ?_
  rintro e w4 ⟨rfl, hp', hs'⟩
  have P4 := Lib.hid hp'
  have S4 := Lib.hid (S3.out.trans hs')
  have B4 := Lib.hid (B3.out.step hs')
  clear c0 c1 c2 c3 c4
  obtain ⟨c0, c1, c2, c3, c4⟩ := B4.out.nb.at
  clear hp' hs' P3 S3 B3 X
  simp only at c0 c1 c2 c3 c4
  go_wp2
  refine bodyPost_end (results_none rfl _ _ _) rfl ?_
  exact ⟨rfl, by have := P4.out; simpa [List.append_assoc] using this, S4.out⟩

set_option maxHeartbeats 4000000 in
set_option maxRecDepth 100000 in
theorem expr_26 {w0 : World} {g h B N : Nat} (q : List UInt8) (z : Int) (s : List UInt8) (hE : Prt w0 g h B 86 #[ptr g] [.nd .ex] N) {W : World} {r l' : List Nd} {ts o : List Tk} (hl : r.length < N) (hp : Prn [.nd .ex, sg [91], .nd .ex, sg [93]] r o l') (hn : FitN r) (hf : ts.length + o.length ≤ 99999990) (p : PW w0 g h B W (⟨26, 2, q, z, s⟩ :: r) ts) : Calls Tryz.prog 86 #[ptr g] W fun e W' => PrOk w0 g h B W l' (ts ++ o) e W' := by
  have HIX := Lib.hid (index_prt hE)
  have K1 := Lib.hid (And.intro hl hn)
  obtain ⟨o1, _, l1, rfl, hp1, hq1⟩ := hp.split [.nd .ex, sg [91], .nd .ex, sg [93]] _ rfl
  clear hp
  have H1 := Lib.hid hp1
  have K2 := Lib.hid (fit_len hp1 K1.out.1 K1.out.2)
  clear hp1
  cases hq1
  have P0 := Lib.hid p
  have S0 := Lib.hid (Step.refl g h W)
  have HF := Lib.hid hf
  have HB := Lib.hid p.hB
  clear p hf hl hn hE
  have HI : Hid ((Tryz.prog.info? 29).map (·.size) = some [Value.int .i64 26, .int .i64 2, .string (strOf q), .int .i64 z, .string (strOf s)].length) := Lib.hid (n_info ⟨26, 2, q, z, s⟩)
  have HIA : Hid ((Tryz.prog.info? 29).map (·.size) = some (Nd.cells ⟨26, 2, q, z, s⟩).toArray.size) := Lib.hid (n_infoA _)
  have HLA : Hid ((Nd.cells ⟨26, 2, q, z, s⟩).toArray.all (·.oneCell') = true) := Lib.hid (n_all _)
  go_enter Tryz.func86, Tryz.ntmps86
  have X := Lib.hid (next_any P0.out)
  go_wp2_with fail
  refine X.out.mono ?_
  rintro e w1 ⟨rfl, hp', hs'⟩
  have P1 := Lib.hid hp'
  have S1 := Lib.hid (S0.out.trans hs')
  clear hp' hs' P0 S0 X
  simp only [Nd.cells]
  have HZN := Lib.hid (nb_zero w1)
  have HPN := Lib.hid (nb_put w1 ⟨26, 2, q, z, s⟩)
  have BN := Lib.hid (LB.start P1.out ⟨26, 2, q, z, s⟩)
  go_upto_region 1 with (first
    | (refine wpList_store_mid rfl 29 (.tmp 2) (.tmp 4) rfl w1.heap.size 0 (Nd.cells ⟨26, 2, q, z, s⟩).toArray rfl rfl HZN.out.room HIA.out HLA.out ?_; generalize World.setCells _ _ _ _ = w2 at HPN BN ⊢)
    | fail)
  have P2 := Lib.hid (P1.out.later HPN.out.2)
  have S2 := Lib.hid (S1.out.trans (P1.out.step HPN.out.2))
  obtain ⟨b, hb⟩ : ∃ b, b = w1.heap.size := ⟨_, rfl⟩
  rw [← hb] at BN ⊢
  have B2 := Lib.hid BN.out
  obtain ⟨c0, c1, c2, c3, c4⟩ := B2.out.nb.at
  clear HZN HPN BN hb P1 S1
  simp only at c0 c1 c2 c3 c4
  have X := Lib.hid (HIX.out _ _ _ ts _ K1.out.1 H1.out K1.out.2 (by have := HF.out; simp at this ⊢; omega) P2.out)
  go_wp2_with fail
  refine X.out.mono ?_
  rintro e w3 ⟨rfl, hp', hs'⟩
  have P3 := Lib.hid hp'
  have S3 := Lib.hid (S2.out.trans hs')
  have B3 := Lib.hid (B2.out.step hs')
  clear c0 c1 c2 c3 c4
  obtain ⟨c0, c1, c2, c3, c4⟩ := B3.out.nb.at
  clear hp' hs' P2 S2 B2 X
  simp only at c0 c1 c2 c3 c4
  go_wp2
  refine bodyPost_end (results_none rfl _ _ _) rfl ?_
  exact ⟨rfl, by have := P3.out; simpa [List.append_assoc] using this, S3.out⟩

set_option maxHeartbeats 4000000 in
set_option maxRecDepth 100000 in
theorem expr_22 {w0 : World} {g h B N : Nat} (q : List UInt8) (z : Int) (s : List UInt8) (hE : Prt w0 g h B 86 #[ptr g] [.nd .ex] N) (n : Nat) (hn6 : n ≤ 100000) {W : World} {r l' : List Nd} {ts o : List Tk} (hl : r.length < N) (hp : Prn (.nd .ex :: lstX .ex n) r o l') (hn : FitN r) (hf : ts.length + o.length ≤ 99999990) (p : PW w0 g h B W (⟨22, ((n + 1 : Nat) : Int), q, z, s⟩ :: r) ts) : Calls Tryz.prog 86 #[ptr g] W fun e W' => PrOk w0 g h B W l' (ts ++ o) e W' := by
  have HE := Lib.hid hE
  have HL := Lib.hid (list_prt _ enters_show_expr .ex n (by omega) hE)
  have e9 : IntKind.i64.wrap (((n + 1 : Nat) : Int) - 1) = (n : Int) := by rw [wrap_in _ (by omega)]; omega
  have K1 := Lib.hid (And.intro hl hn)
  obtain ⟨o1, _, l1, rfl, hp1, hq1⟩ := hp.nd_cons
  clear hp
  have H1 := Lib.hid hp1
  have K2 := Lib.hid (fit_len hp1 K1.out.1 K1.out.2)
  clear hp1
  obtain ⟨o2, _, l2, rfl, hp2, hq2⟩ := hq1.split (lstX .ex n) [] (List.append_nil _).symm
  clear hq1
  have H2 := Lib.hid hp2
  have K3 := Lib.hid (fit_len hp2 K2.out.1 K2.out.2)
  clear hp2
  cases hq2
  have P0 := Lib.hid p
  have S0 := Lib.hid (Step.refl g h W)
  have HF := Lib.hid hf
  have HB := Lib.hid p.hB
  clear p hf hl hn hE
  have HI : Hid ((Tryz.prog.info? 29).map (·.size) = some [Value.int .i64 22, .int .i64 ((n + 1 : Nat) : Int), .string (strOf q), .int .i64 z, .string (strOf s)].length) := Lib.hid (n_info ⟨22, ((n + 1 : Nat) : Int), q, z, s⟩)
  have HIA : Hid ((Tryz.prog.info? 29).map (·.size) = some (Nd.cells ⟨22, ((n + 1 : Nat) : Int), q, z, s⟩).toArray.size) := Lib.hid (n_infoA _)
  have HLA : Hid ((Nd.cells ⟨22, ((n + 1 : Nat) : Int), q, z, s⟩).toArray.all (·.oneCell') = true) := Lib.hid (n_all _)
  go_enter Tryz.func86, Tryz.ntmps86
  have X := Lib.hid (next_any P0.out)
  go_wp2_with fail
  refine X.out.mono ?_
  rintro e w1 ⟨rfl, hp', hs'⟩
  have P1 := Lib.hid hp'
  have S1 := Lib.hid (S0.out.trans hs')
  clear hp' hs' P0 S0 X
  simp only [Nd.cells]
  have HZN := Lib.hid (nb_zero w1)
  have HPN := Lib.hid (nb_put w1 ⟨22, ((n + 1 : Nat) : Int), q, z, s⟩)
  have BN := Lib.hid (LB.start P1.out ⟨22, ((n + 1 : Nat) : Int), q, z, s⟩)
  go_upto_region 1 with (first
    | (refine wpList_store_mid rfl 29 (.tmp 2) (.tmp 4) rfl w1.heap.size 0 (Nd.cells ⟨22, ((n + 1 : Nat) : Int), q, z, s⟩).toArray rfl rfl HZN.out.room HIA.out HLA.out ?_; generalize World.setCells _ _ _ _ = w2 at HPN BN ⊢)
    | fail)
  have P2 := Lib.hid (P1.out.later HPN.out.2)
  have S2 := Lib.hid (S1.out.trans (P1.out.step HPN.out.2))
  obtain ⟨b, hb⟩ : ∃ b, b = w1.heap.size := ⟨_, rfl⟩
  rw [← hb] at BN ⊢
  have B2 := Lib.hid BN.out
  obtain ⟨c0, c1, c2, c3, c4⟩ := B2.out.nb.at
  clear HZN HPN BN hb P1 S1
  simp only at c0 c1 c2 c3 c4
  have X := Lib.hid (HE.out _ _ _ ts _ K1.out.1 H1.out K1.out.2 (by have := HF.out; simp at this ⊢; omega) P2.out)
  go_wp2_with fail
  refine X.out.mono ?_
  rintro e w3 ⟨rfl, hp', hs'⟩
  have P3 := Lib.hid hp'
  have S3 := Lib.hid (S2.out.trans hs')
  have B3 := Lib.hid (B2.out.step hs')
  clear c0 c1 c2 c3 c4
  obtain ⟨c0, c1, c2, c3, c4⟩ := B3.out.nb.at
  clear hp' hs' P2 S2 B2 X
  simp only at c0 c1 c2 c3 c4
  have X := Lib.hid (HL.out _ _ _ (ts ++ o1) _ K2.out.1 H2.out K2.out.2 (by have := HF.out; simp at this ⊢; omega) P3.out)
  go_wp2_with fail
  refine X.out.mono ?_
  rintro e w4 ⟨rfl, hp', hs'⟩
  have P4 := Lib.hid hp'
  have S4 := Lib.hid (S3.out.trans hs')
  have B4 := Lib.hid (B3.out.step hs')
  clear c0 c1 c2 c3 c4
  obtain ⟨c0, c1, c2, c3, c4⟩ := B4.out.nb.at
  clear hp' hs' P3 S3 B3 X
  simp only at c0 c1 c2 c3 c4
  go_wp2
  refine bodyPost_end (results_none rfl _ _ _) rfl ?_
  exact ⟨rfl, by have := P4.out; simpa [List.append_assoc] using this, S4.out⟩

set_option maxHeartbeats 4000000 in
set_option maxRecDepth 100000 in
theorem expr_23 {w0 : World} {g h B N : Nat} (q : List UInt8) (z : Int) (s : List UInt8) (hE : Prt w0 g h B 86 #[ptr g] [.nd .ex] N) (n : Nat) (hn6 : n ≤ 100000) {W : World} {r l' : List Nd} {ts o : List Tk} (hl : r.length < N) (hp : Prn ([nm q, sg [46], nm s] ++ lstX .ex n) r o l') (hn : FitN r) (hf : ts.length + o.length ≤ 99999990) (p : PW w0 g h B W (⟨23, (n : Int), q, z, s⟩ :: r) ts) : Calls Tryz.prog 86 #[ptr g] W fun e W' => PrOk w0 g h B W l' (ts ++ o) e W' := by
  have HO := Lib.hid (outer_prt (w0 := w0) (g := g) (h := h) (B := B) (N := N) 23 (n : Int) q z s)
  have HL := Lib.hid (list_prt _ enters_show_expr .ex n (by omega) hE)
  have K1 := Lib.hid (And.intro hl hn)
  obtain ⟨o1, _, l1, rfl, hp1, hq1⟩ := hp.split [nm q, sg [46], nm s] _ rfl
  clear hp
  have H1 := Lib.hid hp1
  have K2 := Lib.hid (fit_len hp1 K1.out.1 K1.out.2)
  clear hp1
  obtain ⟨o2, _, l2, rfl, hp2, hq2⟩ := hq1.split (lstX .ex n) [] (List.append_nil _).symm
  clear hq1
  have H2 := Lib.hid hp2
  have K3 := Lib.hid (fit_len hp2 K2.out.1 K2.out.2)
  clear hp2
  cases hq2
  have P0 := Lib.hid p
  have S0 := Lib.hid (Step.refl g h W)
  have HF := Lib.hid hf
  have HB := Lib.hid p.hB
  clear p hf hl hn hE
  have HI : Hid ((Tryz.prog.info? 29).map (·.size) = some [Value.int .i64 23, .int .i64 (n : Int), .string (strOf q), .int .i64 z, .string (strOf s)].length) := Lib.hid (n_info ⟨23, (n : Int), q, z, s⟩)
  have HIA : Hid ((Tryz.prog.info? 29).map (·.size) = some (Nd.cells ⟨23, (n : Int), q, z, s⟩).toArray.size) := Lib.hid (n_infoA _)
  have HLA : Hid ((Nd.cells ⟨23, (n : Int), q, z, s⟩).toArray.all (·.oneCell') = true) := Lib.hid (n_all _)
  go_enter Tryz.func86, Tryz.ntmps86
  have X := Lib.hid (next_any P0.out)
  go_wp2_with fail
  refine X.out.mono ?_
  rintro e w1 ⟨rfl, hp', hs'⟩
  have P1 := Lib.hid hp'
  have S1 := Lib.hid (S0.out.trans hs')
  clear hp' hs' P0 S0 X
  simp only [Nd.cells]
  have HZN := Lib.hid (nb_zero w1)
  have HPN := Lib.hid (nb_put w1 ⟨23, (n : Int), q, z, s⟩)
  have BN := Lib.hid (LB.start P1.out ⟨23, (n : Int), q, z, s⟩)
  go_upto_region 1 with (first
    | (refine wpList_store_mid rfl 29 (.tmp 2) (.tmp 4) rfl w1.heap.size 0 (Nd.cells ⟨23, (n : Int), q, z, s⟩).toArray rfl rfl HZN.out.room HIA.out HLA.out ?_; generalize World.setCells _ _ _ _ = w2 at HPN BN ⊢)
    | fail)
  have P2 := Lib.hid (P1.out.later HPN.out.2)
  have S2 := Lib.hid (S1.out.trans (P1.out.step HPN.out.2))
  obtain ⟨b, hb⟩ : ∃ b, b = w1.heap.size := ⟨_, rfl⟩
  rw [← hb] at BN ⊢
  have B2 := Lib.hid BN.out
  obtain ⟨c0, c1, c2, c3, c4⟩ := B2.out.nb.at
  clear HZN HPN BN hb P1 S1
  simp only at c0 c1 c2 c3 c4
  have X := Lib.hid (HO.out _ _ _ ts _ K1.out.1 H1.out K1.out.2 (by have := HF.out; simp at this ⊢; omega) P2.out)
  go_wp2_with (first
    | (refine wpList_load_mid rfl 29 (.tmp 2) rfl b 0 rfl [.int .i64 23, .int .i64 (n : Int), .string (strOf q), .int .i64 z, .string (strOf s)] _ B2.out.nb.cells Tryz.underlying29 rfl HI.out ?_)
    | fail)
  refine X.out.mono ?_
  rintro e w3 ⟨rfl, hp', hs'⟩
  have P3 := Lib.hid hp'
  have S3 := Lib.hid (S2.out.trans hs')
  have B3 := Lib.hid (B2.out.step hs')
  clear c0 c1 c2 c3 c4
  obtain ⟨c0, c1, c2, c3, c4⟩ := B3.out.nb.at
  clear hp' hs' P2 S2 B2 X
  simp only at c0 c1 c2 c3 c4
  have X := Lib.hid (HL.out _ _ _ (ts ++ o1) _ K2.out.1 H2.out K2.out.2 (by have := HF.out; simp at this ⊢; omega) P3.out)
  go_wp2_with fail
  refine X.out.mono ?_
  rintro e w4 ⟨rfl, hp', hs'⟩
  have P4 := Lib.hid hp'
  have S4 := Lib.hid (S3.out.trans hs')
  have B4 := Lib.hid (B3.out.step hs')
  clear c0 c1 c2 c3 c4
  obtain ⟨c0, c1, c2, c3, c4⟩ := B4.out.nb.at
  clear hp' hs' P3 S3 B3 X
  simp only at c0 c1 c2 c3 c4
  go_wp2
  refine bodyPost_end (results_none rfl _ _ _) rfl ?_
  exact ⟨rfl, by have := P4.out; simpa [List.append_assoc] using this, S4.out⟩

set_option maxHeartbeats 4000000 in
set_option maxRecDepth 100000 in
theorem expr_27 {w0 : World} {g h B N : Nat} (q : List UInt8) (z : Int) (s : List UInt8) (hE : Prt w0 g h B 86 #[ptr g] [.nd .ex] N) {W : World} {r l' : List Nd} {ts o : List Tk} (hl : r.length < N) (hp : Prn [sg [40], .nd .ex, sg s, .nd .ex, sg [41]] r o l') (hn : FitN r) (hf : ts.length + o.length ≤ 99999990) (p : PW w0 g h B W (⟨27, 2, q, z, s⟩ :: r) ts) : Calls Tryz.prog 86 #[ptr g] W fun e W' => PrOk w0 g h B W l' (ts ++ o) e W' := by
  have HE := Lib.hid hE
  have K1 := Lib.hid (And.intro hl hn)
  obtain ⟨_, rfl, hq1⟩ := hp.tok_inv
  clear hp
  obtain ⟨o1, _, l1, rfl, hp1, hq2⟩ := hq1.nd_cons
  clear hq1
  have H1 := Lib.hid hp1
  have K2 := Lib.hid (fit_len hp1 K1.out.1 K1.out.2)
  clear hp1
  obtain ⟨_, rfl, hq3⟩ := hq2.tok_inv
  clear hq2
  obtain ⟨o2, _, l2, rfl, hp2, hq4⟩ := hq3.nd_cons
  clear hq3
  have H2 := Lib.hid hp2
  have K3 := Lib.hid (fit_len hp2 K2.out.1 K2.out.2)
  clear hp2
  obtain ⟨_, rfl, hq5⟩ := hq4.tok_inv
  clear hq4
  cases hq5
  have P0 := Lib.hid p
  have S0 := Lib.hid (Step.refl g h W)
  have HF := Lib.hid hf
  have HB := Lib.hid p.hB
  clear p hf hl hn hE
  have HI : Hid ((Tryz.prog.info? 29).map (·.size) = some [Value.int .i64 27, .int .i64 2, .string (strOf q), .int .i64 z, .string (strOf s)].length) := Lib.hid (n_info ⟨27, 2, q, z, s⟩)
  have HIA : Hid ((Tryz.prog.info? 29).map (·.size) = some (Nd.cells ⟨27, 2, q, z, s⟩).toArray.size) := Lib.hid (n_infoA _)
  have HLA : Hid ((Nd.cells ⟨27, 2, q, z, s⟩).toArray.all (·.oneCell') = true) := Lib.hid (n_all _)
  go_enter Tryz.func86, Tryz.ntmps86
  have X := Lib.hid (next_any P0.out)
  go_wp2_with fail
  refine X.out.mono ?_
  rintro e w1 ⟨rfl, hp', hs'⟩
  have P1 := Lib.hid hp'
  have S1 := Lib.hid (S0.out.trans hs')
  clear hp' hs' P0 S0 X
  simp only [Nd.cells]
  have HZN := Lib.hid (nb_zero w1)
  have HPN := Lib.hid (nb_put w1 ⟨27, 2, q, z, s⟩)
  have BN := Lib.hid (LB.start P1.out ⟨27, 2, q, z, s⟩)
  go_upto_region 1 with (first
    | (refine wpList_store_mid rfl 29 (.tmp 2) (.tmp 4) rfl w1.heap.size 0 (Nd.cells ⟨27, 2, q, z, s⟩).toArray rfl rfl HZN.out.room HIA.out HLA.out ?_; generalize World.setCells _ _ _ _ = w2 at HPN BN ⊢)
    | fail)
  have P2 := Lib.hid (P1.out.later HPN.out.2)
  have S2 := Lib.hid (S1.out.trans (P1.out.step HPN.out.2))
  obtain ⟨b, hb⟩ : ∃ b, b = w1.heap.size := ⟨_, rfl⟩
  rw [← hb] at BN ⊢
  have B2 := Lib.hid BN.out
  obtain ⟨c0, c1, c2, c3, c4⟩ := B2.out.nb.at
  clear HZN HPN BN hb P1 S1
  simp only at c0 c1 c2 c3 c4
  have X := Lib.hid (signs1 [40] P2.out (by have := HF.out; simp at this ⊢; omega))
  go_wp2_with fail
  refine X.out.mono ?_
  rintro e w3 ⟨rfl, hp', hs'⟩
  have P3 := Lib.hid hp'
  have S3 := Lib.hid (S2.out.trans hs')
  have B3 := Lib.hid (B2.out.step hs')
  clear c0 c1 c2 c3 c4
  obtain ⟨c0, c1, c2, c3, c4⟩ := B3.out.nb.at
  clear hp' hs' P2 S2 B2 X
  simp only at c0 c1 c2 c3 c4
  have X := Lib.hid (HE.out _ _ _ (ts ++ [sgn [40]]) _ K1.out.1 H1.out K1.out.2 (by have := HF.out; simp at this ⊢; omega) P3.out)
  go_wp2_with fail
  refine X.out.mono ?_
  rintro e w4 ⟨rfl, hp', hs'⟩
  have P4 := Lib.hid hp'
  have S4 := Lib.hid (S3.out.trans hs')
  have B4 := Lib.hid (B3.out.step hs')
  clear c0 c1 c2 c3 c4
  obtain ⟨c0, c1, c2, c3, c4⟩ := B4.out.nb.at
  clear hp' hs' P3 S3 B3 X
  simp only at c0 c1 c2 c3 c4
  have X := Lib.hid (signs1 s P4.out (by have := HF.out; simp at this ⊢; omega))
  go_wp2_with fail
  refine X.out.mono ?_
  rintro e w5 ⟨rfl, hp', hs'⟩
  have P5 := Lib.hid hp'
  have S5 := Lib.hid (S4.out.trans hs')
  have B5 := Lib.hid (B4.out.step hs')
  clear c0 c1 c2 c3 c4
  obtain ⟨c0, c1, c2, c3, c4⟩ := B5.out.nb.at
  clear hp' hs' P4 S4 B4 X
  simp only at c0 c1 c2 c3 c4
  have X := Lib.hid (HE.out _ _ _ (((ts ++ [sgn [40]]) ++ o1) ++ [sgn s]) _ K2.out.1 H2.out K2.out.2 (by have := HF.out; simp at this ⊢; omega) P5.out)
  go_wp2_with fail
  refine X.out.mono ?_
  rintro e w6 ⟨rfl, hp', hs'⟩
  have P6 := Lib.hid hp'
  have S6 := Lib.hid (S5.out.trans hs')
  have B6 := Lib.hid (B5.out.step hs')
  clear c0 c1 c2 c3 c4
  obtain ⟨c0, c1, c2, c3, c4⟩ := B6.out.nb.at
  clear hp' hs' P5 S5 B5 X
  simp only at c0 c1 c2 c3 c4
  have X := Lib.hid (signs1 [41] P6.out (by have := HF.out; simp at this ⊢; omega))
  go_wp2_with fail
  refine X.out.mono ?_
  rintro e w7 ⟨rfl, hp', hs'⟩
  have P7 := Lib.hid hp'
  have S7 := Lib.hid (S6.out.trans hs')
  have B7 := Lib.hid (B6.out.step hs')
  clear c0 c1 c2 c3 c4
  obtain ⟨c0, c1, c2, c3, c4⟩ := B7.out.nb.at
  clear hp' hs' P6 S6 B6 X
  simp only at c0 c1 c2 c3 c4
  go_wp2
  refine bodyPost_end (results_none rfl _ _ _) rfl ?_
  exact ⟨rfl, by have := P7.out; simpa [List.append_assoc] using this, S7.out⟩

set_option maxHeartbeats 4000000 in
set_option maxRecDepth 100000 in
theorem expr_28 {w0 : World} {g h B N : Nat} (q : List UInt8) (z : Int) (s : List UInt8) (hE : Prt w0 g h B 86 #[ptr g] [.nd .ex] N) {W : World} {r l' : List Nd} {ts o : List Tk} (hl : r.length < N) (hp : Prn [sg [40], sg s, .nd .ex, sg [41]] r o l') (hn : FitN r) (hf : ts.length + o.length ≤ 99999990) (p : PW w0 g h B W (⟨28, 1, q, z, s⟩ :: r) ts) : Calls Tryz.prog 86 #[ptr g] W fun e W' => PrOk w0 g h B W l' (ts ++ o) e W' := by
  have HU := Lib.hid (unary_prt s hE)
  have K1 := Lib.hid (And.intro hl hn)
  obtain ⟨o1, _, l1, rfl, hp1, hq1⟩ := hp.split [sg [40], sg s, .nd .ex, sg [41]] _ rfl
  clear hp
  have H1 := Lib.hid hp1
  have K2 := Lib.hid (fit_len hp1 K1.out.1 K1.out.2)
  clear hp1
  cases hq1
  have P0 := Lib.hid p
  have S0 := Lib.hid (Step.refl g h W)
  have HF := Lib.hid hf
  have HB := Lib.hid p.hB
  clear p hf hl hn hE
  have HI : Hid ((Tryz.prog.info? 29).map (·.size) = some [Value.int .i64 28, .int .i64 1, .string (strOf q), .int .i64 z, .string (strOf s)].length) := Lib.hid (n_info ⟨28, 1, q, z, s⟩)
  have HIA : Hid ((Tryz.prog.info? 29).map (·.size) = some (Nd.cells ⟨28, 1, q, z, s⟩).toArray.size) := Lib.hid (n_infoA _)
  have HLA : Hid ((Nd.cells ⟨28, 1, q, z, s⟩).toArray.all (·.oneCell') = true) := Lib.hid (n_all _)
  go_enter Tryz.func86, Tryz.ntmps86
  have X := Lib.hid (next_any P0.out)
  go_wp2_with fail
  refine X.out.mono ?_
  rintro e w1 ⟨rfl, hp', hs'⟩
  have P1 := Lib.hid hp'
  have S1 := Lib.hid (S0.out.trans hs')
  clear hp' hs' P0 S0 X
  simp only [Nd.cells]
  have HZN := Lib.hid (nb_zero w1)
  have HPN := Lib.hid (nb_put w1 ⟨28, 1, q, z, s⟩)
  have BN := Lib.hid (LB.start P1.out ⟨28, 1, q, z, s⟩)
  go_upto_region 1 with (first
    | (refine wpList_store_mid rfl 29 (.tmp 2) (.tmp 4) rfl w1.heap.size 0 (Nd.cells ⟨28, 1, q, z, s⟩).toArray rfl rfl HZN.out.room HIA.out HLA.out ?_; generalize World.setCells _ _ _ _ = w2 at HPN BN ⊢)
    | fail)
  have P2 := Lib.hid (P1.out.later HPN.out.2)
  have S2 := Lib.hid (S1.out.trans (P1.out.step HPN.out.2))
  obtain ⟨b, hb⟩ : ∃ b, b = w1.heap.size := ⟨_, rfl⟩
  rw [← hb] at BN ⊢
  have B2 := Lib.hid BN.out
  obtain ⟨c0, c1, c2, c3, c4⟩ := B2.out.nb.at
  clear HZN HPN BN hb P1 S1
  simp only at c0 c1 c2 c3 c4
  have X := Lib.hid (HU.out _ _ _ ts _ K1.out.1 H1.out K1.out.2 (by have := HF.out; simp at this ⊢; omega) P2.out)
  go_wp2_with fail
  refine X.out.mono ?_
  rintro e w3 ⟨rfl, hp', hs'⟩
  have P3 := Lib.hid hp'
  have S3 := Lib.hid (S2.out.trans hs')
  have B3 := Lib.hid (B2.out.step hs')
  clear c0 c1 c2 c3 c4
  obtain ⟨c0, c1, c2, c3, c4⟩ := B3.out.nb.at
  clear hp' hs' P2 S2 B2 X
  simp only at c0 c1 c2 c3 c4
  go_wp2
  refine bodyPost_end (results_none rfl _ _ _) rfl ?_
  exact ⟨rfl, by have := P3.out; simpa [List.append_assoc] using this, S3.out⟩

set_option maxHeartbeats 4000000 in
set_option maxRecDepth 100000 in
theorem expr_30 {w0 : World} {g h B N : Nat} (q : List UInt8) (z : Int) (s : List UInt8) (hE : Prt w0 g h B 86 #[ptr g] [.nd .ex] N) {W : World} {r l' : List Nd} {ts o : List Tk} (hl : r.length < N) (hp : Prn [sg [40], sg [115, 112, 97, 119, 110], .nd .ex, sg [41]] r o l') (hn : FitN r) (hf : ts.length + o.length ≤ 99999990) (p : PW w0 g h B W (⟨30, 1, q, z, s⟩ :: r) ts) : Calls Tryz.prog 86 #[ptr g] W fun e W' => PrOk w0 g h B W l' (ts ++ o) e W' := by
  have HU := Lib.hid (unary_prt [115, 112, 97, 119, 110] hE)
  have K1 := Lib.hid (And.intro hl hn)
  obtain ⟨o1, _, l1, rfl, hp1, hq1⟩ := hp.split [sg [40], sg [115, 112, 97, 119, 110], .nd .ex, sg [41]] _ rfl
  clear hp
  have H1 := Lib.hid hp1
  have K2 := Lib.hid (fit_len hp1 K1.out.1 K1.out.2)
  clear hp1
  cases hq1
  have P0 := Lib.hid p
  have S0 := Lib.hid (Step.refl g h W)
  have HF := Lib.hid hf
  have HB := Lib.hid p.hB
  clear p hf hl hn hE
  have HI : Hid ((Tryz.prog.info? 29).map (·.size) = some [Value.int .i64 30, .int .i64 1, .string (strOf q), .int .i64 z, .string (strOf s)].length) := Lib.hid (n_info ⟨30, 1, q, z, s⟩)
  have HIA : Hid ((Tryz.prog.info? 29).map (·.size) = some (Nd.cells ⟨30, 1, q, z, s⟩).toArray.size) := Lib.hid (n_infoA _)
  have HLA : Hid ((Nd.cells ⟨30, 1, q, z, s⟩).toArray.all (·.oneCell') = true) := Lib.hid (n_all _)
  go_enter Tryz.func86, Tryz.ntmps86
  have X := Lib.hid (next_any P0.out)
  go_wp2_with fail
  refine X.out.mono ?_
  rintro e w1 ⟨rfl, hp', hs'⟩
  have P1 := Lib.hid hp'
  have S1 := Lib.hid (S0.out.trans hs')
  clear hp' hs' P0 S0 X
  simp only [Nd.cells]
  have HZN := Lib.hid (nb_zero w1)
  have HPN := Lib.hid (nb_put w1 ⟨30, 1, q, z, s⟩)
  have BN := Lib.hid (LB.start P1.out ⟨30, 1, q, z, s⟩)
  go_upto_region 1 with (first
    | (refine wpList_store_mid rfl 29 (.tmp 2) (.tmp 4) rfl w1.heap.size 0 (Nd.cells ⟨30, 1, q, z, s⟩).toArray rfl rfl HZN.out.room HIA.out HLA.out ?_; generalize World.setCells _ _ _ _ = w2 at HPN BN ⊢)
    | fail)
  have P2 := Lib.hid (P1.out.later HPN.out.2)
  have S2 := Lib.hid (S1.out.trans (P1.out.step HPN.out.2))
  obtain ⟨b, hb⟩ : ∃ b, b = w1.heap.size := ⟨_, rfl⟩
  rw [← hb] at BN ⊢
  have B2 := Lib.hid BN.out
  obtain ⟨c0, c1, c2, c3, c4⟩ := B2.out.nb.at
  clear HZN HPN BN hb P1 S1
  simp only at c0 c1 c2 c3 c4
  have X := Lib.hid (HU.out _ _ _ ts _ K1.out.1 H1.out K1.out.2 (by have := HF.out; simp at this ⊢; omega) P2.out)
  go_wp2_with fail
  refine X.out.mono ?_
  rintro e w3 ⟨rfl, hp', hs'⟩
  have P3 := Lib.hid hp'
  have S3 := Lib.hid (S2.out.trans hs')
  have B3 := Lib.hid (B2.out.step hs')
  clear c0 c1 c2 c3 c4
  obtain ⟨c0, c1, c2, c3, c4⟩ := B3.out.nb.at
  clear hp' hs' P2 S2 B2 X
  simp only at c0 c1 c2 c3 c4
  go_wp2
  refine bodyPost_end (results_none rfl _ _ _) rfl ?_
  exact ⟨rfl, by have := P3.out; simpa [List.append_assoc] using this, S3.out⟩

set_option maxHeartbeats 4000000 in
set_option maxRecDepth 100000 in
theorem part_2 {w0 : World} {g h B N : Nat} (q : List UInt8) (z : Int) (s : List UInt8) (hT : HasT w0) (hz : -9223372036854775808 ≤ z ∧ z < 9223372036854775808) {W : World} {r l' : List Nd} {ts o : List Tk} (hl : r.length < N) (hp : Prn [sg [117, 115, 101], nm q, sg [46], nm s, sg [47], it z, sg [59]] r o l') (hn : FitN r) (hf : ts.length + o.length ≤ 99999990) (p : PW w0 g h B W (⟨2, 0, q, z, s⟩ :: r) ts) : Calls Tryz.prog 92 #[ptr g] W fun e W' => PrOk w0 g h B W l' (ts ++ o) e W' := by
  have HT := Lib.hid hT
  have HZ := Lib.hid hz
  have HO := Lib.hid (outer_prt (w0 := w0) (g := g) (h := h) (B := B) (N := N) 2 0 q z s)
  have K1 := Lib.hid (And.intro hl hn)
  obtain ⟨_, rfl, hq1⟩ := hp.tok_inv
  clear hp
  obtain ⟨o1, _, l1, rfl, hp1, hq2⟩ := hq1.split [nm q, sg [46], nm s] _ rfl
  clear hq1
  have H1 := Lib.hid hp1
  have K2 := Lib.hid (fit_len hp1 K1.out.1 K1.out.2)
  clear hp1
  obtain ⟨_, rfl, hq3⟩ := hq2.tok_inv
  clear hq2
  obtain ⟨_, rfl, hq4⟩ := hq3.tok_inv
  clear hq3
  obtain ⟨_, rfl, hq5⟩ := hq4.tok_inv
  clear hq4
  cases hq5
  have P0 := Lib.hid p
  have S0 := Lib.hid (Step.refl g h W)
  have HF := Lib.hid hf
  have HB := Lib.hid p.hB
  clear p hf hl hn hT hz
  have HI : Hid ((Tryz.prog.info? 29).map (·.size) = some [Value.int .i64 2, .int .i64 0, .string (strOf q), .int .i64 z, .string (strOf s)].length) := Lib.hid (n_info ⟨2, 0, q, z, s⟩)
  have HIA : Hid ((Tryz.prog.info? 29).map (·.size) = some (Nd.cells ⟨2, 0, q, z, s⟩).toArray.size) := Lib.hid (n_infoA _)
  have HLA : Hid ((Nd.cells ⟨2, 0, q, z, s⟩).toArray.all (·.oneCell') = true) := Lib.hid (n_all _)
  go_enter Tryz.func92, Tryz.ntmps92
  have X := Lib.hid (next_any P0.out)
  go_wp2_with fail
  refine X.out.mono ?_
  rintro e w1 ⟨rfl, hp', hs'⟩
  have P1 := Lib.hid hp'
  have S1 := Lib.hid (S0.out.trans hs')
  clear hp' hs' P0 S0 X
  simp only [Nd.cells]
  have HZN := Lib.hid (nb_zero w1)
  have HPN := Lib.hid (nb_put w1 ⟨2, 0, q, z, s⟩)
  have BN := Lib.hid (LB.start P1.out ⟨2, 0, q, z, s⟩)
  go_upto_region 1 with (first
    | (refine wpList_store_mid rfl 29 (.tmp 2) (.tmp 4) rfl w1.heap.size 0 (Nd.cells ⟨2, 0, q, z, s⟩).toArray rfl rfl HZN.out.room HIA.out HLA.out ?_; generalize World.setCells _ _ _ _ = w2 at HPN BN ⊢)
    | fail)
  have P2 := Lib.hid (P1.out.later HPN.out.2)
  have S2 := Lib.hid (S1.out.trans (P1.out.step HPN.out.2))
  obtain ⟨b, hb⟩ : ∃ b, b = w1.heap.size := ⟨_, rfl⟩
  rw [← hb] at BN ⊢
  have B2 := Lib.hid BN.out
  obtain ⟨c0, c1, c2, c3, c4⟩ := B2.out.nb.at
  clear HZN HPN BN hb P1 S1
  simp only at c0 c1 c2 c3 c4
  have X := Lib.hid (signs1 [117, 115, 101] P2.out (by have := HF.out; simp at this ⊢; omega))
  go_wp2_with fail
  refine X.out.mono ?_
  rintro e w3 ⟨rfl, hp', hs'⟩
  have P3 := Lib.hid hp'
  have S3 := Lib.hid (S2.out.trans hs')
  have B3 := Lib.hid (B2.out.step hs')
  clear c0 c1 c2 c3 c4
  obtain ⟨c0, c1, c2, c3, c4⟩ := B3.out.nb.at
  clear hp' hs' P2 S2 B2 X
  simp only at c0 c1 c2 c3 c4
  have X := Lib.hid (HO.out _ _ _ (ts ++ [sgn [117, 115, 101]]) _ K1.out.1 H1.out K1.out.2 (by have := HF.out; simp at this ⊢; omega) P3.out)
  go_wp2_with (first
    | (refine wpList_load_mid rfl 29 (.tmp 2) rfl b 0 rfl [.int .i64 2, .int .i64 0, .string (strOf q), .int .i64 z, .string (strOf s)] _ B3.out.nb.cells Tryz.underlying29 rfl HI.out ?_)
    | fail)
  refine X.out.mono ?_
  rintro e w4 ⟨rfl, hp', hs'⟩
  have P4 := Lib.hid hp'
  have S4 := Lib.hid (S3.out.trans hs')
  have B4 := Lib.hid (B3.out.step hs')
  clear c0 c1 c2 c3 c4
  obtain ⟨c0, c1, c2, c3, c4⟩ := B4.out.nb.at
  clear hp' hs' P3 S3 B3 X
  simp only at c0 c1 c2 c3 c4
  have X := Lib.hid (signs1 [47] P4.out (by have := HF.out; simp at this ⊢; omega))
  go_wp2_with fail
  refine X.out.mono ?_
  rintro e w5 ⟨rfl, hp', hs'⟩
  have P5 := Lib.hid hp'
  have S5 := Lib.hid (S4.out.trans hs')
  have B5 := Lib.hid (B4.out.step hs')
  clear c0 c1 c2 c3 c4
  obtain ⟨c0, c1, c2, c3, c4⟩ := B5.out.nb.at
  clear hp' hs' P4 S4 B4 X
  simp only at c0 c1 c2 c3 c4
  have X := Lib.hid (pnumber_any z HZ.out.1 HZ.out.2 HT.out P5.out (by have := HF.out; simp at this ⊢; omega))
  go_wp2_with fail
  refine X.out.mono ?_
  rintro e w6 ⟨rfl, hp', hs'⟩
  have P6 := Lib.hid hp'
  have S6 := Lib.hid (S5.out.trans hs')
  have B6 := Lib.hid (B5.out.step hs')
  clear c0 c1 c2 c3 c4
  obtain ⟨c0, c1, c2, c3, c4⟩ := B6.out.nb.at
  clear hp' hs' P5 S5 B5 X
  simp only at c0 c1 c2 c3 c4
  have X := Lib.hid (signs1 [59] P6.out (by have := HF.out; simp at this ⊢; omega))
  go_wp2_with fail
  refine X.out.mono ?_
  rintro e w7 ⟨rfl, hp', hs'⟩
  have P7 := Lib.hid hp'
  have S7 := Lib.hid (S6.out.trans hs')
  have B7 := Lib.hid (B6.out.step hs')
  clear c0 c1 c2 c3 c4
  obtain ⟨c0, c1, c2, c3, c4⟩ := B7.out.nb.at
  clear hp' hs' P6 S6 B6 X
  simp only at c0 c1 c2 c3 c4
  go_wp2
  refine bodyPost_ret (results_none rfl _ _ _) rfl ?_
  exact ⟨rfl, by have := P7.out; simpa [List.append_assoc] using this, S7.out⟩

set_option maxHeartbeats 4000000 in
set_option maxRecDepth 100000 in
theorem part_3 {w0 : World} {g h B N : Nat} (q : List UInt8) (z : Int) (s : List UInt8) (hBL : Prt w0 g h B 182 #[ptr g] [.nd .blk] N) (d : Int) (hd : 1 ≤ d ∧ d ≤ 100000) {W : World} {r l' : List Nd} {ts o : List Tk} (hl : r.length < N) (hp : Prn (sg [102, 110] :: nm q :: fnX d.toNat) r o l') (hn : FitN r) (hf : ts.length + o.length ≤ 99999990) (p : PW w0 g h B W (⟨3, d, q, z, s⟩ :: r) ts) : Calls Tryz.prog 92 #[ptr g] W fun e W' => PrOk w0 g h B W l' (ts ++ o) e W' := by
  have HFN := Lib.hid (function_prt hBL 3 d q z s hd (list_prt _ enters_show_param .par (d.toNat - 1) (by omega) param_prt))
  have K1 := Lib.hid (And.intro hl hn)
  obtain ⟨_, rfl, hq1⟩ := hp.tok_inv
  clear hp
  obtain ⟨_, rfl, hq2⟩ := hq1.tok_inv
  clear hq1
  obtain ⟨o1, _, l1, rfl, hp1, hq3⟩ := hq2.split (fnX d.toNat) [] (List.append_nil _).symm
  clear hq2
  have H1 := Lib.hid hp1
  have K2 := Lib.hid (fit_len hp1 K1.out.1 K1.out.2)
  clear hp1
  cases hq3
  have P0 := Lib.hid p
  have S0 := Lib.hid (Step.refl g h W)
  have HF := Lib.hid hf
  have HB := Lib.hid p.hB
  clear p hf hl hn hBL hd
  have HI : Hid ((Tryz.prog.info? 29).map (·.size) = some [Value.int .i64 3, .int .i64 d, .string (strOf q), .int .i64 z, .string (strOf s)].length) := Lib.hid (n_info ⟨3, d, q, z, s⟩)
  have HIA : Hid ((Tryz.prog.info? 29).map (·.size) = some (Nd.cells ⟨3, d, q, z, s⟩).toArray.size) := Lib.hid (n_infoA _)
  have HLA : Hid ((Nd.cells ⟨3, d, q, z, s⟩).toArray.all (·.oneCell') = true) := Lib.hid (n_all _)
  go_enter Tryz.func92, Tryz.ntmps92
  have X := Lib.hid (next_any P0.out)
  go_wp2_with fail
  refine X.out.mono ?_
  rintro e w1 ⟨rfl, hp', hs'⟩
  have P1 := Lib.hid hp'
  have S1 := Lib.hid (S0.out.trans hs')
  clear hp' hs' P0 S0 X
  simp only [Nd.cells]
  have HZN := Lib.hid (nb_zero w1)
  have HPN := Lib.hid (nb_put w1 ⟨3, d, q, z, s⟩)
  have BN := Lib.hid (LB.start P1.out ⟨3, d, q, z, s⟩)
  go_upto_region 1 with (first
    | (refine wpList_store_mid rfl 29 (.tmp 2) (.tmp 4) rfl w1.heap.size 0 (Nd.cells ⟨3, d, q, z, s⟩).toArray rfl rfl HZN.out.room HIA.out HLA.out ?_; generalize World.setCells _ _ _ _ = w2 at HPN BN ⊢)
    | fail)
  have P2 := Lib.hid (P1.out.later HPN.out.2)
  have S2 := Lib.hid (S1.out.trans (P1.out.step HPN.out.2))
  obtain ⟨b, hb⟩ : ∃ b, b = w1.heap.size := ⟨_, rfl⟩
  rw [← hb] at BN ⊢
  have B2 := Lib.hid BN.out
  obtain ⟨c0, c1, c2, c3, c4⟩ := B2.out.nb.at
  clear HZN HPN BN hb P1 S1
  simp only at c0 c1 c2 c3 c4
  have X := Lib.hid (signs1 [102, 110] P2.out (by have := HF.out; simp at this ⊢; omega))
  go_wp2_with fail
  refine X.out.mono ?_
  rintro e w3 ⟨rfl, hp', hs'⟩
  have P3 := Lib.hid hp'
  have S3 := Lib.hid (S2.out.trans hs')
  have B3 := Lib.hid (B2.out.step hs')
  clear c0 c1 c2 c3 c4
  obtain ⟨c0, c1, c2, c3, c4⟩ := B3.out.nb.at
  clear hp' hs' P2 S2 B2 X
  simp only at c0 c1 c2 c3 c4
  have X := Lib.hid (pname_any q P3.out (by have := HF.out; simp at this ⊢; omega))
  go_wp2_with fail
  refine X.out.mono ?_
  rintro e w4 ⟨rfl, hp', hs'⟩
  have P4 := Lib.hid hp'
  have S4 := Lib.hid (S3.out.trans hs')
  have B4 := Lib.hid (B3.out.step hs')
  clear c0 c1 c2 c3 c4
  obtain ⟨c0, c1, c2, c3, c4⟩ := B4.out.nb.at
  clear hp' hs' P3 S3 B3 X
  simp only at c0 c1 c2 c3 c4
  have X := Lib.hid (HFN.out _ _ _ ((ts ++ [sgn [102, 110]]) ++ [nmT q]) _ K1.out.1 H1.out K1.out.2 (by have := HF.out; simp at this ⊢; omega) P4.out)
  go_wp2_with (first
    | (refine wpList_load_mid rfl 29 (.tmp 2) rfl b 0 rfl [.int .i64 3, .int .i64 d, .string (strOf q), .int .i64 z, .string (strOf s)] _ B4.out.nb.cells Tryz.underlying29 rfl HI.out ?_)
    | fail)
  refine X.out.mono ?_
  rintro e w5 ⟨rfl, hp', hs'⟩
  have P5 := Lib.hid hp'
  have S5 := Lib.hid (S4.out.trans hs')
  have B5 := Lib.hid (B4.out.step hs')
  clear c0 c1 c2 c3 c4
  obtain ⟨c0, c1, c2, c3, c4⟩ := B5.out.nb.at
  clear hp' hs' P4 S4 B4 X
  simp only at c0 c1 c2 c3 c4
  go_wp2
  refine bodyPost_end (results_none rfl _ _ _) rfl ?_
  exact ⟨rfl, by have := P5.out; simpa [List.append_assoc] using this, S5.out⟩

end Go.Proofs.YtemlceicmpcboaaGreatDoor.Sw
