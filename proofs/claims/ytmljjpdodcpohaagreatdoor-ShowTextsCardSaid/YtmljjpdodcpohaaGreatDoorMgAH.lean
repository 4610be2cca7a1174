/- A region that draws its order, whose first operations leave memory alone, walked step by step behind a name that is not unfolded; The walk of tree. No condition but those that each states. -/
import Derived.StillTailTactics
import Derived.Test.YtmljjpdodcpohaaGreatDoorMgAG
namespace Go.Proofs.YtmljjpdodcpohaaGreatDoor
section
variable {P : Program} {ops : Array Oper} {w : World} {Q : Act → Prop} {a : Act} {o : Oper} {rest : List Oper}
structure WS (P : Program) (ops : Array Oper) (w : World) (Q : Act → Prop) (l : List Oper) (a : Act) : Prop where
  out : wpStill P ops w Q l a
theorem ws_nil (h : Q a) : WS P ops w Q [] a := ⟨wpStill_nil h⟩
theorem ws_step (h : ∀ K : Act → Prop, (∀ a, WS P ops w Q rest a → K a) → if Region.wanted o (yielded ops a.tmps) then o.still P a w K else K (a.put o.dst undef)) : WS P ops w Q (o :: rest) a :=
  ⟨wpStill_step fun K hK => h K fun a h => hK a h.out⟩
theorem ws_skip (hw : Region.wanted o (yielded ops a.tmps) = false) (h : WS P ops w Q rest (a.put o.dst undef)) : WS P ops w Q (o :: rest) a :=
  ws_step fun K hK => by rw [if_neg (by rw [hw]; exact Bool.false_ne_true)]; exact hK _ h
end
end Go.Proofs.YtmljjpdodcpohaaGreatDoor

namespace Go.Proofs.YtmljjpdodcpohaaGreatDoor.Tr
open Lib (hid)
set_option maxRecDepth 100000
set_option maxHeartbeats 4000000
open Go.RowKit Dk Lx
theorem ws_reg {P : Program} {id : Nat} {Q : Exit → Act → World → Prop} {a : Act} {w : World} {l : List Oper} (hm : P.follows .mixedOrders = true) (hB : Region.lexB .any l.toArray = true)
    (w1 : World) (hw : w.drew = w1) (h : WS P l.toArray w1 (fun a' => Q .normal a' w1) l a) : (Code.region id l.toArray true).wp P Q a w :=
  region_still hm hB w1 hw h.out
def cntG (pr : Int → Bool) : Nat → List Int → Nat
  | 0, _ => 0
  | _ + 1, [] => 0
  | h + 1, x :: r => if pr x then cntG pr h r + 1 else 0
theorem cntG_zero (pr : Int → Bool) (l : List Int) : cntG pr 0 l = 0 := by cases l <;> rfl
theorem cntG_nil (pr : Int → Bool) (h : Nat) : cntG pr h [] = 0 := by cases h <;> rfl
theorem cntG_le (pr : Int → Bool) : ∀ (h : Nat) (l : List Int), cntG pr h l ≤ l.length
  | 0, l => by rw [cntG_zero]; exact Nat.zero_le _
  | h + 1, [] => Nat.le_refl _
  | h + 1, x :: r => by
    have := cntG_le pr h r; rw [cntG]; split
    · simp only [List.length_cons]; omega
    · exact Nat.zero_le _
def matchG : List Gp → List Int → Bool
  | [], K => decide (K.length = 0)
  | g :: gs, K => if ((cntG g.f.pr g.hi.toNat K : Nat) : Int) < g.lo then false else matchG gs (K.drop (cntG g.f.pr g.hi.toNat K))
theorem matchG_cons (g : Gp) (gs : List Gp) (K : List Int) : matchG (g :: gs) K = if ((cntG g.f.pr g.hi.toNat K : Nat) : Int) < g.lo then false else matchG gs (K.drop (cntG g.f.pr g.hi.toNat K)) := rfl
def kindAt (ts : List Nd) (p : Int) : Int := (ts.getD p.toNat Nd.zero).kind
def kindsL (ts : List Nd) (i : Int) : List Int := (kidsZ (kidsOf ts) i).map (kindAt ts)
theorem kidsZ_lt (ts : List Nd) (i : Int) : ∀ p ∈ kidsZ (kidsOf ts) i, ∃ k : Nat, p = (k : Int) ∧ k < ts.length := by
  intro p hp; rcases endI_cases (kidsOf ts) i with h | ⟨a, n, rfl, h, h1, h2, h3⟩
  · rw [kidsZ_none (by rw [h]; decide)] at hp; cases hp
  · obtain ⟨k, hk, hk0, hF, -⟩ := endW_node h
    rw [kidsZ_some h hk] at hp; unfold posZ at hp; obtain ⟨q, hq, rfl⟩ := List.mem_map.1 hp; obtain ⟨j, hj, rfl⟩ := List.mem_map.1 hq; have := pos_lt hF (List.mem_range.1 hj); rw [kidsOf_len] at h2; exact ⟨_, rfl, by omega⟩
theorem Gs.form {W : World} {v : Value} {l : List Gp} (h : Gs W v l) : ∃ p, v = .slice p l.length l.length := by cases h <;> exact ⟨_, rfl⟩
theorem Gs.at {W : World} {p : Option Addr} {m c : Nat} {l : List Gp} (h : Gs W (.slice p m c) l) (j : Nat) (hj : j < l.length) : ∃ b u, p = some ⟨b, 0, none⟩ ∧ FVal W u l[j].f ∧ W.rangeAt b (j * 3) [u, .int .i64 l[j].lo, .int .i64 l[j].hi] := by
  cases h with
  | nil => simp at hj
  | one b x u h1 h2 h3 =>
    obtain rfl : j = 0 := by simpa using hj
    exact ⟨b, u, rfl, h2, by simpa using h3⟩
  | two b x y u v h1 h2 h3 h4 h5 =>
    rcases (show j = 0 ∨ j = 1 by simp at hj; omega) with rfl | rfl
    · exact ⟨b, u, rfl, h2, by simpa using h4⟩
    · exact ⟨b, v, rfl, h3, by simpa using h5⟩
theorem g_info (u : Value) (lo hi : Int) : (Tryz.prog.info? 137).map (·.size) = some [u, .int .i64 lo, .int .i64 hi].length := by kernel_rfl
theorem g_infoA (u : Value) (lo hi : Int) : (Tryz.prog.info? 137).map (·.size) = some [u, Value.int .i64 lo, Value.int .i64 hi].toArray.size := g_info u lo hi
theorem fval_one {W : World} {u : Value} {f : FK} (h : FVal W u f) : u.oneCell' = true := by cases h <;> rfl
theorem gp_all {W : World} {u : Value} {f : FK} (h : FVal W u f) (lo hi : Int) : [u, Value.int .i64 lo, Value.int .i64 hi].toArray.all (·.oneCell') = true :=
  all_oneCell_toArray (fun x hx => by
    simp at hx
    rcases hx with rfl | rfl | rfl
    · exact fval_one h
    · rfl
    · rfl)
structure GB (W : World) (B : Nat) (u : Value) (lo hi : Int) : Prop where
  cells : W.rangeAt B 0 [u, .int .i64 lo, .int .i64 hi]
  lt : B < W.heap.size
theorem GB.later {W W' : World} {B : Nat} {u : Value} {lo hi : Int} (h : GB W B u lo hi) (hb : Below W.heap.size W W') : GB W' B u lo hi := ⟨rangeAt_block h.cells (hb.block B h.lt), Nat.lt_of_lt_of_le h.lt hb.size⟩
theorem gb_room (W : World) : (W.alloc (.cells #[.nilFunc, .int .i64 0, .int .i64 0] 137)).there W.heap.size 0 3 := there_new W #[.nilFunc, .int .i64 0, .int .i64 0] _
theorem gb_put (W : World) (u : Value) (lo hi : Int) : GB ((W.alloc (.cells #[.nilFunc, .int .i64 0, .int .i64 0] 137)).setCells W.heap.size 0 [u, .int .i64 lo, .int .i64 hi]) W.heap.size u lo hi ∧
    Below W.heap.size W ((W.alloc (.cells #[.nilFunc, .int .i64 0, .int .i64 0] 137)).setCells W.heap.size 0 [u, .int .i64 lo, .int .i64 hi]) :=
  ⟨⟨World.rangeAt_setCells_same _ _ 0 _ (gb_room W), by rw [Dk.size_setCells]; simp⟩, below_setCells (Below.refl _ _) _ (Nat.le_refl _) _ _ _ ((Below.refl _ _).alloc (Nat.le_refl _) _)⟩
theorem ins_from {W : World} {p : Option Addr} {m c k : Nat} {l : List Int} (h : Ins W (.slice p m c) l) (hk : k ≤ l.length) (hm : m = l.length) :
    ∃ q, (∀ W', (Instr.slice 55 (.slice p m c) (some (.int .i64 (k : Int))) none none).run Tryz.prog W' = .ok (.slice q (m - k) (c - k)) W') ∧ Ins W (.slice q (m - k) (c - k)) (l.drop k) := by
  obtain ⟨p', c', e, hc, hp⟩ := h; simp only [Value.slice.injEq] at e; obtain ⟨rfl, -, rfl⟩ := e; refine ⟨if c = k then p else p.map (·.add (k * 1)), fun W' => ?_, _, _, by rw [List.length_drop, hm], by rw [List.length_drop]; omega, ?_⟩
  · rw [run_slice_l W' 55 p m c (by kernel_rfl) .i64 (k : Int) (by omega) (by omega), show (sizeOf (Tryz.prog.elem 55)).run Tryz.prog W' = .ok 1 W' by kernel_rfl]
    rfl
  · by_cases hck : c = k
    · exact .inl (List.drop_eq_nil_of_le (by omega))
    · rw [if_neg hck]
      rcases hp with rfl | ⟨g, o, rfl, hg, hr⟩
      · exact .inl (by simp)
      · refine .inr ⟨g, o + k, by simp [Addr.add_mid], hg, ?_⟩
        have e : iv l = iv (l.take k) ++ iv (l.drop k) := by rw [← iv_app, List.take_append_drop]
        rw [e] at hr; exact rangeAt_right hr (by rw [iv_len, List.length_take, Nat.min_eq_left hk])
theorem vkids_nat (ts : List Nd) (p : Option Addr) (n c i : Nat) (w : World) (hn : n = ts.length) (h : Nds w (.slice p n c) ts) (hl : n ≤ 4000) (hi : i < n) :
    Calls Tryz.prog 54 #[.slice p n c, .int .i64 (i : Int)] w fun e w' => e = .returned (.bool (matchG (groupsL (kindAt ts (i : Int))) (kindsL ts (i : Int)))) ∧ Below w.heap.size w w' := by
  have HNd := hid h; have hil : i < ts.length := by omega
  have hkk : kindAt ts (i : Int) = ts[i].kind := by unfold kindAt; rw [Int.toNat_natCast]; simp [hil]
  have CK := hid (kids_any ts (.slice p n c) (i : Int) w h (by omega)); have HLT := hid (kidsZ_lt ts (i : Int)); obtain ⟨Z, hZ⟩ : ∃ Z, Z = kidsZ (kidsOf ts) (i : Int) := ⟨_, rfl⟩; have hKL : kindsL ts (i : Int) = Z.map (kindAt ts) := by unfold kindsL; rw [hZ]
  rw [← hZ] at HLT; have HCK : Hid (∀ e w', KidsOk ts (i : Int) w e w' → ∃ v, e = .returned v ∧ IR w w' v Z) := hid (fun e w' hk => by rw [hZ]; exact hk)
  have hZl : Z.length ≤ 4000 := by
    rw [hZ]; rcases endI_cases (kidsOf ts) (i : Int) with h | ⟨a, m, ha, h, h1, h2, h3⟩
    · rw [kidsZ_none (by rw [h]; decide)]; exact Nat.zero_le _
    · obtain ⟨k, hk, hk0, hF, -⟩ := endW_node h
      rw [ha, kidsZ_some h hk, posZ_len]; have := (endW_le _ _ _ hF).1; have h5 := (endW_le _ _ _ hF).2; rw [List.length_drop, kidsOf_len] at h5; omega
  rw [hkk, hKL]; obtain ⟨kd, hkd⟩ : ∃ kd, kd = ts[i].kind := ⟨_, rfl⟩; rw [← hkd]; obtain ⟨G, hG⟩ : ∃ G, G = groupsL kd := ⟨_, rfl⟩; rw [← hG]; have HGR : Hid (∀ W, Calls Tryz.prog 98 #[.int .i64 kd] W fun e w' => ∃ v, e = .returned v ∧ Gs w' v G ∧ Below W.heap.size W w') := hid (fun W => by rw [hG]; exact groups_any kd W)
  have HNK : Hid (∀ W, Below w.heap.size w W → ∃ g o, p = some ⟨g, o, none⟩ ∧ W.cell? ⟨g, o + i * 5, none⟩ = some (.int .i64 kd)) := hid (fun W hb => by
    obtain ⟨g, o, hp, -, h1, -⟩ := (h.later hb).node i hil; rw [← hkd] at h1
    exact ⟨g, o, hp, h1⟩)
  obtain ⟨g, o, rfl, -⟩ := HNK.out w (Below.refl _ _)
  have HNK2 : Hid (∀ W, Below w.heap.size w W → W.cell? ⟨g, o + i * 5, none⟩ = some (.int .i64 kd)) := hid (fun W hb => by
    obtain ⟨g', o', hp, h1⟩ := HNK.out W hb
    cases hp; exact h1)
  have HNA : Hid (∀ W, Below w.heap.size w W → ∀ a : Nat, a < ts.length → W.cell? ⟨g, o + a * 5, none⟩ = some (.int .i64 (kindAt ts (a : Int)))) := hid (fun W hb a ha => by
    obtain ⟨g', o', hp, -, h1, -⟩ := (h.later hb).node a ha; cases hp
    rw [h1]; unfold kindAt; rw [Int.toNat_natCast]; simp [ha])
  have z0 : (0 : Int) ≤ (i : Int) := by omega
  have z1 : (i : Int) < (n : Int) := by omega
  have HN := hid hn; clear HNK h hn hZ hkk hKL hil hkd HNd hG; go_enter Tryz.func54, Tryz.ntmps54
  go_wp2_with fail
  refine CK.out.mono ?_; rintro e w1 hk0; obtain ⟨v1, rfl, hr1⟩ := HCK.out _ _ hk0; have HK1 := hid hr1; have c1 := HNK2.out w1 hr1.below; clear hk0 hr1 CK HCK; go_wp2_with fail
  refine (HGR.out w1).mono ?_; rintro e w2 ⟨v2, rfl, hg2, hb2⟩; obtain ⟨p2, rfl⟩ := hg2.form; have HG2 := hid hg2; have HK2 := hid (HK1.out.later hb2); clear hg2 hb2 HK1 HGR HNK2 c1 z0 z1; obtain ⟨gn, hgn⟩ : ∃ gn, gn = G.length := ⟨_, rfl⟩; rw [← hgn] at HG2 ⊢; have HGN := hid hgn
  have hg4 : gn ≤ 2 := by
    rw [hgn]; have := HG2.out; cases this <;> simp
  clear hgn; go_wp2_with fail
  go_loopw [5, 19] (fun vk vj wr => ∃ (j a : Nat), j ≤ gn ∧ a ≤ Z.length ∧ vj = .int .i64 (j : Int) ∧ Hid (Below w2.heap.size w2 wr) ∧ Hid (Ins wr vk (Z.drop a)) ∧ Hid (matchG G (Z.map (kindAt ts)) = matchG (G.drop j) ((Z.drop a).map (kindAt ts)))) (fun _ vj _ => gn - (intOf vj).toNat)
  case atStart => exact ⟨0, 0, Nat.zero_le _, Nat.zero_le _, rfl, hid (Below.refl _ _), hid (by rw [List.drop_zero]; exact HK2.out.ins), hid (by rw [List.drop_zero, List.drop_zero])⟩
  case round =>
    obtain ⟨j, a, hj, ha, rfl, hB, hI, hM⟩ := hrel; have hbw : Below w.heap.size w wr := chain2 HK2.out.below hB.out; obtain ⟨pk, ck, hvk, hck, -⟩ := id hI.out; obtain ⟨L, hL⟩ : ∃ L, L = Z.drop a := ⟨_, rfl⟩; rw [← hL] at hI hvk hck hM; have hL4 : L.length ≤ 4000 := by rw [hL, List.length_drop]; omega
    have HLL : Hid (∀ x ∈ L, ∃ k : Nat, x = (k : Int) ∧ k < ts.length) := hid (fun x hx => HLT.out x (by rw [hL] at hx; exact List.mem_of_mem_drop hx))
    obtain ⟨ln, hln⟩ : ∃ ln, ln = L.length := ⟨_, rfl⟩; rw [← hln] at hvk hck hL4; have HLN := hid hln; have HDL : Hid (∀ k, L.drop k = Z.drop (a + k) ∧ (k ≤ ln → a + k ≤ Z.length)) := hid (fun k => ⟨by rw [hL, List.drop_drop], fun hk => by rw [hln, hL, List.length_drop] at hk; omega⟩)
    clear hL hln; subst hvk; by_cases hlt : j < gn
    · have y0 : (0 : Int) ≤ (j : Int) := by omega
      have y1 : (j : Int) < (gn : Int) := by omega
      have hjG : j < G.length := by rw [← HGN.out]; exact hlt
      obtain ⟨b, u, rfl, hfv, hrg⟩ := (HG2.out.later hB.out).at j hjG; have hM' := hM.out; rw [List.drop_eq_getElem_cons hjG, matchG_cons] at hM'; generalize G[j] = x at *; obtain ⟨f, lo, hi⟩ := x; have HM := hid hM'; have HFV := hid hfv; have HRG := hid hrg; have HGI := hid (g_info u lo hi); have HRM := hid (gb_room wr); have HP := hid (gb_put wr u lo hi); have HBW := hid hbw; clear hM hM' hfv hrg hbw
      go_wp2_with (first
        | (refine wpList_load_mid rfl 137 (.tmp 21) rfl b (j * 3) rfl [u, .int .i64 lo, .int .i64 hi] _ HRG.out Tryz.underlying137 rfl HGI.out ?_)
        | (refine wpList_store_mid rfl 137 (.tmp 7) (.tmp 22) rfl wr.heap.size 0 [u, Value.int .i64 lo, Value.int .i64 hi].toArray rfl rfl HRM.out (g_infoA u lo hi) (gp_all HFV.out lo hi) ?_; generalize World.setCells _ _ _ _ = W3 at HP ⊢; have HP3 := hid HP.out; clear HP))
      have HN0 : Hid (cntG f.pr hi.toNat (L.map (kindAt ts)) = 0 + cntG f.pr (hi.toNat - 0) ((L.drop 0).map (kindAt ts))) := hid (by rw [List.drop_zero, Nat.sub_zero, Nat.zero_add]); have HB3 := hid (chain2 HBW.out HP3.out.2); have HB23 := hid (hB.out.trans (HP3.out.2.mono hB.out.size)); have HI3 := hid (hI.out.later HP3.out.2); have HFV3 := hid (HFV.out.later HP3.out.2); have HGB3 := hid HP3.out.1; clear HP3 HRM HRG HGI HFV hI HBW hB; generalize wr.heap.size = wb at *; go_loopw [8] (fun vn wr => ∃ k : Nat, k ≤ ln ∧ vn = .int .i64 (k : Int) ∧ Hid (Below W3.heap.size W3 wr) ∧ Hid (cntG f.pr hi.toNat (L.map (kindAt ts)) = k + cntG f.pr (hi.toNat - k) ((L.drop k).map (kindAt ts)))) (fun vn _ => ln - (intOf vn).toNat)
      case atStart => exact ⟨0, Nat.zero_le _, rfl, hid (Below.refl _ _), HN0⟩
      case round =>
        clear HN0; obtain ⟨k, hk, rfl, hBk, hC⟩ := hrel; obtain ⟨W1, hW1⟩ : ∃ W1, wr.drew = W1 := ⟨_, rfl⟩; have HW1 := hid hW1; have HD : Hid (Below W3.heap.size W3 W1) := hid (by rw [← hW1]; exact hBk.out.drew)
        clear hW1 hBk; have HI4 := hid (HI3.out.later HD.out); have HB4 := hid (chain2 HB3.out HD.out); have hfv := HFV3.out.later HD.out; have HGB4 := hid (HGB3.out.later HD.out); have cf : W1.cell? ⟨wb, 0, none⟩ = some u := HGB4.out.cells 0 _ rfl; have clo : W1.cell? ⟨wb, 1, none⟩ = some (.int .i64 lo) := HGB4.out.cells 1 _ rfl; have chi : W1.cell? ⟨wb, 2, none⟩ = some (.int .i64 hi) := HGB4.out.cells 2 _ rfl; have x0 : (0 : Int) ≤ (k : Int) := by omega
        by_cases hkl : k < ln
        · have v1 : (k : Int) < (ln : Int) := by omega
          have v1b : decide ((k : Int) < (ln : Int)) = true := decide_eq_true v1; have hkL : k < L.length := by rw [← HLN.out]; exact hkl
          obtain ⟨g4, o4, rfl, -, c4⟩ := HI4.out.int k hkL; obtain ⟨q, hq, hqt⟩ := HLL.out L[k] (List.getElem_mem hkL); rw [hq] at c4; have c5 := HNA.out W1 HB4.out q hqt; have hqn : (q : Int) < (n : Int) := by rw [HN.out]; omega
          have hq0 : (0 : Int) ≤ (q : Int) := by omega
          have hdr : (L.drop k).map (kindAt ts) = kindAt ts (q : Int) :: (L.drop (k + 1)).map (kindAt ts) := by
            rw [List.drop_eq_getElem_cons hkL, List.map_cons, hq]
          have hC' := hC.out; rw [hdr] at hC'; generalize kindAt ts (q : Int) = kq at *; by_cases hkh : (k : Int) < hi
          · have v2b : decide ((k : Int) < hi) = true := decide_eq_true hkh
            obtain ⟨r, hr⟩ : ∃ r, hi.toNat - k = r + 1 ∧ r = hi.toNat - (k + 1) := ⟨hi.toNat - (k + 1), by omega, rfl⟩; rw [hr.1, cntG] at hC'; cases hpr : f.pr kq with
            | true =>
              rw [hpr, if_pos rfl] at hC'; have HC2 : Hid (cntG f.pr hi.toNat (L.map (kindAt ts)) = (k + 1) + cntG f.pr (hi.toNat - (k + 1)) ((L.drop (k + 1)).map (kindAt ts))) := hid (by rw [hC', hr.2]; omega)
              clear hC hC' hdr hq hqt hr hkL; cases hfv with
              | e =>
                have d0 : Hid (Calls Tryz.prog 159 #[.int .i64 kq] W1 fun e w' => e = .returned (.bool true) ∧ w' = W1) := hid (by have := expr_any kq W1; rwa [show isExpr kq = true from hpr] at this)
                clear hpr; go_wp2_with fail
                refine region_still (by kernel_rfl) (by kernel_rfl) W1 HW1.out ?_; repeat (first | still_step | still_call d0.out)
                refine wpStill_nil ?_; clear cf clo chi c4 c5 d0 HI4 HB4 HGB4; go_wp2; go_roundw
                case rel => exact ⟨k + 1, by omega, by go_num, HD, HC2⟩
                case measure => simp [intOf]; omega
              | s =>
                have d0 : Hid (Calls Tryz.prog 158 #[.int .i64 kq] W1 fun e w' => e = .returned (.bool true) ∧ w' = W1) := hid (by have := stmt_any kq W1; rwa [show isStmt kq = true from hpr] at this)
                clear hpr; go_wp2_with fail
                refine region_still (by kernel_rfl) (by kernel_rfl) W1 HW1.out ?_; repeat (first | still_step | still_call d0.out)
                refine wpStill_nil ?_; clear cf clo chi c4 c5 d0 HI4 HB4 HGB4; go_wp2; go_roundw
                case rel => exact ⟨k + 1, by omega, by go_num, HD, HC2⟩
                case measure => simp [intOf]; omega
              | k gq cq hgq hcq =>
                have d0 : Hid (Calls Tryz.prog 187 #[.int .i64 kq, .pointer (some ⟨gq, 0, none⟩)] W1 fun e w' => e = .returned (.bool true) ∧ w' = W1) := hid (by have := is1_any gq cq kq W1 hcq; rwa [show (kq == cq) = true from hpr] at this)
                clear hpr hgq hcq; go_wp2_with fail
                refine region_still (by kernel_rfl) (by kernel_rfl) W1 HW1.out ?_; repeat (first | still_step | still_call d0.out)
                refine wpStill_nil ?_; clear cf clo chi c4 c5 d0 HI4 HB4 HGB4; go_wp2; go_roundw
                case rel => exact ⟨k + 1, by omega, by go_num, HD, HC2⟩
                case measure => simp [intOf]; omega
            | false =>
              rw [hpr, if_neg Bool.false_ne_true] at hC'; have HCE := hid hC'; clear hC hC' hdr hq hqt hr hkL; have HMF : Hid ((k : Int) < lo → matchG G (Z.map (kindAt ts)) = false) := hid (fun h => by rw [HM.out, HCE.out]; exact if_pos h)
              have HMT : Hid (¬(k : Int) < lo → matchG G (Z.map (kindAt ts)) = matchG (G.drop (j + 1)) ((Z.drop (a + k)).map (kindAt ts))) := hid (fun h => by rw [HM.out, HCE.out]; refine (if_neg h).trans ?_; rw [← List.map_drop, show k + 0 = k from rfl, (HDL.out k).1])
              obtain ⟨q2, hsl, hI5⟩ := ins_from HI4.out (by rw [← HLN.out]; exact hk) HLN.out
              have HSL := hid hsl; have HI6 : Hid (Ins W1 (.slice q2 (ln - k) (ck - k)) (Z.drop (a + k))) := hid (by rw [← (HDL.out k).1]; exact hI5)
              have HB5 : Hid (Below w2.heap.size w2 W1) := hid (HB23.out.trans (HD.out.mono HB23.out.size)); clear hI5 HI3 HI4 HCE hsl; cases hfv with
              | e =>
                have d0 : Hid (Calls Tryz.prog 159 #[.int .i64 kq] W1 fun e w' => e = .returned (.bool false) ∧ w' = W1) := hid (by have := expr_any kq W1; rwa [show isExpr kq = false from hpr] at this)
                clear hpr; go_wp2_with fail
                refine region_still (by kernel_rfl) (by kernel_rfl) W1 HW1.out ?_; repeat (first | still_step | still_call d0.out)
                refine wpStill_nil ?_; clear cf chi d0; have hsl := HSL.out; by_cases hlo : (k : Int) < lo
                · have HF := hid (HMF.out (by omega))
                  go_wp2; go_ret; exact ⟨by rw [HF.out]; rfl, HB4.out⟩
                · have HM2 := hid (HMT.out (by omega))
                  go_wp2; go_roundw
                  case rel => exact ⟨j + 1, a + k, by omega, (HDL.out k).2 hk, by go_num, HB5, HI6, HM2⟩
                  case measure => simp [intOf]; omega
              | s =>
                have d0 : Hid (Calls Tryz.prog 158 #[.int .i64 kq] W1 fun e w' => e = .returned (.bool false) ∧ w' = W1) := hid (by have := stmt_any kq W1; rwa [show isStmt kq = false from hpr] at this)
                clear hpr; go_wp2_with fail
                refine region_still (by kernel_rfl) (by kernel_rfl) W1 HW1.out ?_; repeat (first | still_step | still_call d0.out)
                refine wpStill_nil ?_; clear cf chi d0; have hsl := HSL.out; by_cases hlo : (k : Int) < lo
                · have HF := hid (HMF.out (by omega))
                  go_wp2; go_ret; exact ⟨by rw [HF.out]; rfl, HB4.out⟩
                · have HM2 := hid (HMT.out (by omega))
                  go_wp2; go_roundw
                  case rel => exact ⟨j + 1, a + k, by omega, (HDL.out k).2 hk, by go_num, HB5, HI6, HM2⟩
                  case measure => simp [intOf]; omega
              | k gq cq hgq hcq =>
                have d0 : Hid (Calls Tryz.prog 187 #[.int .i64 kq, .pointer (some ⟨gq, 0, none⟩)] W1 fun e w' => e = .returned (.bool false) ∧ w' = W1) := hid (by have := is1_any gq cq kq W1 hcq; rwa [show (kq == cq) = false from hpr] at this)
                clear hpr hgq hcq; go_wp2_with fail
                refine region_still (by kernel_rfl) (by kernel_rfl) W1 HW1.out ?_; repeat (first | still_step | still_call d0.out)
                refine wpStill_nil ?_; clear cf chi d0; have hsl := HSL.out; by_cases hlo : (k : Int) < lo
                · have HF := hid (HMF.out (by omega))
                  go_wp2; go_ret; exact ⟨by rw [HF.out]; rfl, HB4.out⟩
                · have HM2 := hid (HMT.out (by omega))
                  go_wp2; go_roundw
                  case rel => exact ⟨j + 1, a + k, by omega, (HDL.out k).2 hk, by go_num, HB5, HI6, HM2⟩
                  case measure => simp [intOf]; omega
          · have v2b : decide ((k : Int) < hi) = false := decide_eq_false hkh
            rw [show hi.toNat - k = 0 by omega, cntG_zero] at hC'; have HCE := hid hC'; clear hC hC' hdr hq hqt hkL; clear hfv; have HMF : Hid ((k : Int) < lo → matchG G (Z.map (kindAt ts)) = false) := hid (fun h => by rw [HM.out, HCE.out]; exact if_pos h)
            have HMT : Hid (¬(k : Int) < lo → matchG G (Z.map (kindAt ts)) = matchG (G.drop (j + 1)) ((Z.drop (a + k)).map (kindAt ts))) := hid (fun h => by rw [HM.out, HCE.out]; refine (if_neg h).trans ?_; rw [← List.map_drop, show k + 0 = k from rfl, (HDL.out k).1])
            obtain ⟨q2, hsl, hI5⟩ := ins_from HI4.out (by rw [← HLN.out]; exact hk) HLN.out
            have HSL := hid hsl; have HI6 : Hid (Ins W1 (.slice q2 (ln - k) (ck - k)) (Z.drop (a + k))) := hid (by rw [← (HDL.out k).1]; exact hI5)
            have HB5 : Hid (Below w2.heap.size w2 W1) := hid (HB23.out.trans (HD.out.mono HB23.out.size)); clear hI5 HI3 HI4 HCE hsl; go_wp2_with fail
            refine ws_reg (by kernel_rfl) (by kernel_rfl) W1 HW1.out ?_; iterate 11 (refine ws_step (fun K hK => ?_); go_simp; refine hK _ ?_; clear hK K)
            iterate 11 (refine ws_skip (by kernel_rfl) ?_)
            (refine ws_step (fun K hK => ?_); go_simp; refine hK _ ?_; clear hK K)
            refine ws_nil ?_; clear cf chi; have hsl := HSL.out; by_cases hlo : (k : Int) < lo
            · have HF := hid (HMF.out (by omega))
              go_wp2; go_ret; exact ⟨by rw [HF.out]; rfl, HB4.out⟩
            · have HM2 := hid (HMT.out (by omega))
              go_wp2; go_roundw
              case rel => exact ⟨j + 1, a + k, by omega, (HDL.out k).2 hk, by go_num, HB5, HI6, HM2⟩
              case measure => simp [intOf]; omega
        · have v1 : ¬(k : Int) < (ln : Int) := by omega
          have v1b : decide ((k : Int) < (ln : Int)) = false := decide_eq_false v1; have HCE : Hid (cntG f.pr hi.toNat (L.map (kindAt ts)) = k + 0) := hid (by rw [hC.out, List.drop_eq_nil_of_le (by rw [← HLN.out]; omega), List.map_nil, cntG_nil])
          clear hC hfv; have HMF : Hid ((k : Int) < lo → matchG G (Z.map (kindAt ts)) = false) := hid (fun h => by rw [HM.out, HCE.out]; exact if_pos h)
          have HMT : Hid (¬(k : Int) < lo → matchG G (Z.map (kindAt ts)) = matchG (G.drop (j + 1)) ((Z.drop (a + k)).map (kindAt ts))) := hid (fun h => by rw [HM.out, HCE.out]; refine (if_neg h).trans ?_; rw [← List.map_drop, show k + 0 = k from rfl, (HDL.out k).1])
          obtain ⟨q2, hsl, hI5⟩ := ins_from HI4.out (by rw [← HLN.out]; exact hk) HLN.out
          have HSL := hid hsl; have HI6 : Hid (Ins W1 (.slice q2 (ln - k) (ck - k)) (Z.drop (a + k))) := hid (by rw [← (HDL.out k).1]; exact hI5)
          have HB5 : Hid (Below w2.heap.size w2 W1) := hid (HB23.out.trans (HD.out.mono HB23.out.size)); clear hI5 HI3 HI4 HCE hsl; go_wp2_with fail
          refine ws_reg (by kernel_rfl) (by kernel_rfl) W1 HW1.out ?_; iterate 5 (refine ws_step (fun K hK => ?_); go_simp; refine hK _ ?_; clear hK K)
          iterate 4 (refine ws_skip (by kernel_rfl) ?_)
          iterate 2 (refine ws_step (fun K hK => ?_); go_simp; refine hK _ ?_; clear hK K)
          iterate 11 (refine ws_skip (by kernel_rfl) ?_)
          (refine ws_step (fun K hK => ?_); go_simp; refine hK _ ?_; clear hK K)
          refine ws_nil ?_; clear cf chi; have hsl := HSL.out; by_cases hlo : (k : Int) < lo
          · have HF := hid (HMF.out (by omega))
            go_wp2; go_ret; exact ⟨by rw [HF.out]; rfl, HB4.out⟩
          · have HM2 := hid (HMT.out (by omega))
            go_wp2; go_roundw
            case rel => exact ⟨j + 1, a + k, by omega, (HDL.out k).2 hk, by go_num, HB5, HI6, HM2⟩
            case measure => simp [intOf]; omega
    · obtain rfl : j = gn := by omega
      have HF : Hid (matchG G (Z.map (kindAt ts)) = decide (ln = 0)) := hid (by rw [hM.out, List.drop_eq_nil_of_le (by rw [HGN.out]; exact Nat.le_refl _)]; show decide _ = _; rw [List.length_map, HLN.out])
      have HBW := hid hbw
      have hq : ((ln : Int) == 0) = decide (ln = 0) := by
        by_cases h : ln = 0
        · rw [h]; rfl
        · rw [decide_eq_false h]; simp; omega
      clear hM hI hbw; go_wp2; go_ret; exact ⟨by rw [HF.out]; rfl, HBW.out⟩
end Go.Proofs.YtmljjpdodcpohaaGreatDoor.Tr

