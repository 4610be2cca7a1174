/- The document's printer; The document's printer; The document's printer. No condition but those that each states. -/
import Derived.Test.YtmljjpdodcpohaaGreatDoorMgAR
namespace Go.Proofs.YtmljjpdodcpohaaGreatDoor.Sw
open Lib (hid)
set_option maxRecDepth 100000
set_option maxHeartbeats 4000000
open Go.RowKit Dk Lx Tr
theorem step_append_run {P : Program} (w : World) {ops : Array Oper} {o : Oper} {a : Act} {K : Act → World → Prop} {Q : Exit → Act → World → Prop} {E : Prop} (hgd : o.guard = none) (s x : Operand) (t tn : TypeId)
    (ho : o.op = .call { callee := .builtin .append, args := #[s, x], argTypes := #[t, tn] }) (vs vx : Value) (hs : a.eval s = vs) (hx : a.eval x = vx)
    (v' : Value) (w' : World) (hr : (Builtin.append_ #[t, tn] o.type #[vs, vx]).run P w = .ok v' w') (h : K (a.put o.dst v') w') : if Region.wanted o (yielded ops a.tmps) = true then Oper.wp P o a w K Q else E := by
  have hw : Region.wanted o (yielded ops a.tmps) = true := by simp [Region.wanted, hgd]
  rw [if_pos hw]; exact Lib.wp_append_run w s x t tn ho vs vx hs hx v' w' hr h
theorem ts_two {w W : World} {p : Option Addr} {n c : Nat} {L : List Tk} (h : TS w W p n c L) (k z a : Int) (s : List UInt8) (k2 z2 a2 : Int) (s2 : List UInt8) (hb : n ≤ 9000000) :
    ∃ g cap W', (Builtin.append_ #[25, 25] 25 #[.slice p n c, .slice (some ⟨W.heap.size, 0, none⟩) 2 2]).run Tryz.prog (W.alloc (.cells #[.int .i64 k, .string (strOf s), .int .i64 z, .int .i64 a, .int .i64 k2, .string (strOf s2), .int .i64 z2, .int .i64 a2] 73)) = .ok (.slice (some ⟨g, 0, none⟩) (n + 2) cap) W' ∧ TS w W' (some ⟨g, 0, none⟩) (n + 2) cap (L ++ [⟨k, s, z, a⟩, ⟨k2, s2, z2, a2⟩]) :=
  ts_append (h.later ((Below.refl _ _).alloc (Nat.le_refl _) _)) [⟨k, s, z, a⟩, ⟨k2, s2, z2, a2⟩] 2 2 ⟨W.heap.size, 0, none⟩ rfl (by decide) (news_at W #[.int .i64 k, .string (strOf s), .int .i64 z, .int .i64 a, .int .i64 k2, .string (strOf s2), .int .i64 z2, .int .i64 a2] 73) (by omega)
theorem nd_3 {l : List Nd} {v : Value} {w0 : World} {N : Nat} (hN : NodR l v w0 N) (i : Nat) (k : Int) (q : List UInt8) (z : Int) (s : List UInt8) (o : List Tk) (l' : List Nd) (w : World) (d : Nat) (hd : d ≤ 100000) (ha : NdAt l v w i ⟨k, (d : Int), q, z, s⟩) (hl : (l.drop (i + 1)).length < N) (hw : Below w0.heap.size w0 w) (ho : o.length ≤ 100000) (hkd : k = 3)
    (hp : Prn [.nd .part] (l.drop i) o l') (d1 : Nat) (hd1 : d = d1 + 1) (hq : Prn (sg [102, 110] :: nm q :: fnX (d1 + 1)) (l.drop (pos (kidsOf l) (i + 1) 0)) o l') (hnm : ofT q = nmT q) (hql : q.length ≤ 2 ^ 40) :
    Calls Tryz.prog 31 #[v, .int .i64 (i : Int)] w fun e w' => ∃ u, e = .returned u ∧ TR w w' u o := by
  obtain ⟨p, c, hv, -⟩ := id ha.nds; subst hv; obtain ⟨g, o0, hp0, -, -, -, -, -, -, hr⟩ := ha.nds.node i ha.lt; subst hp0; rw [ha.is] at hr; have z0 : (0 : Int) ≤ (i : Int) := by omega
  have z1 : (i : Int) < (l.length : Int) := by have := ha.lt; omega
  obtain ⟨x, hx⟩ : ∃ x : Nd, x = ⟨k, (d : Int), q, z, s⟩ := ⟨_, rfl⟩; rw [← hx] at hr; have HX := hid hx; clear hx; have HR := hid hr; have RK := hid (fun (W : World) (h : Below w.heap.size w W) => kids_at ha hp d rfl W h); obtain ⟨t0, e0, hq0⟩ := hq.tok_inv; obtain ⟨a0, e1, hq1⟩ := hq0.tok_inv; have hoE : o = [sgn [102, 110], nmT q] ++ a0 := by rw [e0, e1]; rfl
  have hpos : 0 < a0.length := by obtain ⟨t1, t2, l1, he, h1, h2⟩ := hq1.split (lstX .par (d1 + 1 - 1)) [.nd .blk] rfl; rw [he, List.length_append]; have := prn_pos1 _ (Nat.lt_succ_self _) h2; omega
  have hal : a0.length ≤ 100000 := by have := congrArg List.length hoE; simp at this; omega
  have LAST := hid (fun (g5 c5 : Nat) (W : World) (h : Below w.heap.size w W) (hk : Ins W (.slice (some ⟨g5, 0, none⟩) (d1 + 1) c5) (PosI l (i + 1) 0 (d1 + 1))) (hc : d1 + 1 ≤ c5) => tail_any hN (i + 1) d1 g5 0 c5 a0 l' W hk hc hq1 hl (chain2 hw h) (by omega) (by omega)); have HPOS := hid hpos; have HAL := hid hal; have HE := hid hoE; have OF1 : Hid (∀ W, Calls Tryz.prog 69 #[.string ⟨#[102, 110]⟩] W fun e w' => e = .returned (.agg #[.int .i64 5, .string ⟨#[102, 110]⟩, .int .i64 0, .int .i64 0]) ∧ Below W.heap.size W w') := hid (fun W => of_one [102, 110] 5 (by decide) (by decide) W); have OF2 := hid (fun W => of_one q 1 hql (by rw [hnm]; rfl) W)
  subst hkd; subst hd1; have RS := hid (fun (k : Int) W => rstmt_any k W); have RE := hid (fun (k : Int) W => rexpr_any k W); have HI := hid (n_info x); have hia := n_infoA x; have hla := n_all x; have HZ := hid (nb_zero w); have HPT := hid (nb_put w x); obtain ⟨n, hn⟩ : ∃ n, n = l.length := ⟨_, rfl⟩; rw [← hn] at z1 RK LAST ⊢; clear hr ha hp hw hl hN ho hn hq e0 e1 hq0 hq1 hoE hpos hal; go_enter Tryz.func31, Tryz.ntmps31
  go_upto_region 2 with (first
    | (refine wpList_load_mid rfl 58 (.tmp 11) rfl g (o0 + i * 5) rfl x.cells _ HR.out Tryz.underlying58 rfl HI.out ?_)
    | (refine wpList_store_mid rfl 58 (.tmp 5) (.tmp 12) rfl w.heap.size 0 x.cells.toArray rfl rfl HZ.out.room hia hla ?_; generalize World.setCells _ _ _ _ = W3 at HPT ⊢)
    | fail)
  go_wp2_with fail
  refine (RK.out W3 HPT.out.2).mono ?_; rintro e w4 ⟨kv, rfl, hk⟩; have HNB := hid (HPT.out.1.later hk.below); have HB4 := hid (chain2 HPT.out.2 hk.below); obtain ⟨c0, -, c2, c3, c4⟩ := HNB.out.at; rw [HX.out] at c0 c2 c3 c4; obtain ⟨p5, c5, hkv, -, hk0⟩ := Tr.own_form0 hk.row; have HK0 := hid hk0; clear hk0; rw [posI_len] at hkv; subst hkv; have HK := hid hk.ins; clear hk RK HPT; go_wp2_with fail
  refine (RS.out _ _).mono ?_; rintro e w5 ⟨rfl, hww⟩; subst w5; rw [show isStmt 3 = false by rfl]; go_wp2_with fail
  refine (RE.out _ _).mono ?_; rintro e w5 ⟨rfl, hww⟩; subst w5; rw [show isExpr 3 = false by rfl]; obtain ⟨g5, o5, hp5, hg5, -⟩ := HK.out.int 0 (by rw [posI_len]; omega)
  subst hp5; obtain ⟨rfl, -⟩ := HK0.out _ _ _ rfl; have hcap : d1 + 1 ≤ c5 := by obtain ⟨p', c', he, hc, -⟩ := HK.out; simp only [Value.slice.injEq] at he; rw [posI_len] at hc; omega
  have HSC : Hid (∀ W, Below w4.heap.size w4 W → W.cell? ⟨w.heap.size, 2, none⟩ = some (.string (strOf q))) := hid (fun W hb => (World.cell?_of_block (a := ⟨w.heap.size, 2, none⟩) (hb.block _ HNB.out.lt)).trans c2); have hnb := HNB.out.lt; go_wp2_with fail
  go_region_held3 (fun w' => w'.cell? ⟨w.heap.size, 2, none⟩ = some (.string (strOf q))) (first | exact h93 | exact h92 | exact h91 | go_keep)
    (first
      | (go_simp; go_at_call 69; with_reducible refine (OF1.out _).mono ?_; rintro e w6 ⟨rfl, hb6⟩; have HB6 := hid (chain2 (Below.refl w4.heap.size w4).drew hb6); have h91 := HSC.out _ HB6.out; clear hb6)
      | (go_simp; go_at_call 69; with_reducible refine (OF2.out _).mono ?_; rintro e w7 ⟨rfl, hb7⟩; have HB7 := hid (chain2 HB6.out hb7); have h92 := HSC.out _ HB7.out; clear hb7; obtain ⟨g20, cap20, w8, hrr, hts⟩ := ts_two ((ts_first w4).later HB7.out) 5 0 0 [102, 110] 1 0 0 q (by decide); have HTS := hid hts; have h93 := HSC.out _ hts.below; clear hts)
      | (refine step_append_run _ (by rfl) _ _ _ _ (by rfl) _ _ (by rfl) (by rfl) _ _ hrr ?_))
  have X1 := hid (LAST.out g5 c5 w8 (chain2 HB4.out HTS.out.below) (HK.out.later HTS.out.below) hcap); clear LAST hrr h91 h92 h93; go_wp2_with fail
  refine X1.out.mono ?_; rintro e w11 ⟨u1, rfl, hu0⟩; obtain ⟨g21, d20, e20, cap21, w30, m20, f20, hv, hrr, hts⟩ := ts_row HTS.out hu0 HPOS.out (by have := HAL.out; omega)
  subst hv; have HTS1 := hid hts; clear hts hu0 X1 HTS; go_wp2_with (at_builtin; refine Lib.wpList_append_run _ rfl _ _ _ _ rfl _ _ rfl rfl _ _ hrr ?_)
  clear hrr; go_ret; exact ⟨_, rfl, by rw [HE.out]; exact tr_from HTS1.out.tr HB4.out⟩
end Go.Proofs.YtmljjpdodcpohaaGreatDoor.Sw

namespace Go.Proofs.YtmljjpdodcpohaaGreatDoor.Sw
open Lib (hid)
set_option maxRecDepth 100000
set_option maxHeartbeats 4000000
open Go.RowKit Dk Lx Tr
theorem ts_many {w W : World} {p : Option Addr} {n c : Nat} {L : List Tk} (h : TS w W p n c L) (M : List Tk) (m : Nat) (cs : Array Value) (hcs : cs.toList = tcells M) (hM : m = M.length) (hm : 0 < m) (hb : n + m ≤ 10000000) :
    ∃ g cap W', (Builtin.append_ #[25, 25] 25 #[.slice p n c, .slice (some ⟨W.heap.size, 0, none⟩) m m]).run Tryz.prog (W.alloc (.cells cs 73)) = .ok (.slice (some ⟨g, 0, none⟩) (n + m) cap) W' ∧ TS w W' (some ⟨g, 0, none⟩) (n + m) cap (L ++ M) :=
  ts_append (h.later ((Below.refl _ _).alloc (Nat.le_refl _) _)) M m m ⟨W.heap.size, 0, none⟩ hM hm (by rw [← hcs]; exact news_at W cs 73) hb
theorem nd_2 {l : List Nd} {v : Value} {w0 : World} {N : Nat} (hN : NodR l v w0 N) (i : Nat) (k : Int) (q : List UInt8) (z : Int) (s : List UInt8) (o : List Tk) (l' : List Nd) (w : World) (d : Nat) (_hd : d ≤ 100000) (ha : NdAt l v w i ⟨k, (d : Int), q, z, s⟩) (_hl : (l.drop (i + 1)).length < N) (_hw : Below w0.heap.size w0 w) (_ho : o.length ≤ 100000) (hkd : k = 2)
    (hp : Prn [.nd .part] (l.drop i) o l') (u : Nat) (hz : z = (u : Int)) (hu : u < 9223372036854775808) (hq : o = [sgn [117, 115, 101], nmT q, sgn [46], nmT s, sgn [47], inT (u : Int), sgn [59]]) (hnm : ofT q = nmT q) (hnt : ofT s = nmT s) (hql : q.length ≤ 2 ^ 40) (hsl : s.length ≤ 2 ^ 40) :
    Calls Tryz.prog 31 #[v, .int .i64 (i : Int)] w fun e w' => ∃ u, e = .returned u ∧ TR w w' u o := by
  obtain ⟨p, c, hv, -⟩ := id ha.nds; subst hv; obtain ⟨g, o0, hp0, -, -, -, -, -, -, hr⟩ := ha.nds.node i ha.lt; subst hp0; rw [ha.is] at hr; have z0 : (0 : Int) ≤ (i : Int) := by omega
  have z1 : (i : Int) < (l.length : Int) := by have := ha.lt; omega
  obtain ⟨x, hx⟩ : ∃ x : Nd, x = ⟨k, (d : Int), q, z, s⟩ := ⟨_, rfl⟩; rw [← hx] at hr; have HX := hid hx; clear hx; have HR := hid hr; have RK := hid (fun (W : World) (h : Below w.heap.size w W) => kids_at ha hp d rfl W h); subst hz; have hoE := hq; have NA0 := hid (fun W => number_any u hu W); obtain ⟨T, hT⟩ : ∃ T, T = Lib.itoa (u : Int) := ⟨_, rfl⟩; have HT : Hid (inT (u : Int) = ⟨2, T, (u : Int), 0⟩) := hid (by rw [hT]; rfl)
  clear hT; rw [HT.out] at NA0 hoE; have NA : Hid (∀ W, Calls Tryz.prog 70 #[.int .i64 (u : Int)] W fun e w' => e = .returned (.agg #[.int .i64 2, .string (strOf T), .int .i64 (u : Int), .int .i64 0]) ∧ Below W.heap.size W w') := NA0; clear NA0; have HE := hid hoE; have OF0 : Hid (∀ W, Calls Tryz.prog 69 #[.string ⟨#[117, 115, 101]⟩] W fun e w' => e = .returned (.agg #[.int .i64 5, .string ⟨#[117, 115, 101]⟩, .int .i64 0, .int .i64 0]) ∧ Below W.heap.size W w') := hid (fun W => of_one [117, 115, 101] 5 (by decide) (by decide) W); have OF1 := hid (fun W => of_one q 1 hql (by rw [hnm]; rfl) W)
  have OF2 : Hid (∀ W, Calls Tryz.prog 69 #[.string ⟨#[46]⟩] W fun e w' => e = .returned (.agg #[.int .i64 4, .string ⟨#[46]⟩, .int .i64 0, .int .i64 0]) ∧ Below W.heap.size W w') := hid (fun W => of_one [46] 4 (by decide) (by decide) W); have OF3 := hid (fun W => of_one s 1 hsl (by rw [hnt]; rfl) W)
  have OF4 : Hid (∀ W, Calls Tryz.prog 69 #[.string ⟨#[47]⟩] W fun e w' => e = .returned (.agg #[.int .i64 4, .string ⟨#[47]⟩, .int .i64 0, .int .i64 0]) ∧ Below W.heap.size W w') := hid (fun W => of_one [47] 4 (by decide) (by decide) W); have OF6 : Hid (∀ W, Calls Tryz.prog 69 #[.string ⟨#[59]⟩] W fun e w' => e = .returned (.agg #[.int .i64 4, .string ⟨#[59]⟩, .int .i64 0, .int .i64 0]) ∧ Below W.heap.size W w') := hid (fun W => of_one [59] 4 (by decide) (by decide) W); subst hkd; have RS := hid (fun (k : Int) W => rstmt_any k W); have RE := hid (fun (k : Int) W => rexpr_any k W); have HI := hid (n_info x); have hia := n_infoA x; have hla := n_all x; have HZ := hid (nb_zero w); have HPT := hid (nb_put w x); obtain ⟨n, hn⟩ : ∃ n, n = l.length := ⟨_, rfl⟩; rw [← hn] at z1 RK ⊢; clear hr ha hp _hw _hl hN _ho hn hq hoE; go_enter Tryz.func31, Tryz.ntmps31
  go_upto_region 2 with (first
    | (refine wpList_load_mid rfl 58 (.tmp 11) rfl g (o0 + i * 5) rfl x.cells _ HR.out Tryz.underlying58 rfl HI.out ?_)
    | (refine wpList_store_mid rfl 58 (.tmp 5) (.tmp 12) rfl w.heap.size 0 x.cells.toArray rfl rfl HZ.out.room hia hla ?_; generalize World.setCells _ _ _ _ = W3 at HPT ⊢)
    | fail)
  go_wp2_with fail
  refine (RK.out W3 HPT.out.2).mono ?_; rintro e w4 ⟨kv, rfl, hk⟩; have HNB := hid (HPT.out.1.later hk.below); have HB4 := hid (chain2 HPT.out.2 hk.below); obtain ⟨c0, -, c2, c3, c4⟩ := HNB.out.at; rw [HX.out] at c0 c2 c3 c4; obtain ⟨p5, c5, hkv, -, hk0⟩ := Tr.own_form0 hk.row; have HK0 := hid hk0; clear hk0; rw [posI_len] at hkv; subst hkv; have HK := hid hk.ins; clear hk RK HPT; go_wp2_with fail
  refine (RS.out _ _).mono ?_; rintro e w5 ⟨rfl, hww⟩; subst w5; rw [show isStmt 2 = false by rfl]; go_wp2_with fail
  refine (RE.out _ _).mono ?_; rintro e w5 ⟨rfl, hww⟩; subst w5; rw [show isExpr 2 = false by rfl]; have HSC : Hid (∀ w' : World, Below w4.heap.size w4 w' → w'.cell? ⟨w.heap.size, 2, none⟩ = some (.string (strOf q)) ∧ w'.cell? ⟨w.heap.size, 3, none⟩ = some (.int .i64 (u : Int)) ∧ w'.cell? ⟨w.heap.size, 4, none⟩ = some (.string (strOf s))) := hid (fun W hb => ⟨(World.cell?_of_block (a := ⟨w.heap.size, 2, none⟩) (hb.block _ HNB.out.lt)).trans c2, (World.cell?_of_block (a := ⟨w.heap.size, 3, none⟩) (hb.block _ HNB.out.lt)).trans c3, (World.cell?_of_block (a := ⟨w.heap.size, 4, none⟩) (hb.block _ HNB.out.lt)).trans c4⟩); have hnb := HNB.out.lt; go_wp2_with fail
  go_region_held3 (fun w' => w'.cell? ⟨w.heap.size, 2, none⟩ = some (.string (strOf q)) ∧ w'.cell? ⟨w.heap.size, 3, none⟩ = some (.int .i64 (u : Int)) ∧ w'.cell? ⟨w.heap.size, 4, none⟩ = some (.string (strOf s))) (first | exact hz | exact h906 | exact h905 | exact h904 | exact h903 | exact h902 | exact h901 | exact h900 | go_keep | (refine ⟨?_, ?_, ?_⟩ <;> go_keep))
    (first
    | (go_simp; go_at_call 69; with_reducible refine (OF0.out _).mono ?_; rintro e w40 ⟨rfl, hb6⟩; have HBc0 := hid (chain2 (Below.refl w4.heap.size w4).drew hb6); have h900 := HSC.out _ HBc0.out; clear hb6)
    | (go_simp; go_at_call 69; with_reducible refine (OF1.out _).mono ?_; rintro e w41 ⟨rfl, hb6⟩; have HBc1 := hid (chain2 HBc0.out hb6); have h901 := HSC.out _ HBc1.out; clear hb6)
    | (go_simp; go_at_call 69; with_reducible refine (OF2.out _).mono ?_; rintro e w42 ⟨rfl, hb6⟩; have HBc2 := hid (chain2 HBc1.out hb6); have h902 := HSC.out _ HBc2.out; clear hb6)
    | (go_simp; go_at_call 69; with_reducible refine (OF3.out _).mono ?_; rintro e w43 ⟨rfl, hb6⟩; have HBc3 := hid (chain2 HBc2.out hb6); have h903 := HSC.out _ HBc3.out; clear hb6)
    | (go_simp; go_at_call 69; with_reducible refine (OF4.out _).mono ?_; rintro e w44 ⟨rfl, hb6⟩; have HBc4 := hid (chain2 HBc3.out hb6); have h904 := HSC.out _ HBc4.out; clear hb6)
    | (go_simp; go_at_call 70; with_reducible refine (NA.out _).mono ?_; rintro e w45 ⟨rfl, hb6⟩; have HBc5 := hid (chain2 HBc4.out hb6); have h905 := HSC.out _ HBc5.out; clear hb6)
    | (go_simp; go_at_call 69; with_reducible refine (OF6.out _).mono ?_; rintro e w46 ⟨rfl, hb6⟩; have HBc6 := hid (chain2 HBc5.out hb6); have h906 := HSC.out _ HBc6.out; clear hb6; obtain ⟨g20, cap20, w8, hrr, hts⟩ := ts_many ((ts_first w4).later HBc6.out) [⟨5, [117, 115, 101], 0, 0⟩, ⟨1, q, 0, 0⟩, ⟨4, [46], 0, 0⟩, ⟨1, s, 0, 0⟩, ⟨4, [47], 0, 0⟩, ⟨2, T, (u : Int), 0⟩, ⟨4, [59], 0, 0⟩] 7 #[.int .i64 5, .string ⟨#[117, 115, 101]⟩, .int .i64 0, .int .i64 0, .int .i64 1, .string (strOf q), .int .i64 0, .int .i64 0, .int .i64 4, .string ⟨#[46]⟩, .int .i64 0, .int .i64 0, .int .i64 1, .string (strOf s), .int .i64 0, .int .i64 0, .int .i64 4, .string ⟨#[47]⟩, .int .i64 0, .int .i64 0, .int .i64 2, .string (strOf T), .int .i64 (u : Int), .int .i64 0, .int .i64 4, .string ⟨#[59]⟩, .int .i64 0, .int .i64 0] rfl rfl (by decide) (by decide); rw [Nat.zero_add] at hrr hts; have HTS := hid hts; have hz := HSC.out _ hts.below; clear hts)
    | (refine step_append_run _ (by rfl) _ _ _ _ (by rfl) _ _ (by rfl) (by rfl) _ _ hrr ?_))
  go_wp2; go_ret; exact ⟨_, rfl, by rw [HE.out]; exact tr_from HTS.out.tr HB4.out⟩
end Go.Proofs.YtmljjpdodcpohaaGreatDoor.Sw

namespace Go.Proofs.YtmljjpdodcpohaaGreatDoor.Sw
open Lib (hid)
set_option maxRecDepth 100000
set_option maxHeartbeats 4000000
open Go.RowKit Dk Lx Tr
theorem nd_1 {l : List Nd} {v : Value} {w0 : World} {N : Nat} (hN : NodR l v w0 N) (i : Nat) (k : Int) (q : List UInt8) (z : Int) (s : List UInt8) (o : List Tk) (l' : List Nd) (w : World) (d : Nat) (hd : d ≤ 100000) (ha : NdAt l v w i ⟨k, (d : Int), q, z, s⟩) (hl : (l.drop (i + 1)).length < N) (hw : Below w0.heap.size w0 w) (ho : o.length ≤ 100000) (hkd : k = 1)
    (hp : Prn [.nd .mod] (l.drop i) o l') (u : Nat) (hz : z = (u : Int)) (hu : u < 9223372036854775808) (a0 : List Tk) (hq : o = [sgn [109, 111, 100, 117, 108, 101], nmT q, inT (u : Int), sgn [59]] ++ a0) (hq2 : Prn (List.replicate d (.nd .part) ++ []) (l.drop (pos (kidsOf l) (i + 1) 0)) a0 l') (hnm : ofT q = nmT q) (hql : q.length ≤ 2 ^ 40) :
    Calls Tryz.prog 31 #[v, .int .i64 (i : Int)] w fun e w' => ∃ u, e = .returned u ∧ TR w w' u o := by
  obtain ⟨p, c, hv, -⟩ := id ha.nds; subst hv; obtain ⟨g, o0, hp0, -, -, -, -, -, -, hr⟩ := ha.nds.node i ha.lt; subst hp0; rw [ha.is] at hr; have z0 : (0 : Int) ≤ (i : Int) := by omega
  have z1 : (i : Int) < (l.length : Int) := by have := ha.lt; omega
  obtain ⟨x, hx⟩ : ∃ x : Nd, x = ⟨k, (d : Int), q, z, s⟩ := ⟨_, rfl⟩; rw [← hx] at hr; have HX := hid hx; clear hx; have HR := hid hr; have RK := hid (fun (W : World) (h : Below w.heap.size w W) => kids_at ha hp d rfl W h); subst hz; have hoE := hq; have NA0 := hid (fun W => number_any u hu W); obtain ⟨T, hT⟩ : ∃ T, T = Lib.itoa (u : Int) := ⟨_, rfl⟩; have HT : Hid (inT (u : Int) = ⟨2, T, (u : Int), 0⟩) := hid (by rw [hT]; rfl)
  clear hT; rw [HT.out] at NA0 hoE; have NA : Hid (∀ W, Calls Tryz.prog 70 #[.int .i64 (u : Int)] W fun e w' => e = .returned (.agg #[.int .i64 2, .string (strOf T), .int .i64 (u : Int), .int .i64 0]) ∧ Below W.heap.size W w') := NA0; clear NA0; have HE := hid hoE; have HQ0 := hid hq2; have HLO := hid ho; have HN := hid hN; have HW := hid hw; have HL := hid hl; have OF0 : Hid (∀ W, Calls Tryz.prog 69 #[.string ⟨#[109, 111, 100, 117, 108, 101]⟩] W fun e w' => e = .returned (.agg #[.int .i64 5, .string ⟨#[109, 111, 100, 117, 108, 101]⟩, .int .i64 0, .int .i64 0]) ∧ Below W.heap.size W w') := hid (fun W => of_one [109, 111, 100, 117, 108, 101] 5 (by decide) (by decide) W); have OF1 := hid (fun W => of_one q 1 hql (by rw [hnm]; rfl) W)
  have OF3 : Hid (∀ W, Calls Tryz.prog 69 #[.string ⟨#[59]⟩] W fun e w' => e = .returned (.agg #[.int .i64 4, .string ⟨#[59]⟩, .int .i64 0, .int .i64 0]) ∧ Below W.heap.size W w') := hid (fun W => of_one [59] 4 (by decide) (by decide) W); subst hkd; have RS := hid (fun (k : Int) W => rstmt_any k W); have RE := hid (fun (k : Int) W => rexpr_any k W); have HI := hid (n_info x); have hia := n_infoA x; have hla := n_all x; have HZ := hid (nb_zero w); have HPT := hid (nb_put w x); obtain ⟨n, hn⟩ : ∃ n, n = l.length := ⟨_, rfl⟩; rw [← hn] at z1 RK HN ⊢; clear hr ha hp hw hl hN ho hn hq hoE hq2; go_enter Tryz.func31, Tryz.ntmps31
  go_upto_region 2 with (first
    | (refine wpList_load_mid rfl 58 (.tmp 11) rfl g (o0 + i * 5) rfl x.cells _ HR.out Tryz.underlying58 rfl HI.out ?_)
    | (refine wpList_store_mid rfl 58 (.tmp 5) (.tmp 12) rfl w.heap.size 0 x.cells.toArray rfl rfl HZ.out.room hia hla ?_; generalize World.setCells _ _ _ _ = W3 at HPT ⊢)
    | fail)
  go_wp2_with fail
  refine (RK.out W3 HPT.out.2).mono ?_; rintro e w4 ⟨kv, rfl, hk⟩; have HNB := hid (HPT.out.1.later hk.below); have HB4 := hid (chain2 HPT.out.2 hk.below); obtain ⟨c0, -, c2, c3, c4⟩ := HNB.out.at; rw [HX.out] at c0 c2 c3 c4; obtain ⟨p5, c5, hkv, -, hk0⟩ := Tr.own_form0 hk.row; have HK0 := hid hk0; clear hk0; rw [posI_len] at hkv; subst hkv; have HK := hid hk.ins; clear hk RK HPT; go_wp2_with fail
  refine (RS.out _ _).mono ?_; rintro e w5 ⟨rfl, hww⟩; subst w5; rw [show isStmt 1 = false by rfl]; go_wp2_with fail
  refine (RE.out _ _).mono ?_; rintro e w5 ⟨rfl, hww⟩; subst w5; rw [show isExpr 1 = false by rfl]; have HSC : Hid (∀ w' : World, Below w4.heap.size w4 w' → w'.cell? ⟨w.heap.size, 2, none⟩ = some (.string (strOf q)) ∧ w'.cell? ⟨w.heap.size, 3, none⟩ = some (.int .i64 (u : Int)) ∧ w'.cell? ⟨w.heap.size, 4, none⟩ = some (.string (strOf s))) := hid (fun W hb => ⟨(World.cell?_of_block (a := ⟨w.heap.size, 2, none⟩) (hb.block _ HNB.out.lt)).trans c2, (World.cell?_of_block (a := ⟨w.heap.size, 3, none⟩) (hb.block _ HNB.out.lt)).trans c3, (World.cell?_of_block (a := ⟨w.heap.size, 4, none⟩) (hb.block _ HNB.out.lt)).trans c4⟩); have hnb := HNB.out.lt; go_wp2_with fail
  go_region_held3 (fun w' => w'.cell? ⟨w.heap.size, 2, none⟩ = some (.string (strOf q)) ∧ w'.cell? ⟨w.heap.size, 3, none⟩ = some (.int .i64 (u : Int)) ∧ w'.cell? ⟨w.heap.size, 4, none⟩ = some (.string (strOf s))) (first | exact hz | exact h903 | exact h902 | exact h901 | exact h900 | go_keep | (refine ⟨?_, ?_, ?_⟩ <;> go_keep))
    (first
    | (go_simp; go_at_call 69; with_reducible refine (OF0.out _).mono ?_; rintro e w40 ⟨rfl, hb6⟩; have HBc0 := hid (chain2 (Below.refl w4.heap.size w4).drew hb6); have h900 := HSC.out _ HBc0.out; clear hb6)
    | (go_simp; go_at_call 69; with_reducible refine (OF1.out _).mono ?_; rintro e w41 ⟨rfl, hb6⟩; have HBc1 := hid (chain2 HBc0.out hb6); have h901 := HSC.out _ HBc1.out; clear hb6)
    | (go_simp; go_at_call 70; with_reducible refine (NA.out _).mono ?_; rintro e w42 ⟨rfl, hb6⟩; have HBc2 := hid (chain2 HBc1.out hb6); have h902 := HSC.out _ HBc2.out; clear hb6)
    | (go_simp; go_at_call 69; with_reducible refine (OF3.out _).mono ?_; rintro e w43 ⟨rfl, hb6⟩; have HBc3 := hid (chain2 HBc2.out hb6); have h903 := HSC.out _ HBc3.out; clear hb6; obtain ⟨g20, cap20, w8, hrr, hts⟩ := ts_many ((ts_first w4).later HBc3.out) [⟨5, [109, 111, 100, 117, 108, 101], 0, 0⟩, ⟨1, q, 0, 0⟩, ⟨2, T, (u : Int), 0⟩, ⟨4, [59], 0, 0⟩] 4 #[.int .i64 5, .string ⟨#[109, 111, 100, 117, 108, 101]⟩, .int .i64 0, .int .i64 0, .int .i64 1, .string (strOf q), .int .i64 0, .int .i64 0, .int .i64 2, .string (strOf T), .int .i64 (u : Int), .int .i64 0, .int .i64 4, .string ⟨#[59]⟩, .int .i64 0, .int .i64 0] rfl rfl (by decide) (by decide); rw [Nat.zero_add] at hrr hts; have HTS := hid hts; have hz := HSC.out _ hts.below; clear hts)
    | (refine step_append_run _ (by rfl) _ _ _ _ (by rfl) _ _ (by rfl) (by rfl) _ _ hrr ?_))
  have HTS0 := HTS; clear HTS hrr hz h900 h901 h902 h903 HSC; go_wp2; go_loopw [7, 8] (fun v7 vi wr => ∃ (j : Nat) (ta oi : List Tk), j ≤ d ∧ vi = .int .i64 (j : Int) ∧ Hid (TR w4 wr v7 ta) ∧ Hid (Prn (List.replicate (d - j) (.nd .part) ++ []) (l.drop (pos (kidsOf l) (i + 1) j)) oi l') ∧ Hid (o = ta ++ oi)) (fun _ vi _ => d - (intOf vi).toNat)
  case atStart => exact ⟨0, _, a0, Nat.zero_le _, rfl, hid HTS0.out.tr, HQ0, HE⟩
  case round =>
    clear HQ0 HE HTS0 c0 c2 c3 c4; obtain ⟨j, ta, oi, hj, rfl, HT, HP, HEQ⟩ := hrel; have HBL : Hid (ta.length + oi.length ≤ 100000) := hid (by have h1 := HLO.out; rw [HEQ.out, List.length_append] at h1; exact h1)
    obtain ⟨p7, n7, c7, hv7, hts⟩ := tr_ts HT.out; subst hv7; have HTS := hid hts; clear hts; by_cases hlt : j < d
    · obtain ⟨g1, o1x, hp1, hg1, hcw⟩ := HK.out.int j (by rw [posI_len]; exact hlt)
      rw [posI_at, Nat.zero_add] at hcw; subst hp1; have hc1 := (World.cell?_of_block (a := ⟨g1, o1x + j, none⟩) (HT.out.below.block g1 hg1)).trans hcw; clear hcw; have y0 : (0 : Int) ≤ (j : Int) := by omega
      have y1 : (j : Int) < (d : Int) := by omega
      have hq := HP.out; rw [show d - j = (d - (j + 1)) + 1 by omega, List.replicate_succ, List.cons_append] at hq; obtain ⟨o1, o2, l1, he, hq1, hq2⟩ := Prn.nd_cons (A := List.replicate (d - (j + 1)) (.nd .part) ++ []) hq; have HPOS := hid (prn_pos1 _ (Nat.lt_succ_self _) hq1); have HQ2 : Hid (Prn (List.replicate (d - (j + 1)) (.nd .part) ++ []) (l.drop (pos (kidsOf l) (i + 1) (j + 1))) o2 l') := hid (by have := hq2; rw [prn_step hq1] at this; exact this)
      have HBND : Hid (n7 + o1.length ≤ 10000000) := hid (by have h1 := HBL.out; have h2 := HTS.out.len; rw [he, List.length_append] at h1; omega)
      have HEQ2 : Hid (o = (ta ++ o1) ++ o2) := hid (by rw [HEQ.out, he, List.append_assoc]); have X := hid (HN.out _ .part o1 l1 wr (drop_less (pos_ge _ _ _) HL.out) hq1 (chain2 HW.out (chain2 HB4.out HT.out.below))); clear hq he hq1 hq2 hlt HP HEQ; go_wp2_with fail
      refine X.out.mono ?_; rintro e w8 ⟨u8, rfl, hu8⟩; obtain ⟨g6, o6, c6, cap6, w9, m6, g7, hv6, hr6, HT6⟩ := ts_row HTS.out hu8 HPOS.out HBND.out; subst hv6; have HT7 := hid HT6; clear hu8 HT6 X HTS HT hc1; go_wp2_with (at_builtin; refine Lib.wpList_append_run _ rfl _ _ _ _ rfl _ _ rfl rfl _ _ hr6 ?_)
      clear hr6; go_roundw
      case rel => exact ⟨j + 1, _, o2, by omega, by go_num, hid HT7.out.tr, HQ2, HEQ2⟩
      case measure => simp [intOf]; omega
    · have hin : j = d := by omega
      have y2 : ¬(j : Int) < (d : Int) := by omega
      have hq := HP.out; rw [hin, Nat.sub_self, List.replicate_zero, List.nil_append] at hq; have he9 : oi = [] := by cases hq; rfl
      have HE9 := hid he9
      have hc0 : wr.cell? ⟨w.heap.size, 0, none⟩ = some (.int .i64 1) := by
        have := (World.cell?_of_block (a := ⟨w.heap.size, 0, none⟩) (HT.out.below.block _ HNB.out.lt)).trans HNB.out.at.1; rw [HX.out] at this; exact this
      clear hin hlt hj he9 HP hq; go_wp2; go_ret; exact ⟨_, rfl, by rw [HEQ.out, HE9.out, List.append_nil]; exact tr_from HTS.out.tr HB4.out⟩
end Go.Proofs.YtmljjpdodcpohaaGreatDoor.Sw

