/- The document's printer; The document's printer; The document's printer. No condition but those that each states. -/
import Derived.Test.YtmljjpdodcpohaaGreatDoorMgAR
namespace Go.Proofs.YtmljjpdodcpohaaGreatDoor.Sw
open Lib (hid)
set_option maxRecDepth 100000
set_option maxHeartbeats 4000000
open Go.RowKit Dk Lx Tr
theorem re_21 {l : List Nd} {v : Value} {w0 : World} {N : Nat} (hN : NodR l v w0 N) (i : Nat) (q : List UInt8) (z : Int) (s : List UInt8) (o : List Tk) (l' : List Nd) (w : World) (ha : NdAt l v w i ⟨21, 0, q, z, s⟩) (_hl : (l.drop (i + 1)).length < N) (_hw : Below w0.heap.size w0 w) (_ho : o.length ≤ 100000)
    (hp : Prn [.nd .ex] (l.drop i) o l') (hq : Prn [nm q] (l.drop (pos (kidsOf l) (i + 1) 0)) o l') (hnm : ofT q = nmT q) (hql : q.length ≤ 2 ^ 40) :
    Calls Tryz.prog 68 #[v, .int .i64 (i : Int)] w fun e w' => ∃ u, e = .returned u ∧ TR w w' u o := by
  obtain ⟨p, c, hv, -⟩ := id ha.nds; subst hv; obtain ⟨g, o0, hp0, -, -, -, -, -, -, hr⟩ := ha.nds.node i ha.lt; subst hp0; rw [ha.is] at hr; have z0 : (0 : Int) ≤ (i : Int) := by omega
  have z1 : (i : Int) < (l.length : Int) := by have := ha.lt; omega
  obtain ⟨x, hx⟩ : ∃ x : Nd, x = ⟨21, 0, q, z, s⟩ := ⟨_, rfl⟩; rw [← hx] at hr; have HX := hid hx; clear hx; have HR := hid hr; have RK := hid (fun (W : World) (h : Below w.heap.size w W) => kids_at ha hp 0 rfl W h); obtain ⟨a0, ho0, hq0⟩ := hq.tok_inv; cases hq0
  have hoE : o = [nmT q] := by rw [ho0] <;> simp
  have hoL := congrArg List.length hoE; simp only [List.length_cons, List.length_nil] at hoL; have HE := hid hoE; have AR0 := hid (fun (va : Value) (W : World) (h1 : Strs W va [q]) => all_any [q] va W h1 (by intro y hy; simp at hy; rcases hy with rfl <;> first | assumption | decide) (by simp))
  have HI := hid (n_info x); have hia := n_infoA x; have hla := n_all x; have HZ := hid (nb_zero w); have HPT := hid (nb_put w x); obtain ⟨n, hn⟩ : ∃ n, n = l.length := ⟨_, rfl⟩; rw [← hn] at z1 RK ⊢; clear hr hq ha hp _hw _hl hN _ho hn hoL ho0 hoE; go_enter Tryz.func68, Tryz.ntmps68
  go_upto_region 2 with (first
    | (refine wpList_load_mid rfl 58 (.tmp 14) rfl g (o0 + i * 5) rfl x.cells _ HR.out Tryz.underlying58 rfl HI.out ?_)
    | (refine wpList_store_mid rfl 58 (.tmp 5) (.tmp 15) rfl w.heap.size 0 x.cells.toArray rfl rfl HZ.out.room hia hla ?_; generalize World.setCells _ _ _ _ = W3 at HPT ⊢)
    | fail)
  go_wp2_with fail
  refine (RK.out W3 HPT.out.2).mono ?_; rintro e w4 ⟨kv, rfl, hk⟩; have HNB := hid (HPT.out.1.later hk.below); have HB4 := hid (chain2 HPT.out.2 hk.below); obtain ⟨p5, c5, hkv, -, -⟩ := Tr.own_form0 hk.row; rw [posI_len] at hkv; subst hkv; clear hk RK HPT; obtain ⟨c0, -, c2, c3, c4⟩ := HNB.out.at; rw [HX.out] at c0 c2 c3 c4; have HB44 := hid (Below.refl w4.heap.size w4); go_wp2_with fail
  refine (AR0.out _ _ (Strs.lit w4 [q] 9 1 rfl)).mono ?_; rintro e w10 ⟨u0, rfl, hu0, -⟩; rw [show List.map ofT [q] = [nmT q] from (by simp only [List.map_cons, List.map_nil, hnm] <;> rfl)] at hu0; have hu := tr_from (w := w4) hu0 ((Below.refl _ _).alloc (Nat.le_refl _) _); have HBx0 := hid (chain2 HB4.out hu.below); have HBy0 := hid (chain2 HB44.out hu.below); obtain ⟨p8, n8, c8, hv8, hts⟩ := tr_ts (tr_from (w := w4) hu HB44.out); subst hv8; have HTS0 := hid hts; clear hts hu hu0 AR0; go_wp2; go_ret; exact ⟨_, rfl, by rw [HE.out]; exact tr_from HTS0.out.tr HB4.out⟩
end Go.Proofs.YtmljjpdodcpohaaGreatDoor.Sw

namespace Go.Proofs.YtmljjpdodcpohaaGreatDoor.Sw
open Lib (hid)
set_option maxRecDepth 100000
set_option maxHeartbeats 4000000
open Go.RowKit Dk Lx Tr
theorem tr_lit {w W : World} (hb : Below w.heap.size w W) (k z a : Int) (s : List UInt8) : TR w (W.alloc (.cells #[.int .i64 k, .string (strOf s), .int .i64 z, .int .i64 a] 73)) (.slice (some ⟨W.heap.size, 0, none⟩) 1 1) [⟨k, s, z, a⟩] :=
  ⟨World.ownsRow_lit W #[.int .i64 k, .string (strOf s), .int .i64 z, .int .i64 a] 1 hb.size (by decide) rfl, hb.alloc hb.size _⟩
theorem re_20 {l : List Nd} {v : Value} {w0 : World} {N : Nat} (hN : NodR l v w0 N) (i : Nat) (q : List UInt8) (z : Int) (s : List UInt8) (o : List Tk) (l' : List Nd) (w : World) (ha : NdAt l v w i ⟨20, 0, q, z, s⟩) (_hl : (l.drop (i + 1)).length < N) (_hw : Below w0.heap.size w0 w) (_ho : o.length ≤ 100000)
    (hp : Prn [.nd .ex] (l.drop i) o l') (hq : Prn [.tok (txT s)] (l.drop (pos (kidsOf l) (i + 1) 0)) o l') :
    Calls Tryz.prog 68 #[v, .int .i64 (i : Int)] w fun e w' => ∃ u, e = .returned u ∧ TR w w' u o := by
  obtain ⟨p, c, hv, -⟩ := id ha.nds; subst hv; obtain ⟨g, o0, hp0, -, -, -, -, -, -, hr⟩ := ha.nds.node i ha.lt; subst hp0; rw [ha.is] at hr; have z0 : (0 : Int) ≤ (i : Int) := by omega
  have z1 : (i : Int) < (l.length : Int) := by have := ha.lt; omega
  obtain ⟨x, hx⟩ : ∃ x : Nd, x = ⟨20, 0, q, z, s⟩ := ⟨_, rfl⟩; rw [← hx] at hr; have HX := hid hx; clear hx; have HR := hid hr; have RK := hid (fun (W : World) (h : Below w.heap.size w W) => kids_at ha hp 0 rfl W h); obtain ⟨a0, ho0, hq0⟩ := hq.tok_inv; cases hq0
  have HE := hid ho0; have HI := hid (n_info x); have hia := n_infoA x; have hla := n_all x; have HZ := hid (nb_zero w); have HPT := hid (nb_put w x); obtain ⟨n, hn⟩ : ∃ n, n = l.length := ⟨_, rfl⟩; rw [← hn] at z1 RK ⊢; clear hr hq ha hp _hw _hl hN _ho hn ho0; go_enter Tryz.func68, Tryz.ntmps68
  go_upto_region 2 with (first
    | (refine wpList_load_mid rfl 58 (.tmp 14) rfl g (o0 + i * 5) rfl x.cells _ HR.out Tryz.underlying58 rfl HI.out ?_)
    | (refine wpList_store_mid rfl 58 (.tmp 5) (.tmp 15) rfl w.heap.size 0 x.cells.toArray rfl rfl HZ.out.room hia hla ?_; generalize World.setCells _ _ _ _ = W3 at HPT ⊢)
    | fail)
  go_wp2_with fail
  refine (RK.out W3 HPT.out.2).mono ?_; rintro e w4 ⟨kv, rfl, hk⟩; have HNB := hid (HPT.out.1.later hk.below); have HB4 := hid (chain2 HPT.out.2 hk.below); obtain ⟨p5, c5, hkv, -, -⟩ := Tr.own_form0 hk.row; rw [posI_len] at hkv; subst hkv; clear hk RK HPT; obtain ⟨c0, -, c2, c3, c4⟩ := HNB.out.at; rw [HX.out] at c0 c2 c3 c4; have HB44 := hid (Below.refl w4.heap.size w4); go_wp2; go_ret; exact ⟨_, rfl, by rw [HE.out]; exact tr_lit HB4.out 3 0 0 s⟩
theorem re_19 {l : List Nd} {v : Value} {w0 : World} {N : Nat} (hN : NodR l v w0 N) (i : Nat) (q : List UInt8) (z : Int) (s : List UInt8) (o : List Tk) (l' : List Nd) (w : World) (ha : NdAt l v w i ⟨19, 0, q, z, s⟩) (_hl : (l.drop (i + 1)).length < N) (_hw : Below w0.heap.size w0 w) (_ho : o.length ≤ 100000)
    (hp : Prn [.nd .ex] (l.drop i) o l') (hq : Prn [it z] (l.drop (pos (kidsOf l) (i + 1) 0)) o l') (u : Nat) (hz : z = (u : Int)) (hu : u < 9223372036854775808) :
    Calls Tryz.prog 68 #[v, .int .i64 (i : Int)] w fun e w' => ∃ u, e = .returned u ∧ TR w w' u o := by
  obtain ⟨p, c, hv, -⟩ := id ha.nds; subst hv; obtain ⟨g, o0, hp0, -, -, -, -, -, -, hr⟩ := ha.nds.node i ha.lt; subst hp0; rw [ha.is] at hr; have z0 : (0 : Int) ≤ (i : Int) := by omega
  have z1 : (i : Int) < (l.length : Int) := by have := ha.lt; omega
  obtain ⟨x, hx⟩ : ∃ x : Nd, x = ⟨19, 0, q, z, s⟩ := ⟨_, rfl⟩; rw [← hx] at hr; have HX := hid hx; clear hx; have HR := hid hr; have RK := hid (fun (W : World) (h : Below w.heap.size w W) => kids_at ha hp 0 rfl W h); obtain ⟨a0, ho0, hq0⟩ := hq.tok_inv; cases hq0
  have HE := hid ho0; subst hz; have NA := hid (fun W => number_any u hu W); obtain ⟨T, hT⟩ : ∃ T, T = Lib.itoa (u : Int) := ⟨_, rfl⟩; have HT : Hid (inT (u : Int) = ⟨2, T, (u : Int), 0⟩) := hid (by rw [hT]; rfl)
  clear hT; have HI := hid (n_info x); have hia := n_infoA x; have hla := n_all x; have HZ := hid (nb_zero w); have HPT := hid (nb_put w x); obtain ⟨n, hn⟩ : ∃ n, n = l.length := ⟨_, rfl⟩; rw [← hn] at z1 RK ⊢; clear hr hq ha hp _hw _hl hN _ho hn ho0; go_enter Tryz.func68, Tryz.ntmps68
  go_upto_region 2 with (first
    | (refine wpList_load_mid rfl 58 (.tmp 14) rfl g (o0 + i * 5) rfl x.cells _ HR.out Tryz.underlying58 rfl HI.out ?_)
    | (refine wpList_store_mid rfl 58 (.tmp 5) (.tmp 15) rfl w.heap.size 0 x.cells.toArray rfl rfl HZ.out.room hia hla ?_; generalize World.setCells _ _ _ _ = W3 at HPT ⊢)
    | fail)
  go_wp2_with fail
  refine (RK.out W3 HPT.out.2).mono ?_; rintro e w4 ⟨kv, rfl, hk⟩; have HNB := hid (HPT.out.1.later hk.below); have HB4 := hid (chain2 HPT.out.2 hk.below); obtain ⟨p5, c5, hkv, -, -⟩ := Tr.own_form0 hk.row; rw [posI_len] at hkv; subst hkv; clear hk RK HPT; obtain ⟨c0, -, c2, c3, c4⟩ := HNB.out.at; rw [HX.out] at c0 c2 c3 c4; have HB44 := hid (Below.refl w4.heap.size w4); rw [HT.out] at NA HE; go_wp2_with fail
  refine (NA.out _).mono ?_; rintro e w9 ⟨rfl, hb9⟩; have HB9 := hid (chain2 HB4.out hb9); clear hb9 NA; unfold Tk.cells; go_wp2; go_ret; exact ⟨_, rfl, by rw [HE.out]; exact tr_lit HB9.out 2 (u : Int) 0 T⟩
end Go.Proofs.YtmljjpdodcpohaaGreatDoor.Sw

namespace Go.Proofs.YtmljjpdodcpohaaGreatDoor.Sw
open Lib (hid)
set_option maxRecDepth 100000
set_option maxHeartbeats 4000000
open Go.RowKit Dk Lx Tr
theorem re_24 {l : List Nd} {v : Value} {w0 : World} {N : Nat} (hN : NodR l v w0 N) (i : Nat) (q : List UInt8) (z : Int) (s : List UInt8) (o : List Tk) (l' : List Nd) (w : World) (d : Nat) (hd : d ≤ 100000) (ha : NdAt l v w i ⟨24, ((d + 1 : Nat) : Int), q, z, s⟩) (hl : (l.drop (i + 1)).length < N) (hw : Below w0.heap.size w0 w) (ho : o.length ≤ 100000)
    (hp : Prn [.nd .ex] (l.drop i) o l') (hq : Prn (sg [102, 110] :: fnX (d + 1)) (l.drop (pos (kidsOf l) (i + 1) 0)) o l') :
    Calls Tryz.prog 68 #[v, .int .i64 (i : Int)] w fun e w' => ∃ u, e = .returned u ∧ TR w w' u o := by
  obtain ⟨p, c, hv, -⟩ := id ha.nds; subst hv; obtain ⟨g, o0, hp0, -, -, -, -, -, -, hr⟩ := ha.nds.node i ha.lt; subst hp0; rw [ha.is] at hr; have z0 : (0 : Int) ≤ (i : Int) := by omega
  have z1 : (i : Int) < (l.length : Int) := by have := ha.lt; omega
  obtain ⟨x, hx⟩ : ∃ x : Nd, x = ⟨24, ((d + 1 : Nat) : Int), q, z, s⟩ := ⟨_, rfl⟩; rw [← hx] at hr; have HX := hid hx; clear hx; have HR := hid hr; have RK := hid (fun (W : World) (h : Below w.heap.size w W) => kids_at ha hp (d + 1) rfl W h); obtain ⟨a0, ho0, hq0⟩ := hq.tok_inv; have hoE : o = [sgn [102, 110]] ++ a0 := ho0; have hpos : 0 < a0.length := by obtain ⟨t1, t2, l1, he, h1, h2⟩ := hq0.split (lstX .par (d + 1 - 1)) [.nd .blk] rfl; rw [he, List.length_append]; have := prn_pos1 _ (Nat.lt_succ_self _) h2; omega
  have hal : a0.length ≤ 100000 := by have := congrArg List.length hoE; simp at this; omega
  have LAST := hid (fun (g5 c5 : Nat) (W : World) (h : Below w.heap.size w W) (hk : Ins W (.slice (some ⟨g5, 0, none⟩) (d + 1) c5) (PosI l (i + 1) 0 (d + 1))) (hc : d + 1 ≤ c5) => tail_any hN (i + 1) d g5 0 c5 a0 l' W hk hc hq0 hl (chain2 hw h) (by omega) hd); have AR0 := hid (fun (va : Value) (W : World) (h1 : Strs W va [[102, 110]]) => all_any [[102, 110]] va W h1 (by decide) (by decide)); have HPOS := hid hpos; have HAL := hid hal; have HE := hid hoE; have HI := hid (n_info x); have hia := n_infoA x; have hla := n_all x; have HZ := hid (nb_zero w); have HPT := hid (nb_put w x); obtain ⟨n, hn⟩ : ∃ n, n = l.length := ⟨_, rfl⟩; rw [← hn] at z1 RK LAST ⊢; clear hr hq ha hp hw hl hN ho hn hoE ho0 hq0 hpos hal; go_enter Tryz.func68, Tryz.ntmps68
  go_upto_region 2 with (first
    | (refine wpList_load_mid rfl 58 (.tmp 14) rfl g (o0 + i * 5) rfl x.cells _ HR.out Tryz.underlying58 rfl HI.out ?_)
    | (refine wpList_store_mid rfl 58 (.tmp 5) (.tmp 15) rfl w.heap.size 0 x.cells.toArray rfl rfl HZ.out.room hia hla ?_; generalize World.setCells _ _ _ _ = W3 at HPT ⊢)
    | fail)
  go_wp2_with fail
  refine (RK.out W3 HPT.out.2).mono ?_; rintro e w4 ⟨kv, rfl, hk⟩; have HNB := hid (HPT.out.1.later hk.below); have HB4 := hid (chain2 HPT.out.2 hk.below); obtain ⟨c0, -, c2, c3, c4⟩ := HNB.out.at; rw [HX.out] at c0 c2 c3 c4; have HB44 := hid (Below.refl w4.heap.size w4); obtain ⟨g5, c5, hkv⟩ := Tr.own_form hk.row (by rw [posI_len]; omega)
  rw [posI_len] at hkv; subst hkv; have HK := hid hk.ins; have hcap : d + 1 ≤ c5 := by obtain ⟨p', c', he, hc, -⟩ := HK.out; simp only [Value.slice.injEq] at he; rw [posI_len] at hc; omega
  have HG5 : Hid (g5 < w4.heap.size) := hid (by obtain ⟨_, _, h6, h7, -⟩ := HK.out.int 0 (by rw [posI_len]; omega); simp only [Option.some.injEq, Addr.mk.injEq, and_true] at h6; obtain ⟨rfl, rfl⟩ := h6; exact h7)
  clear hk RK HPT; go_wp2_with fail
  refine (AR0.out _ _ (Strs.lit w4 [[102, 110]] 9 1 rfl)).mono ?_; rintro e w10 ⟨u0, rfl, hu0, -⟩; rw [show List.map ofT [[102, 110]] = [sgn [102, 110]] from rfl] at hu0; have hu := tr_from (w := w4) hu0 ((Below.refl _ _).alloc (Nat.le_refl _) _); have HBx0 := hid (chain2 HB4.out hu.below); obtain ⟨p8, n8, c8, hv8, hts⟩ := tr_ts hu; subst hv8; have HTS0 := hid hts; clear hts hu hu0 AR0; have X1 := hid (LAST.out g5 c5 w10 HBx0.out (HK.out.later HTS0.out.below) hcap); clear LAST; go_wp2_with fail
  refine X1.out.mono ?_; rintro e w11 ⟨u1, rfl, hu0⟩; obtain ⟨g20, d20, e20, cap20, w30, m20, f20, hv, hrr, hts⟩ := ts_row HTS0.out hu0 HPOS.out (by have h1 := HTS0.out.len; have := HAL.out; simp at h1; omega)
  subst hv; have HTS1 := hid hts; clear hts hu0 X1 HTS0; go_wp2_with (at_builtin; refine Lib.wpList_append_run _ rfl _ _ _ _ rfl _ _ rfl rfl _ _ hrr ?_)
  clear hrr; go_ret; exact ⟨_, rfl, by rw [HE.out]; exact tr_from HTS1.out.tr HB4.out⟩
theorem re_23 {l : List Nd} {v : Value} {w0 : World} {N : Nat} (hN : NodR l v w0 N) (i : Nat) (q : List UInt8) (z : Int) (s : List UInt8) (o : List Tk) (l' : List Nd) (w : World) (d : Nat) (hd : d ≤ 100000) (ha : NdAt l v w i ⟨23, ((d : Nat) : Int), q, z, s⟩) (hl : (l.drop (i + 1)).length < N) (hw : Below w0.heap.size w0 w) (ho : o.length ≤ 100000)
    (hp : Prn [.nd .ex] (l.drop i) o l') (hq : Prn ([nm q, sg [46], nm s] ++ lstX .ex d) (l.drop (pos (kidsOf l) (i + 1) 0)) o l') (hnm : ofT q = nmT q) (hnt : ofT s = nmT s) (hql : q.length ≤ 2 ^ 40) (hsl : s.length ≤ 2 ^ 40) :
    Calls Tryz.prog 68 #[v, .int .i64 (i : Int)] w fun e w' => ∃ u, e = .returned u ∧ TR w w' u o := by
  obtain ⟨p, c, hv, -⟩ := id ha.nds; subst hv; obtain ⟨g, o0, hp0, -, -, -, -, -, -, hr⟩ := ha.nds.node i ha.lt; subst hp0; rw [ha.is] at hr; have z0 : (0 : Int) ≤ (i : Int) := by omega
  have z1 : (i : Int) < (l.length : Int) := by have := ha.lt; omega
  obtain ⟨x, hx⟩ : ∃ x : Nd, x = ⟨23, ((d : Nat) : Int), q, z, s⟩ := ⟨_, rfl⟩; rw [← hx] at hr; have HX := hid hx; clear hx; have HR := hid hr; have RK := hid (fun (W : World) (h : Below w.heap.size w W) => kids_at ha hp (d) rfl W h); obtain ⟨t0, e0, hq0⟩ := hq.tok_inv; obtain ⟨t1, e1, hq1⟩ := hq0.tok_inv; obtain ⟨a0, e2, hq2⟩ := hq1.tok_inv; have hoE : o = [nmT q, sgn [46], nmT s] ++ a0 := by rw [e0, e1, e2]; rfl
  have hpos : 0 < a0.length := by cases d with | zero => (obtain ⟨_, h, -⟩ := (show Prn (sg [40] :: [sg [41]]) _ a0 l' from hq2).tok_inv; rw [h]; exact Nat.succ_pos _) | succ m => (obtain ⟨_, h, -⟩ := (show Prn (sg [40] :: (.nd .ex :: (sepX .ex m ++ [sg [41]]))) _ a0 l' from hq2).tok_inv; rw [h]; exact Nat.succ_pos _)
  have hal : a0.length ≤ 100000 := by have := congrArg List.length hoE; simp at this; omega
  have LAST := hid (fun (kv : Value) (W : World) (h : Below w.heap.size w W) (hk : Ins W kv (PosI l (i + 1) 0 d)) => row_any hN (i + 1) 0 d .ex kv a0 l' W hk hq2 hl (chain2 hw h) (by omega) (by omega)); have AR0 := hid (fun (va : Value) (W : World) (h1 : Strs W va [q, [46], s]) => all_any [q, [46], s] va W h1 (by intro y hy; simp at hy; rcases hy with rfl | rfl | rfl <;> first | assumption | decide) (by simp))
  have HPOS := hid hpos; have HAL := hid hal; have HE := hid hoE; have HI := hid (n_info x); have hia := n_infoA x; have hla := n_all x; have HZ := hid (nb_zero w); have HPT := hid (nb_put w x); obtain ⟨n, hn⟩ : ∃ n, n = l.length := ⟨_, rfl⟩; rw [← hn] at z1 RK LAST ⊢; clear hr hq ha hp hw hl hN ho hn hoE e0 e1 e2 hq0 hq1 hq2 hpos hal; go_enter Tryz.func68, Tryz.ntmps68
  go_upto_region 2 with (first
    | (refine wpList_load_mid rfl 58 (.tmp 14) rfl g (o0 + i * 5) rfl x.cells _ HR.out Tryz.underlying58 rfl HI.out ?_)
    | (refine wpList_store_mid rfl 58 (.tmp 5) (.tmp 15) rfl w.heap.size 0 x.cells.toArray rfl rfl HZ.out.room hia hla ?_; generalize World.setCells _ _ _ _ = W3 at HPT ⊢)
    | fail)
  go_wp2_with fail
  refine (RK.out W3 HPT.out.2).mono ?_; rintro e w4 ⟨kv, rfl, hk⟩; have HNB := hid (HPT.out.1.later hk.below); have HB4 := hid (chain2 HPT.out.2 hk.below); obtain ⟨c0, -, c2, c3, c4⟩ := HNB.out.at; rw [HX.out] at c0 c2 c3 c4; have HB44 := hid (Below.refl w4.heap.size w4); obtain ⟨p5, c5, hkv, -, -⟩ := Tr.own_form0 hk.row; rw [posI_len] at hkv; subst hkv; have HK := hid hk.ins; clear hk RK HPT; go_wp2_with fail
  refine (AR0.out _ _ (Strs.lit w4 [q, [46], s] 9 3 rfl)).mono ?_; rintro e w10 ⟨u0, rfl, hu0, -⟩; rw [show List.map ofT [q, [46], s] = [nmT q, sgn [46], nmT s] from (by simp only [List.map_cons, List.map_nil, hnm, hnt] <;> rfl)] at hu0; have hu := tr_from (w := w4) hu0 ((Below.refl _ _).alloc (Nat.le_refl _) _); have HBx0 := hid (chain2 HB4.out hu.below); obtain ⟨p8, n8, c8, hv8, hts⟩ := tr_ts hu; subst hv8; have HTS0 := hid hts; clear hts hu hu0 AR0; have X1 := hid (LAST.out _ w10 HBx0.out (HK.out.later HTS0.out.below)); clear LAST; go_wp2_with fail
  refine X1.out.mono ?_; rintro e w11 ⟨u1, rfl, hu0⟩; obtain ⟨g20, d20, e20, cap20, w30, m20, f20, hv, hrr, hts⟩ := ts_row HTS0.out hu0 HPOS.out (by have h1 := HTS0.out.len; have := HAL.out; simp at h1; omega)
  subst hv; have HTS1 := hid hts; clear hts hu0 X1 HTS0; go_wp2_with (at_builtin; refine Lib.wpList_append_run _ rfl _ _ _ _ rfl _ _ rfl rfl _ _ hrr ?_)
  clear hrr; go_ret; exact ⟨_, rfl, by rw [HE.out]; exact tr_from HTS1.out.tr HB4.out⟩
theorem re_22 {l : List Nd} {v : Value} {w0 : World} {N : Nat} (hN : NodR l v w0 N) (i : Nat) (q : List UInt8) (z : Int) (s : List UInt8) (o : List Tk) (l' : List Nd) (w : World) (d : Nat) (hd : d ≤ 100000) (ha : NdAt l v w i ⟨22, ((d + 1 : Nat) : Int), q, z, s⟩) (hl : (l.drop (i + 1)).length < N) (hw : Below w0.heap.size w0 w) (ho : o.length ≤ 100000)
    (hp : Prn [.nd .ex] (l.drop i) o l') (hq : Prn (.nd .ex :: lstX .ex d) (l.drop (pos (kidsOf l) (i + 1) 0)) o l') :
    Calls Tryz.prog 68 #[v, .int .i64 (i : Int)] w fun e w' => ∃ u, e = .returned u ∧ TR w w' u o := by
  obtain ⟨p, c, hv, -⟩ := id ha.nds; subst hv; obtain ⟨g, o0, hp0, -, -, -, -, -, -, hr⟩ := ha.nds.node i ha.lt; subst hp0; rw [ha.is] at hr; have z0 : (0 : Int) ≤ (i : Int) := by omega
  have z1 : (i : Int) < (l.length : Int) := by have := ha.lt; omega
  obtain ⟨x, hx⟩ : ∃ x : Nd, x = ⟨22, ((d + 1 : Nat) : Int), q, z, s⟩ := ⟨_, rfl⟩; rw [← hx] at hr; have HX := hid hx; clear hx; have HR := hid hr; have RK := hid (fun (W : World) (h : Below w.heap.size w W) => kids_at ha hp (d + 1) rfl W h); obtain ⟨b0, a0, l0, ho0, hk0, hq0⟩ := hq.nd_cons; obtain rfl := prn_step hk0; have hoE : o = b0 ++ a0 := ho0; have hpos : 0 < a0.length := by cases d with | zero => (obtain ⟨_, h, -⟩ := (show Prn (sg [40] :: [sg [41]]) _ a0 l' from hq0).tok_inv; rw [h]; exact Nat.succ_pos _) | succ m => (obtain ⟨_, h, -⟩ := (show Prn (sg [40] :: (.nd .ex :: (sepX .ex m ++ [sg [41]]))) _ a0 l' from hq0).tok_inv; rw [h]; exact Nat.succ_pos _)
  have hal : b0.length + a0.length ≤ 100000 := by have := congrArg List.length hoE; simp at this; omega
  have LAST := hid (fun (kv : Value) (W : World) (h : Below w.heap.size w W) (hk : Ins W kv (PosI l (i + 1) 1 d)) => row_any hN (i + 1) 1 d .ex kv a0 l' W hk hq0 hl (chain2 hw h) (by omega) (by omega)); obtain ⟨P0, hP0⟩ : ∃ P, P = pos (kidsOf l) (i + 1) 0 := ⟨_, rfl⟩; have hlP0 : (l.drop P0).length < N := by rw [hP0]; exact drop_less (pos_ge _ _ _) hl
  rw [← hP0] at hk0; have HP0 := hid hP0; have AR0 := hid (fun (W : World) (h : Below w.heap.size w W) => hN P0 .ex b0 _ W hlP0 hk0 (chain2 hw h)); have HPOS := hid hpos; have HAL := hid hal; have HE := hid hoE; have HI := hid (n_info x); have hia := n_infoA x; have hla := n_all x; have HZ := hid (nb_zero w); have HPT := hid (nb_put w x); obtain ⟨n, hn⟩ : ∃ n, n = l.length := ⟨_, rfl⟩; rw [← hn] at z1 RK LAST AR0 ⊢; clear hr hq ha hp hw hl hN ho hn hoE ho0 hk0 hq0 hP0 hlP0 hpos hal; go_enter Tryz.func68, Tryz.ntmps68
  go_upto_region 2 with (first
    | (refine wpList_load_mid rfl 58 (.tmp 14) rfl g (o0 + i * 5) rfl x.cells _ HR.out Tryz.underlying58 rfl HI.out ?_)
    | (refine wpList_store_mid rfl 58 (.tmp 5) (.tmp 15) rfl w.heap.size 0 x.cells.toArray rfl rfl HZ.out.room hia hla ?_; generalize World.setCells _ _ _ _ = W3 at HPT ⊢)
    | fail)
  go_wp2_with fail
  refine (RK.out W3 HPT.out.2).mono ?_; rintro e w4 ⟨kv, rfl, hk⟩; have HNB := hid (HPT.out.1.later hk.below); have HB4 := hid (chain2 HPT.out.2 hk.below); obtain ⟨c0, -, c2, c3, c4⟩ := HNB.out.at; rw [HX.out] at c0 c2 c3 c4; have HB44 := hid (Below.refl w4.heap.size w4); obtain ⟨g5, c5, hkv⟩ := Tr.own_form hk.row (by rw [posI_len]; omega)
  rw [posI_len] at hkv; subst hkv; have HK := hid hk.ins; have hcap : d + 1 ≤ c5 := by obtain ⟨p', c', he, hc, -⟩ := HK.out; simp only [Value.slice.injEq] at he; rw [posI_len] at hc; omega
  have HG5 : Hid (g5 < w4.heap.size) := hid (by obtain ⟨_, _, h6, h7, -⟩ := HK.out.int 0 (by rw [posI_len]; omega); simp only [Option.some.injEq, Addr.mk.injEq, and_true] at h6; obtain ⟨rfl, rfl⟩ := h6; exact h7)
  clear hk RK HPT; obtain ⟨g6, o6, hp6, hg6, k0⟩ := HK.out.int 0 (by rw [posI_len]; omega)
  rw [posI_at] at k0; simp only [Option.some.injEq, Addr.mk.injEq, and_true] at hp6; obtain ⟨rfl, rfl⟩ := hp6; rw [show pos (kidsOf l) (i + 1) (0 + 0) = P0 from HP0.out.symm, Nat.zero_add] at k0; have y0 : (0 : Int) < ((d + 1 : Nat) : Int) := by omega
  go_wp2_with fail
  refine (AR0.out _ HB4.out).mono ?_; rintro e w10 ⟨u0, rfl, hu0⟩; have hu := hu0; have HBx0 := hid (chain2 HB4.out hu.below); obtain ⟨p8, n8, c8, hv8, hts⟩ := tr_ts hu; subst hv8; have HTS0 := hid hts; clear hts hu hu0 AR0 k0 hg6
  have HKD : Hid (Ins w10 (.slice (if c5 = 1 then some ⟨g5, 0, none⟩ else some ⟨g5, 1, none⟩) d (c5 - 1)) (PosI l (i + 1) 1 d)) := hid (by
    obtain ⟨p', c', he, hc, h0 | ⟨g', o', hp', hg', hr'⟩⟩ := HK.out.later HTS0.out.below
    · have := congrArg List.length h0; rw [posI_len] at this; simp at this
    · simp only [Value.slice.injEq] at he
      obtain ⟨h1, -, rfl⟩ := he; rw [hp'] at h1; simp only [Option.some.injEq, Addr.mk.injEq, and_true] at h1; obtain ⟨rfl, rfl⟩ := h1; refine ⟨_, _, by rw [posI_len], by rw [posI_len]; omega, ?_⟩
      by_cases h5 : c5 = 1
      · exact .inl (List.eq_nil_of_length_eq_zero (by rw [posI_len]; omega))
      · rw [if_neg h5]
        refine .inr ⟨g5, 1, rfl, hg', ?_⟩
        have e : iv (PosI l (i + 1) 0 (d + 1)) = [.int .i64 ((pos (kidsOf l) (i + 1) 0 : Nat) : Int)] ++ iv (PosI l (i + 1) 1 d) := by
          unfold PosI iv; rw [List.range_succ_eq_map, List.map_cons, List.map_map, List.map_cons, List.map_map, List.map_map]; simp [Function.comp_def, Nat.add_comm]
        rw [e] at hr'
        exact rangeAt_right hr' rfl)
  have X1 := hid (LAST.out _ w10 HBx0.out HKD.out)
  have hsl : ∀ W, (Instr.slice 55 (.slice (some ⟨g5, 0, none⟩) (d + 1) c5) (some (.int .i64 1)) none none).run Tryz.prog W = .ok (.slice (if c5 = 1 then some ⟨g5, 0, none⟩ else some ⟨g5, 1, none⟩) d (c5 - 1)) W := fun W => by
    rw [run_slice_l W 55 _ (d + 1) c5 (by kernel_rfl) .i64 1 (by omega) (by omega), show (sizeOf (Tryz.prog.elem 55)).run Tryz.prog W = .ok 1 W by kernel_rfl]; show Result.ok (sliced _ (1 : Int).toNat (d + 1) c5 1) W = _
    unfold sliced; simp [Addr.add_mid]
  generalize (if c5 = 1 then some (⟨g5, 0, none⟩ : Addr) else some ⟨g5, 1, none⟩) = p9 at *; clear LAST; go_wp2_with fail
  refine X1.out.mono ?_; rintro e w11 ⟨u1, rfl, hu0⟩; obtain ⟨g20, d20, e20, cap20, w30, m20, f20, hv, hrr, hts⟩ := ts_row HTS0.out hu0 HPOS.out (by have h1 := HTS0.out.len; have := HAL.out; omega)
  subst hv; have HTS1 := hid hts; clear hts hu0 X1 HTS0; go_wp2_with (at_builtin; refine Lib.wpList_append_run _ rfl _ _ _ _ rfl _ _ rfl rfl _ _ hrr ?_)
  clear hrr; go_ret; exact ⟨_, rfl, by rw [HE.out]; exact tr_from HTS1.out.tr HB4.out⟩
end Go.Proofs.YtmljjpdodcpohaaGreatDoor.Sw

