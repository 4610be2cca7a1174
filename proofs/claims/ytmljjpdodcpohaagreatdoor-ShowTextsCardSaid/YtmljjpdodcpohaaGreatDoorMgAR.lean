/- The document's printer; The walk of chrysalisref01; The document's printer; The document's printer; The document's printer. No condition but those that each states. -/
import Derived.Test.YtmljjpdodcpohaaGreatDoorMgAQ
import Derived.Test.YtmljjpdodcpohaaGreatDoorMgAE
namespace Go.Proofs.YtmljjpdodcpohaaGreatDoor.Sw
open Lib (hid)
set_option maxRecDepth 100000
set_option maxHeartbeats 4000000
open Go.RowKit Dk Lx Tr
theorem ins_take {W : World} {p : Option Addr} {m c : Nat} {L : List Int} (h : Ins W (.slice p m c) L) (n : Nat) (hn : n ≤ L.length) : Ins W (.slice p n c) (L.take n) := by
  obtain ⟨p', c', he, hc, h0⟩ := h; simp only [Value.slice.injEq] at he; obtain ⟨rfl, rfl, rfl⟩ := he; have hl : (L.take n).length = n := by rw [List.length_take]; omega
  refine ⟨p, c, by rw [hl], by omega, ?_⟩; rcases h0 with h0 | ⟨g, o, hp, hg, hr⟩
  · exact .inl (by rw [h0]; simp)
  · refine .inr ⟨g, o, hp, hg, ?_⟩
    have e : iv L = iv (L.take n) ++ iv (L.drop n) := by rw [← iv_app, List.take_append_drop]
    rw [e] at hr; exact rangeAt_left hr
theorem posI_take (l : List Nd) (a b n k : Nat) (h : k ≤ n) : (PosI l a b n).take k = PosI l a b k := by
  unfold PosI; rw [← List.map_take, List.take_range, Nat.min_eq_left h]
theorem tail_any {l : List Nd} {v : Value} {w0 : World} {N : Nat} (hN : NodR l v w0 N) (a n : Nat) (g1 o1x c1 : Nat) (o : List Tk) (l' : List Nd) (w : World) (hk : Ins w (.slice (some ⟨g1, o1x, none⟩) (n + 1) c1) (PosI l a 0 (n + 1))) (hc1 : n + 1 ≤ c1) (hp : Prn (fnX (n + 1)) (l.drop a) o l') (hl : (l.drop a).length < N) (hw : Below w0.heap.size w0 w) (ho : o.length ≤ 1000000) (hn6 : n ≤ 100000) :
    Calls Tryz.prog 71 #[v, .slice (some ⟨g1, o1x, none⟩) (n + 1) c1] w fun e w' => ∃ u, e = .returned u ∧ TR w w' u o := by
  have HW := hid hw; have HL := hid hl; obtain ⟨o1, o2, l1, he, hp1, hp2⟩ := hp.split (lstX .par (n + 1 - 1)) [.nd .blk] rfl; rw [Nat.add_sub_cancel] at hp1
  have hl1 : l1 = l.drop (pos (kidsOf l) a n) := by
    obtain ⟨m, h1, h2⟩ := hp1.ends; rw [cats_lst, List.length_replicate] at h1; rw [show kidsOf (l.drop a) = (kidsOf l).drop a by simp [kidsOf, List.map_drop]] at h1; rw [h2, List.drop_drop, pos_end h1]
  subst hl1; have hll := congrArg List.length he; rw [List.length_append] at hll; have R := hid (fun (W : World) (h : Below w.heap.size w W) => row_any hN a 0 n .par (.slice (some ⟨g1, o1x, none⟩) n c1) o1 _ W (by have := ins_take (hk.later h) n (by rw [posI_len]; omega); rw [posI_take _ _ _ _ _ (Nat.le_succ n)] at this; exact this) hp1 hl (chain2 hw h) (by omega) (by omega))
  have X := hid (fun (W : World) (h : Below w.heap.size w W) => hN _ _ o2 l' W (drop_less (pos_ge _ _ _) hl) hp2 (chain2 hw h)); have HPOS := hid (prn_pos1 _ (Nat.lt_succ_self _) hp2); obtain ⟨g1', o1', hp1', hg1, hcw⟩ := hk.int n (by rw [posI_len]; omega)
  simp only [Option.some.injEq, Addr.mk.injEq, and_true] at hp1'; obtain ⟨rfl, rfl⟩ := hp1'; rw [posI_at, Nat.zero_add] at hcw; have HCW := hid hcw; have HE := hid he; have HB1 : Hid (o1.length + o2.length ≤ 1000000) := hid (by omega); clear hcw he hp hp1 hp2 hll hw hl hN hk ho; go_enter Tryz.func71, Tryz.ntmps71
  go_wp2_with fail
  refine (R.out _ (Below.refl _ _)).mono ?_; rintro e w1 ⟨u1, rfl, hr1⟩; obtain ⟨p5, n5, c5, hv5, hts⟩ := tr_ts hr1; subst hv5; have HTS := hid hts; have hc2 := (World.cell?_of_block (a := ⟨g1, o1x + n, none⟩) (hts.below.block g1 hg1)).trans HCW.out; have z0 : (n : Int) < (n : Int) + 1 := by omega
  have X1 := hid (X.out w1 hts.below); clear hts hr1 R X; go_wp2_with fail
  refine X1.out.mono ?_; rintro e w5 ⟨u5, rfl, hu5⟩; obtain ⟨g6, o6, c6, cap6, w6, m6, g7, hv6, hr6, HT6⟩ := ts_row HTS.out hu5 HPOS.out (by have := HTS.out.len; have := HB1.out; omega)
  subst hv6; have HT7 := hid HT6; clear hu5 HT6 X1 HTS hc2; go_wp2_with (at_builtin; refine Lib.wpList_append_run _ rfl _ _ _ _ rfl _ _ rfl rfl _ _ hr6 ?_)
  clear hr6; go_ret; exact ⟨_, rfl, by rw [HE.out]; exact HT7.out.tr⟩
theorem dec_step {u : Nat} (h : 10 ≤ u) : Lib.decDigits u = Lib.decDigits (u / 10) ++ [UInt8.ofNat (48 + u % 10)] := by
  rw [Lib.decDigits, dif_neg (by omega)]
def decR (u : Nat) : List UInt8 := if u = 0 then [] else Lib.decDigits u
theorem decR_step {u : Nat} (h : 0 < u) : decR u = decR (u / 10) ++ [UInt8.ofNat (48 + u % 10)] := by
  unfold decR; rw [if_neg (by omega)]; by_cases h1 : u < 10
  · rw [if_pos (by omega), Lib.decDigits, dif_pos h1, Nat.mod_eq_of_lt h1]; rfl
  · rw [if_neg (by omega), dec_step (by omega)]
end Go.Proofs.YtmljjpdodcpohaaGreatDoor.Sw

namespace Go.Proofs.YtmljjpdodcpohaaGreatDoor.Sw
open Lib (hid)
set_option maxRecDepth 100000
set_option maxHeartbeats 4000000
open Go.RowKit Dk Lx Tr
theorem dec_len : ∀ (k u : Nat), u < 10 ^ (k + 1) → (Lib.decDigits u).length ≤ k + 1
  | 0, u, h => by rw [Lib.decDigits, dif_pos (by simpa using h)]; exact Nat.le_refl _
  | k + 1, u, h => by
    by_cases h1 : u < 10
    · rw [Lib.decDigits, dif_pos h1]; simp
    · rw [dec_step (by omega), List.length_append]
      have := dec_len k (u / 10) (by rw [Nat.pow_succ] at h; omega)
      simp; omega
theorem decR_len {u : Nat} (h : u < 9223372036854775808) : (decR u).length ≤ 20 := by
  unfold decR; split
  · simp
  · exact dec_len 19 u (by omega)
theorem u8_info3 : (Tryz.prog.info? 5).map (fun i => (i.zero, i.size, i.bytes)) = some (some (.int .u8 0), 1, 1) := by kernel_rfl
theorem bs_one {w W : World} {p : Option Addr} {n c : Nat} {L : List UInt8} (h : W.ownsRow w.heap.size 5 1 (.slice p n c) n (bv L)) (hb : Below w.heap.size w W) (x : UInt8) (hn : n ≤ 1000) :
    ∃ g cap W', (Builtin.append_ #[63, 63] 63 #[.slice p n c, .slice (some ⟨W.heap.size, 0, none⟩) 1 1]).run Tryz.prog (W.alloc (.cells #[.int .u8 (x.toNat : Int)] 5)) = .ok (.slice (some ⟨g, 0, none⟩) (n + 1) cap) W' ∧ W'.ownsRow w.heap.size 5 1 (.slice (some ⟨g, 0, none⟩) (n + 1) cap) (n + 1) (bv (L ++ [x])) ∧ Below w.heap.size w W' := by
  obtain ⟨i0, hi0, hz0, hz1, hz2⟩ := info_parts u8_info3; have hb1 := (Below.refl W.heap.size W).alloc (Nat.le_refl _) (.cells #[.int .u8 (x.toNat : Int)] 5); have h1 := ownsRow_block h (fun b hb' => hb1.block b (Tr.own_lo h b hb').2); have hb2 := chain2 hb hb1; obtain ⟨g, cap, W', hr, hrow, hgr, -, -⟩ := run_append_lies (P := Tryz.prog) (w := W.alloc (.cells #[.int .u8 (x.toNat : Int)] 5)) 63 63 w.heap.size 5 i0 _ 1 1 Tryz.underlying63 hi0 hz0 hz1 hz2 rfl (by decide) _ n (bv L) h1 ⟨W.heap.size, 0, none⟩ 1 1 (bv [x]) rfl (news_at W #[.int .u8 (x.toNat : Int)] 5) (by intro u hu; simp [bv] at hu; subst hu; rfl) (by decide) (by unfold maxLen; omega) (by omega) hb2.size _ rfl
  exact ⟨g, cap, W', hr, by rw [bv_append]; exact hrow, Tr.below_grown hgr hb2 (fun k hk => (Tr.own_lo h1 k hk).1) hb2.size (Nat.le_refl _)⟩
theorem digits_any (u : Nat) (hu : u < 9223372036854775808) (w : World) :
    Calls Tryz.prog 110 #[.int .i64 (u : Int)] w fun e w' => e = .returned (.string (strOf (Lib.itoa (u : Int)))) ∧ Below w.heap.size w w' := by
  by_cases h0 : u = 0
  · subst h0
    go_enter Tryz.func110, Tryz.ntmps110
    go_wp2; go_ret; exact ⟨by rw [show strOf (Lib.itoa ((0 : Nat) : Int)) = ⟨#[48]⟩ by decide +kernel]; rfl, Below.refl _ _⟩
  have HR : Hid (Lib.itoa (u : Int) = decR u) := hid (by unfold Lib.itoa decR; rw [if_neg (by omega), if_neg h0, Int.toNat_natCast])
  have HL := hid (decR_len hu); have z0 : ¬(u : Int) = 0 := by omega
  have z1 : ¬(u : Int) < 0 := by omega
  clear h0; go_enter Tryz.func110, Tryz.ntmps110
  go_wp2; go_loopw [3, 4] (fun v3 vi wr => ∃ (m : Nat) (lb : List UInt8), m ≤ u ∧ vi = .int .i64 (m : Int) ∧ Hid (wr.ownsRow w.heap.size 5 1 v3 lb.length (bv lb)) ∧ Hid (Below w.heap.size w wr) ∧ Hid (decR u = decR m ++ lb.reverse)) (fun _ vi _ => (intOf vi).toNat)
  case atStart => exact ⟨u, [], Nat.le_refl _, rfl, hid (World.ownsRow_nil _ _ _ _), hid (Below.refl _ _), hid (by simp)⟩
  case round =>
    obtain ⟨m, lb, hm, rfl, HO, HB, HD⟩ := hrel; obtain ⟨p, cc, hv3, -, -⟩ := Tr.own_form0 HO.out; subst hv3; have HLB : Hid (lb.length ≤ 20) := hid (by have h1 := HL.out; rw [HD.out, List.length_append, List.length_reverse] at h1; omega)
    by_cases hm0 : m = 0
    · have y0 : (m : Int) = 0 := by omega
      have HLR : Hid (decR u = lb.reverse) := hid (by have := HD.out; rw [hm0] at this; exact this)
      clear hm0 HD hu; obtain ⟨n, hn⟩ : ∃ n, n = lb.length := ⟨_, rfl⟩; have HN := hid hn; rw [← hn] at HO HLB ⊢; have hn20 := HLB.out; clear hn HLB; obtain ⟨w9, hw9⟩ : ∃ x, x = wr := ⟨_, rfl⟩; subst hw9; go_wp2; clear y0; go_loopw [6, 7] (fun v6 vi wr => ∃ j : Nat, j ≤ n ∧ vi = .int .i64 ((j : Int) - 1) ∧ v6 = .string (strOf (lb.drop j).reverse) ∧ wr = w9) (fun _ vi _ => (intOf vi + 1).toNat)
      case atStart => exact ⟨n, Nat.le_refl _, by go_num, by rw [HN.out, List.drop_length]; rfl, rfl⟩
      case round =>
        obtain ⟨j, hj, rfl, rfl, rfl⟩ := hrel; by_cases h0 : j = 0
        · have y1 : ¬((j : Int) - 1 ≥ 0) := by omega
          have HF : Hid (strOf (lb.drop j).reverse = strOf (Lib.itoa (u : Int))) := hid (by rw [HR.out, HLR.out, h0]; rfl)
          clear h0 HO; generalize strOf (lb.drop j).reverse = q at *; go_wp2; go_ret; exact ⟨by rw [← HF.out]; rfl, HB.out⟩
        · obtain ⟨k, rfl⟩ : ∃ k, j = k + 1 := ⟨j - 1, by omega⟩
          rw [show (((k + 1 : Nat) : Int) - 1) = (k : Int) by omega]; have y1 : (k : Int) ≥ 0 := by omega
          have y2 : 0 ≤ (k : Int) := by omega
          have y3 : (k : Int) ≤ (k : Int) + 1 := by omega
          obtain ⟨g, cap, hv⟩ := Tr.own_form HO.out (by omega); simp only [Value.slice.injEq] at hv; obtain ⟨rfl, -, rfl⟩ := hv; have hkl : k < lb.length := by have := HN.out; omega
          have hcap : n ≤ cc := by
            rcases HO.out.2 with ⟨h, -⟩ | ⟨g', cap', cur, h, -, -, h1, -⟩
            · cases h
            · cases h; exact h1
          have y4 : (k : Int) + 1 ≤ (cc : Int) := by omega
          have hcell := HO.out.cellAt k (by omega); rw [show (bv lb)[k]? = some (.int .u8 (lb[k].toNat : Int)) by simp [bv, hkl]] at hcell; have hcv := fun c => run_convert_bytes_arg (P := Tryz.prog) wr 63 5 Tryz.underlying63 Tryz.underlying5 g k 1 c [(lb[k].toNat : Int)] rfl (fun i hi => by obtain rfl : i = 0 := (by omega); rw [Nat.add_zero]; exact hcell) 9 Tryz.underlying9
          have HX : Hid ((strOf (lb.drop (k + 1)).reverse) ++ strOfNums [(lb[k].toNat : Int)] = strOf (lb.drop k).reverse) := hid (by rw [List.drop_eq_getElem_cons hkl, List.reverse_cons]; apply ByteArray.ext; simp [ByteArray.data_append, strOf, strOfNums])
          have hsz : ¬9223372036854775807 < (strOf (lb.drop (k + 1)).reverse).size + (strOfNums [(lb[k].toNat : Int)]).size := by
            rw [strOfNums_size, strOf_size, List.length_reverse, List.length_drop, ← HN.out]; simp; omega
          clear hcell h0 HO; generalize strOfNums [(lb[k].toNat : Int)] = q1 at *; generalize strOf (lb.drop (k + 1)).reverse = q2 at *; go_wp2; go_roundw
          case rel => exact ⟨k, by omega, by rfl, by rw [HX.out], by trivial⟩
          case measure => simp [intOf]
    · have y0 : ¬(m : Int) = 0 := by omega
      have hx : (UInt8.ofNat (48 + m % 10)).toNat = 48 + m % 10 := by
        have h := Nat.mod_lt m (show 10 > 0 by decide); exact (by simpa using (show (48 + m % 10) % 256 = 48 + m % 10 by omega))
      obtain ⟨g4, cap4, w4, hr4, hrow4, hb4⟩ := bs_one HO.out HB.out (UInt8.ofNat (48 + m % 10)) (by have := HLB.out; omega)
      rw [hx] at hr4; have HO4 := hid hrow4; have HB4 := hid hb4; have HD4 : Hid (decR u = decR (m / 10) ++ (lb ++ [UInt8.ofNat (48 + m % 10)]).reverse) := hid (by rw [HD.out, decR_step (by omega)]; simp)
      clear hrow4 hb4 HO HB HD; go_wp2_with (at_builtin; refine Lib.wpList_append_run _ rfl _ _ _ _ rfl _ _ rfl rfl _ _ hr4 ?_)
      refine ⟨⟨m / 10, lb ++ [UInt8.ofNat (48 + m % 10)], by omega, by rfl, ?_, HB4, HD4⟩, by simp [intOf]; omega⟩
      rw [List.length_append]; exact HO4
end Go.Proofs.YtmljjpdodcpohaaGreatDoor.Sw

namespace Go.Proofs.YtmljjpdodcpohaaGreatDoor.Sw
open Lib (hid)
set_option maxRecDepth 100000
set_option maxHeartbeats 4000000
open Go.RowKit Dk Lx Tr
structure NdAt (l : List Nd) (v : Value) (w : World) (i : Nat) (x : Nd) : Prop where
  nds : Nds w v l
  lt : i < l.length
  is : l[i] = x
  small : l.length ≤ 4000
theorem kids_at {l : List Nd} {v : Value} {w : World} {i : Nat} {x : Nd} {c : Cat} {o : List Tk} {l' : List Nd} (h : NdAt l v w i x) (hp : Prn [.nd c] (l.drop i) o l') (n : Nat) (hn : x.kids = (n : Int)) (W : World) (hb : Below w.heap.size w W) :
    Calls Tryz.prog 62 #[v, .int .i64 (i : Int)] W fun e W' => ∃ u, e = .returned u ∧ IR W W' u (PosI l (i + 1) 0 n) :=
  (rkids_any l v (i : Int) W (h.nds.later hb) h.small).mono fun e W' ⟨u, he, hr⟩ => by
    refine ⟨u, he, ?_⟩; obtain ⟨m, h1, -⟩ := hp.ends; change endW 1 _ = some m at h1; rw [show kidsOf (l.drop i) = (kidsOf l).drop i by simp [kidsOf, List.map_drop]] at h1; rw [kidsZ_some h1 (kidsOf_at h.lt), h.is, hn, Int.toNat_natCast] at hr; have e : posZ (kidsOf l) (i + 1) n = PosI l (i + 1) 0 n := by unfold posZ PosI; rw [List.map_map]; congr 1; funext j; simp
    rw [e] at hr; exact hr
theorem drop_at {l : List Nd} {i : Nat} {x : Nd} {r : List Nd} (h : l.drop i = x :: r) : ∃ hi : i < l.length, l[i] = x ∧ l.drop (i + 1) = r := by
  have hi : i < l.length := by
    rcases Nat.lt_or_ge i l.length with h1 | h1
    · exact h1
    · rw [List.drop_eq_nil_of_le h1] at h; cases h
  rw [List.drop_eq_getElem_cons hi] at h; simp only [List.cons.injEq] at h; exact ⟨hi, h.1, h.2⟩
theorem strs_lit2 (W : World) (o : Obj) (qs : List (List UInt8)) (ty : TypeId) (n : Nat) (hn : n = qs.length) : Strs ((W.alloc o).alloc (.cells (sCells qs).toArray ty)) (.slice (some ⟨W.heap.size + 1, 0, none⟩) n n) qs := by
  have := Strs.lit (W.alloc o) qs ty n hn; rwa [show (W.alloc o).heap.size = W.heap.size + 1 by simp] at this
theorem below2 (W : World) (o o' : Obj) : Below W.heap.size W ((W.alloc o).alloc o') := ((Below.refl _ _).alloc (Nat.le_refl _) o).alloc (by simp) o'
theorem rs_13 {l : List Nd} {v : Value} {w0 : World} {N : Nat} (hN : NodR l v w0 N) (i : Nat) (q : List UInt8) (z : Int) (s : List UInt8) (o : List Tk) (l' : List Nd) (w : World) (ha : NdAt l v w i ⟨13, 1, q, z, s⟩) (hl : (l.drop (i + 1)).length < N) (hw : Below w0.heap.size w0 w) (ho : o.length ≤ 100000)
    (hp : Prn [.nd .st] (l.drop i) o l') (hq : Prn [sg [114, 101, 116, 117, 114, 110], .nd .ex, sg [59]] (l.drop (pos (kidsOf l) (i + 1) 0)) o l') :
    Calls Tryz.prog 66 #[v, .int .i64 (i : Int)] w fun e w' => ∃ u, e = .returned u ∧ TR w w' u o := by
  obtain ⟨p, c, hv, -⟩ := id ha.nds; subst hv; obtain ⟨g, o0, hp0, -, -, -, -, -, -, hr⟩ := ha.nds.node i ha.lt; subst hp0; rw [ha.is] at hr; have z0 : (0 : Int) ≤ (i : Int) := by omega
  have z1 : (i : Int) < (l.length : Int) := by have := ha.lt; omega
  obtain ⟨x, hx⟩ : ∃ x : Nd, x = ⟨13, 1, q, z, s⟩ := ⟨_, rfl⟩; rw [← hx] at hr; have HX := hid hx; clear hx; have HR := hid hr; have RK := hid (fun (W : World) (h : Below w.heap.size w W) => kids_at ha hp 1 rfl W h); obtain ⟨o1, ho1, hq1⟩ := hq.tok_inv; obtain ⟨o2, o3, l1, ho2, hq2, hq3⟩ := hq1.nd_cons; obtain ⟨o4, ho4, hq5⟩ := hq3.tok_inv; cases hq5
  obtain ⟨P0, hP0⟩ : ∃ P, P = pos (kidsOf l) (i + 1) 0 := ⟨_, rfl⟩; have hlP0 : (l.drop P0).length < N := by rw [hP0]; exact drop_less (pos_ge _ _ _) hl
  rw [← hP0] at hq2; have HP0 := hid hP0; have HE : Hid (o = [sgn [114, 101, 116, 117, 114, 110]] ++ o2 ++ [sgn [59]]) := hid (by rw [ho1, ho2, ho4]; simp)
  have AR := hid (fun (va vb : Value) (W : World) (h : Below w.heap.size w W) (h1 : Strs W va [[114, 101, 116, 117, 114, 110]]) (h2 : Strs W vb [[59]]) => around_any hN [[114, 101, 116, 117, 114, 110]] [[59]] va vb P0 .ex o2 _ W hlP0 hq2 (chain2 hw h) h1 h2 (by decide) (by decide) (by decide) (by decide) (fun h => by cases h) (by rw [ho1, ho2] at ho; simp at ho; omega))
  have HI := hid (n_info x); have hia := n_infoA x; have hla := n_all x; have HZ := hid (nb_zero w); have HP := hid (nb_put w x); obtain ⟨n, hn⟩ : ∃ n, n = l.length := ⟨_, rfl⟩; rw [← hn] at z1 RK AR ⊢; clear hr hq hq1 hq2 hq3 ho1 ho2 ho4 ha hp hw hl hN ho hn hP0 hlP0; go_enter Tryz.func66, Tryz.ntmps66
  go_upto_region 2 with (first
    | (refine wpList_load_mid rfl 58 (.tmp 12) rfl g (o0 + i * 5) rfl x.cells _ HR.out Tryz.underlying58 rfl HI.out ?_)
    | (refine wpList_store_mid rfl 58 (.tmp 5) (.tmp 13) rfl w.heap.size 0 x.cells.toArray rfl rfl HZ.out.room hia hla ?_; generalize World.setCells _ _ _ _ = W3 at HP ⊢)
    | fail)
  go_wp2_with fail
  refine (RK.out W3 HP.out.2).mono ?_; rintro e w4 ⟨kv, rfl, hk⟩; have HNB := hid (HP.out.1.later hk.below); have HB4 := hid (chain2 HP.out.2 hk.below); obtain ⟨g5, c5, hkv⟩ := Tr.own_form hk.row (by rw [posI_len]; decide)
  rw [posI_len] at hkv; subst hkv; have HK := hid hk.ins; clear hk RK HP; obtain ⟨c0, -, c2, c3, c4⟩ := HNB.out.at; rw [HX.out] at c0 c2 c3 c4; obtain ⟨g6, o6, hp6, hg6, k0⟩ := HK.out.int 0 (by rw [posI_len]; decide)
  rw [posI_at] at k0; simp only [Option.some.injEq, Addr.mk.injEq, and_true] at hp6; obtain ⟨rfl, rfl⟩ := hp6; rw [show pos (kidsOf l) (i + 1) (0 + 0) = P0 from HP0.out.symm, Nat.zero_add] at k0; go_wp2_with fail
  refine (AR.out _ _ _ (chain2 HB4.out (below2 w4 _ _)) ((Strs.lit w4 [[114, 101, 116, 117, 114, 110]] 9 1 rfl).later ((Below.refl _ _).alloc (Nat.le_refl _) _)) (strs_lit2 w4 _ [[59]] 9 1 rfl)).mono ?_; rintro e w6 ⟨u6, rfl, hu6⟩; have HU := hid (tr_from hu6 (chain2 HB4.out (below2 w4 _ _))); clear hu6 AR; go_wp2; go_ret; exact ⟨u6, rfl, by rw [HE.out]; exact HU.out⟩
end Go.Proofs.YtmljjpdodcpohaaGreatDoor.Sw

namespace Go.Proofs.YtmljjpdodcpohaaGreatDoor.Sw
open Lib (hid)
set_option maxRecDepth 100000
set_option maxHeartbeats 1000000
open Go.RowKit Dk Lx Tr
theorem number_any (u : Nat) (hu : u < 9223372036854775808) (w : World) :
    Calls Tryz.prog 70 #[.int .i64 (u : Int)] w fun e w' => e = .returned (.agg (inT (u : Int)).cells.toArray) ∧ Below w.heap.size w w' := by
  have K := hid (fun W => digits_any u hu W); have HZ0 := hid (tb_zero w); obtain ⟨W1, hW1⟩ : ∃ W1, W1 = w.alloc (.cells #[.int .i64 0, .string ⟨#[]⟩, .int .i64 0, .int .i64 0] 73) := ⟨_, rfl⟩; have HW1 := hid hW1; have HB1 : Hid (Below w.heap.size w W1) := hid (by rw [hW1]; exact (Below.refl _ _).alloc (Nat.le_refl _) _)
  rw [← hW1] at HZ0; clear hW1
  have HP : Hid (∀ W2 : World, Below W1.heap.size W1 W2 → ∀ t : Tk, TB W2 w.heap.size Tk.zero ∧ (W2.setCells w.heap.size 0 t.cells.toArray.toList).rangeAt w.heap.size 0 t.cells ∧ Below w.heap.size w (W2.setCells w.heap.size 0 t.cells.toArray.toList)) := hid (fun W2 hb t => by
    have h1 := HZ0.out.later hb; have h2 := chain2 HB1.out hb
    exact ⟨h1, (h1.set t).cells, below_setCells h2 _ (Nat.le_refl _) _ _ _ h2⟩)
  obtain ⟨q, hq⟩ : ∃ q, q = Lib.itoa (u : Int) := ⟨_, rfl⟩; have HT : Hid (inT (u : Int) = ⟨2, q, (u : Int), 0⟩) := hid (by rw [hq]; rfl)
  rw [← hq] at K; generalize inT (u : Int) = T at *; clear hq; go_enter Tryz.func70, Tryz.ntmps70
  go_upto_region 1 with fail
  rw [← HW1.out]; go_wp2_with fail
  refine (K.out W1).mono ?_; rintro e w2 ⟨rfl, hb⟩; have HQ := hid (HP.out w2 hb ⟨2, q, (u : Int), 0⟩); clear hb HP K; go_wp2_with (refine wpList_store_mid rfl 73 (.tmp 2) (.tmp 6) rfl w.heap.size 0 (Tk.mk 2 q (u : Int) 0).cells.toArray rfl rfl HQ.out.1.room (t_infoA _) (t_all _) ?_; generalize World.setCells _ _ _ _ = W8 at HQ ⊢)
  refine bodyPost_ret (results_cell1 rfl _ _ rfl HQ.out.2.1 Tryz.underlying73 rfl (t_info _)) rfl ?_; exact ⟨by rw [HT.out], HQ.out.2.2⟩
theorem ofT_name {q : List UInt8} (h : isName q = true) : ofT q = nmT q := by
  have hk : isKey q = false := by
    unfold isName at h; simp at h
    simp_all
  unfold ofT nmT; rw [hk, h]; rfl
theorem ofT_ops : (binList.all (fun q => ofT q == sgn q) && unList.all (fun q => ofT q == sgn q)) = true := by decide +kernel
end Go.Proofs.YtmljjpdodcpohaaGreatDoor.Sw

namespace Go.Proofs.YtmljjpdodcpohaaGreatDoor.Sw
open Lib (hid)
set_option maxRecDepth 100000
set_option maxHeartbeats 4000000
open Go.RowKit Dk Lx Tr
theorem rs_6 {l : List Nd} {v : Value} {w0 : World} {N : Nat} (hN : NodR l v w0 N) (i : Nat) (q : List UInt8) (z : Int) (s : List UInt8) (o : List Tk) (l' : List Nd) (w : World) (ha : NdAt l v w i ⟨6, 1, q, z, s⟩) (hl : (l.drop (i + 1)).length < N) (hw : Below w0.heap.size w0 w) (ho : o.length ≤ 100000)
    (hp : Prn [.nd .st] (l.drop i) o l') (hq : Prn [sg [108, 101, 116], nm q, sg [61], .nd .ex, sg [59]] (l.drop (pos (kidsOf l) (i + 1) 0)) o l') (hnm : ofT q = nmT q) (hql : q.length ≤ 2 ^ 40) :
    Calls Tryz.prog 66 #[v, .int .i64 (i : Int)] w fun e w' => ∃ u, e = .returned u ∧ TR w w' u o := by
  obtain ⟨p, c, hv, -⟩ := id ha.nds; subst hv; obtain ⟨g, o0, hp0, -, -, -, -, -, -, hr⟩ := ha.nds.node i ha.lt; subst hp0; rw [ha.is] at hr; have z0 : (0 : Int) ≤ (i : Int) := by omega
  have z1 : (i : Int) < (l.length : Int) := by have := ha.lt; omega
  obtain ⟨x, hx⟩ : ∃ x : Nd, x = ⟨6, 1, q, z, s⟩ := ⟨_, rfl⟩; rw [← hx] at hr; have HX := hid hx; clear hx; have HR := hid hr; have RK := hid (fun (W : World) (h : Below w.heap.size w W) => kids_at ha hp 1 rfl W h); obtain ⟨a0, ho0, hq0⟩ := hq.tok_inv; obtain ⟨a1, ho1, hq1⟩ := hq0.tok_inv; obtain ⟨a2, ho2, hq2⟩ := hq1.tok_inv; obtain ⟨b0, a3, l0, ho3, hk0, hq3⟩ := hq2.nd_cons; obtain rfl := prn_step hk0; obtain ⟨a4, ho4, hq4⟩ := hq3.tok_inv; cases hq4
  have hoE : o = ([sgn [108, 101, 116], nmT q, sgn [61]] ++ b0 ++ [sgn [59]]) := by rw [ho0, ho1, ho2, ho3, ho4] <;> simp
  have hoL := congrArg List.length hoE; simp only [List.length_append, List.length_cons, List.length_nil] at hoL; have HE := hid hoE; have HPOS0 := hid (prn_pos1 _ (Nat.lt_succ_self _) hk0); have HBN0 : Hid (b0.length ≤ 100000) := hid (by omega); obtain ⟨P0, hP0⟩ : ∃ P, P = pos (kidsOf l) (i + 1) 0 := ⟨_, rfl⟩; have hlP0 : (l.drop P0).length < N := by rw [hP0]; exact drop_less (pos_ge _ _ _) hl
  rw [← hP0] at hk0; have HP0 := hid hP0; have AR0 := hid (fun (va : Value) (vb : Value) (W : World) (h : Below w.heap.size w W) (h1 : Strs W va [[108, 101, 116], q, [61]]) (h2 : Strs W vb [[59]]) => around_any hN [[108, 101, 116], q, [61]] [[59]] va vb P0 .ex b0 _ W hlP0 hk0 (chain2 hw h) h1 h2 (by intro y hy; simp at hy; rcases hy with rfl | rfl | rfl <;> first | assumption | decide) (by decide) (by simp) (by simp) (fun h => by cases h) (by omega))
  have HI := hid (n_info x); have hia := n_infoA x; have hla := n_all x; have HZ := hid (nb_zero w); have HPT := hid (nb_put w x); obtain ⟨n, hn⟩ : ∃ n, n = l.length := ⟨_, rfl⟩; rw [← hn] at z1 RK AR0 ⊢; clear hr hq ha hp hw hl hN ho hn hoL ho0 hq0 ho1 hq1 ho2 hq2 ho3 hk0 hq3 ho4 hoE hP0 hlP0; go_enter Tryz.func66, Tryz.ntmps66
  go_upto_region 2 with (first
    | (refine wpList_load_mid rfl 58 (.tmp 12) rfl g (o0 + i * 5) rfl x.cells _ HR.out Tryz.underlying58 rfl HI.out ?_)
    | (refine wpList_store_mid rfl 58 (.tmp 5) (.tmp 13) rfl w.heap.size 0 x.cells.toArray rfl rfl HZ.out.room hia hla ?_; generalize World.setCells _ _ _ _ = W3 at HPT ⊢)
    | fail)
  go_wp2_with fail
  refine (RK.out W3 HPT.out.2).mono ?_; rintro e w4 ⟨kv, rfl, hk⟩; have HNB := hid (HPT.out.1.later hk.below); have HB4 := hid (chain2 HPT.out.2 hk.below); obtain ⟨g5, c5, hkv⟩ := Tr.own_form hk.row (by rw [posI_len]; decide)
  rw [posI_len] at hkv; subst hkv; have HK := hid hk.ins; have HG5 : Hid (g5 < w4.heap.size) := hid (by obtain ⟨_, _, h6, h7, -⟩ := HK.out.int 0 (by rw [posI_len]; decide); simp only [Option.some.injEq, Addr.mk.injEq, and_true] at h6; obtain ⟨rfl, rfl⟩ := h6; exact h7)
  obtain ⟨g6, o6, hp6, hg6, k0⟩ := HK.out.int 0 (by rw [posI_len]; decide)
  rw [posI_at] at k0; simp only [Option.some.injEq, Addr.mk.injEq, and_true] at hp6; obtain ⟨rfl, rfl⟩ := hp6; rw [show pos (kidsOf l) (i + 1) (0 + 0) = P0 from (by rw [Nat.zero_add]; exact HP0.out.symm), Nat.zero_add] at k0
  have HK0 : Hid (∀ W, Below w4.heap.size w4 W → W.cell? ⟨g5, 0, none⟩ = some (.int .i64 (P0 : Int))) := hid (fun W hb => (World.cell?_of_block (a := ⟨g5, 0, none⟩) (hb.block g5 hg6)).trans k0); clear hg6 k0; clear hk RK HPT; obtain ⟨c0, -, c2, c3, c4⟩ := HNB.out.at; rw [HX.out] at c0 c2 c3 c4; have HB44 := hid (Below.refl w4.heap.size w4); have kk := HK0.out w4 HB44.out; have hgk := Nat.lt_of_lt_of_le HG5.out HB44.out.size; have hnb := HNB.out.lt; have HSC : Hid (∀ W, Below w4.heap.size w4 W → W.cell? ⟨w.heap.size, 2, none⟩ = some (.string (strOf q)) ∧ W.cell? ⟨g5, 0, none⟩ = some (.int .i64 (P0 : Int))) := hid (fun W hb => ⟨(World.cell?_of_block (a := ⟨w.heap.size, 2, none⟩) (hb.block _ HNB.out.lt)).trans c2, HK0.out W hb⟩); have ORD1 : Hid (Calls Tryz.prog 106 #[.slice (some ⟨w4.heap.size, 0, none⟩) 3 3, .slice (some ⟨g, o0, none⟩) n c, .int .i64 (P0 : Int), .slice (some ⟨w4.heap.size + 1, 0, none⟩) 1 1] ((w4.alloc (.cells #[.string ⟨#[108, 101, 116]⟩, .string (strOf q), .string ⟨#[61]⟩] 9)).alloc (.cells #[.string ⟨#[59]⟩] 9)).drew fun e w' => ∃ u, e = .returned u ∧ TR w4 w' u (List.map ofT [[108, 101, 116], q, [61]] ++ b0 ++ List.map ofT [[59]])) := hid ((AR0.out _ _ _ (chain2 HB4.out (below2 w4 _ _).drew) (((Strs.lit w4 [[108, 101, 116], q, [61]] 9 3 rfl).later ((Below.refl _ _).alloc (Nat.le_refl _) _)).later (Below.refl _ _).drew) ((strs_lit2 w4 _ [[59]] 9 1 rfl).later (Below.refl _ _).drew)).mono fun e w' ⟨u, h1, h2⟩ => ⟨u, h1, tr_from h2 (below2 w4 _ _).drew⟩); have ORD2 : Hid (Calls Tryz.prog 106 #[.slice (some ⟨w4.heap.size + 1, 0, none⟩) 3 3, .slice (some ⟨g, o0, none⟩) n c, .int .i64 (P0 : Int), .slice (some ⟨w4.heap.size, 0, none⟩) 1 1] ((w4.alloc (.cells #[.string ⟨#[59]⟩] 9)).alloc (.cells #[.string ⟨#[108, 101, 116]⟩, .string (strOf q), .string ⟨#[61]⟩] 9)).drew fun e w' => ∃ u, e = .returned u ∧ TR w4 w' u (List.map ofT [[108, 101, 116], q, [61]] ++ b0 ++ List.map ofT [[59]])) := hid ((AR0.out _ _ _ (chain2 HB4.out (below2 w4 _ _).drew) ((strs_lit2 w4 _ [[108, 101, 116], q, [61]] 9 3 rfl).later (Below.refl _ _).drew) (((Strs.lit w4 [[59]] 9 1 rfl).later ((Below.refl _ _).alloc (Nat.le_refl _) _)).later (Below.refl _ _).drew)).mono fun e w' ⟨u, h1, h2⟩ => ⟨u, h1, tr_from h2 (below2 w4 _ _).drew⟩); clear AR0; go_wp2_with fail
  go_region_held3 (fun w' => w'.cell? ⟨w.heap.size, 2, none⟩ = some (.string (strOf q)) ∧ w'.cell? ⟨g5, 0, none⟩ = some (.int .i64 (P0 : Int))) (first | exact ⟨h91, h92⟩ | go_keep)
    (first
      | (go_simp; go_at_call 106; with_reducible refine ORD1.out.mono ?_; rintro e w9 ⟨u9, rfl, hu0⟩; have HUU := hid hu0; obtain ⟨h91, h92⟩ := HSC.out _ hu0.below; clear hu0)
      | (go_simp; go_at_call 106; with_reducible refine ORD2.out.mono ?_; rintro e w9 ⟨u9, rfl, hu0⟩; have HUU := hid hu0; obtain ⟨h91, h92⟩ := HSC.out _ hu0.below; clear hu0))
  all_goals
    have h := HUU.out; rw [show List.map ofT [[108, 101, 116], q, [61]] = [sgn [108, 101, 116], nmT q, sgn [61]] from (by simp only [List.map_cons, List.map_nil, hnm] <;> rfl), show List.map ofT [[59]] = [sgn [59]] from rfl] at h; have HBx0 := hid (chain2 HB4.out h.below); have HBy0 := hid h.below; obtain ⟨p8, n8, c8, hv8, hts⟩ := tr_ts h; subst hv8; have HTS0 := hid hts; clear hts h HUU kk hgk hnb h91 h92 HSC ORD1 ORD2; go_wp2; go_ret; exact ⟨_, rfl, by rw [HE.out]; exact tr_from HTS0.out.tr HB4.out⟩
theorem rs_7 {l : List Nd} {v : Value} {w0 : World} {N : Nat} (hN : NodR l v w0 N) (i : Nat) (q : List UInt8) (z : Int) (s : List UInt8) (o : List Tk) (l' : List Nd) (w : World) (ha : NdAt l v w i ⟨7, 1, q, z, s⟩) (hl : (l.drop (i + 1)).length < N) (hw : Below w0.heap.size w0 w) (ho : o.length ≤ 100000)
    (hp : Prn [.nd .st] (l.drop i) o l') (hq : Prn [nm q, sg [61], .nd .ex, sg [59]] (l.drop (pos (kidsOf l) (i + 1) 0)) o l') (hnm : ofT q = nmT q) (hql : q.length ≤ 2 ^ 40) :
    Calls Tryz.prog 66 #[v, .int .i64 (i : Int)] w fun e w' => ∃ u, e = .returned u ∧ TR w w' u o := by
  obtain ⟨p, c, hv, -⟩ := id ha.nds; subst hv; obtain ⟨g, o0, hp0, -, -, -, -, -, -, hr⟩ := ha.nds.node i ha.lt; subst hp0; rw [ha.is] at hr; have z0 : (0 : Int) ≤ (i : Int) := by omega
  have z1 : (i : Int) < (l.length : Int) := by have := ha.lt; omega
  obtain ⟨x, hx⟩ : ∃ x : Nd, x = ⟨7, 1, q, z, s⟩ := ⟨_, rfl⟩; rw [← hx] at hr; have HX := hid hx; clear hx; have HR := hid hr; have RK := hid (fun (W : World) (h : Below w.heap.size w W) => kids_at ha hp 1 rfl W h); obtain ⟨a0, ho0, hq0⟩ := hq.tok_inv; obtain ⟨a1, ho1, hq1⟩ := hq0.tok_inv; obtain ⟨b0, a2, l0, ho2, hk0, hq2⟩ := hq1.nd_cons; obtain rfl := prn_step hk0; obtain ⟨a3, ho3, hq3⟩ := hq2.tok_inv; cases hq3
  have hoE : o = ([nmT q, sgn [61]] ++ b0 ++ [sgn [59]]) := by rw [ho0, ho1, ho2, ho3] <;> simp
  have hoL := congrArg List.length hoE; simp only [List.length_append, List.length_cons, List.length_nil] at hoL; have HE := hid hoE; have HPOS0 := hid (prn_pos1 _ (Nat.lt_succ_self _) hk0); have HBN0 : Hid (b0.length ≤ 100000) := hid (by omega); obtain ⟨P0, hP0⟩ : ∃ P, P = pos (kidsOf l) (i + 1) 0 := ⟨_, rfl⟩; have hlP0 : (l.drop P0).length < N := by rw [hP0]; exact drop_less (pos_ge _ _ _) hl
  rw [← hP0] at hk0; have HP0 := hid hP0; have AR0 := hid (fun (va : Value) (vb : Value) (W : World) (h : Below w.heap.size w W) (h1 : Strs W va [q, [61]]) (h2 : Strs W vb [[59]]) => around_any hN [q, [61]] [[59]] va vb P0 .ex b0 _ W hlP0 hk0 (chain2 hw h) h1 h2 (by intro y hy; simp at hy; rcases hy with rfl | rfl <;> first | assumption | decide) (by decide) (by simp) (by simp) (fun h => by cases h) (by omega))
  have HI := hid (n_info x); have hia := n_infoA x; have hla := n_all x; have HZ := hid (nb_zero w); have HPT := hid (nb_put w x); obtain ⟨n, hn⟩ : ∃ n, n = l.length := ⟨_, rfl⟩; rw [← hn] at z1 RK AR0 ⊢; clear hr hq ha hp hw hl hN ho hn hoL ho0 hq0 ho1 hq1 ho2 hk0 hq2 ho3 hoE hP0 hlP0; go_enter Tryz.func66, Tryz.ntmps66
  go_upto_region 2 with (first
    | (refine wpList_load_mid rfl 58 (.tmp 12) rfl g (o0 + i * 5) rfl x.cells _ HR.out Tryz.underlying58 rfl HI.out ?_)
    | (refine wpList_store_mid rfl 58 (.tmp 5) (.tmp 13) rfl w.heap.size 0 x.cells.toArray rfl rfl HZ.out.room hia hla ?_; generalize World.setCells _ _ _ _ = W3 at HPT ⊢)
    | fail)
  go_wp2_with fail
  refine (RK.out W3 HPT.out.2).mono ?_; rintro e w4 ⟨kv, rfl, hk⟩; have HNB := hid (HPT.out.1.later hk.below); have HB4 := hid (chain2 HPT.out.2 hk.below); obtain ⟨g5, c5, hkv⟩ := Tr.own_form hk.row (by rw [posI_len]; decide)
  rw [posI_len] at hkv; subst hkv; have HK := hid hk.ins; have HG5 : Hid (g5 < w4.heap.size) := hid (by obtain ⟨_, _, h6, h7, -⟩ := HK.out.int 0 (by rw [posI_len]; decide); simp only [Option.some.injEq, Addr.mk.injEq, and_true] at h6; obtain ⟨rfl, rfl⟩ := h6; exact h7)
  obtain ⟨g6, o6, hp6, hg6, k0⟩ := HK.out.int 0 (by rw [posI_len]; decide)
  rw [posI_at] at k0; simp only [Option.some.injEq, Addr.mk.injEq, and_true] at hp6; obtain ⟨rfl, rfl⟩ := hp6; rw [show pos (kidsOf l) (i + 1) (0 + 0) = P0 from (by rw [Nat.zero_add]; exact HP0.out.symm), Nat.zero_add] at k0
  have HK0 : Hid (∀ W, Below w4.heap.size w4 W → W.cell? ⟨g5, 0, none⟩ = some (.int .i64 (P0 : Int))) := hid (fun W hb => (World.cell?_of_block (a := ⟨g5, 0, none⟩) (hb.block g5 hg6)).trans k0); clear hg6 k0; clear hk RK HPT; obtain ⟨c0, -, c2, c3, c4⟩ := HNB.out.at; rw [HX.out] at c0 c2 c3 c4; have HB44 := hid (Below.refl w4.heap.size w4); have kk := HK0.out w4 HB44.out; have hgk := Nat.lt_of_lt_of_le HG5.out HB44.out.size; have hnb := HNB.out.lt; have HSC : Hid (∀ W, Below w4.heap.size w4 W → W.cell? ⟨w.heap.size, 2, none⟩ = some (.string (strOf q)) ∧ W.cell? ⟨g5, 0, none⟩ = some (.int .i64 (P0 : Int))) := hid (fun W hb => ⟨(World.cell?_of_block (a := ⟨w.heap.size, 2, none⟩) (hb.block _ HNB.out.lt)).trans c2, HK0.out W hb⟩); have ORD1 : Hid (Calls Tryz.prog 106 #[.slice (some ⟨w4.heap.size, 0, none⟩) 2 2, .slice (some ⟨g, o0, none⟩) n c, .int .i64 (P0 : Int), .slice (some ⟨w4.heap.size + 1, 0, none⟩) 1 1] ((w4.alloc (.cells #[.string (strOf q), .string ⟨#[61]⟩] 9)).alloc (.cells #[.string ⟨#[59]⟩] 9)).drew fun e w' => ∃ u, e = .returned u ∧ TR w4 w' u (List.map ofT [q, [61]] ++ b0 ++ List.map ofT [[59]])) := hid ((AR0.out _ _ _ (chain2 HB4.out (below2 w4 _ _).drew) (((Strs.lit w4 [q, [61]] 9 2 rfl).later ((Below.refl _ _).alloc (Nat.le_refl _) _)).later (Below.refl _ _).drew) ((strs_lit2 w4 _ [[59]] 9 1 rfl).later (Below.refl _ _).drew)).mono fun e w' ⟨u, h1, h2⟩ => ⟨u, h1, tr_from h2 (below2 w4 _ _).drew⟩); have ORD2 : Hid (Calls Tryz.prog 106 #[.slice (some ⟨w4.heap.size + 1, 0, none⟩) 2 2, .slice (some ⟨g, o0, none⟩) n c, .int .i64 (P0 : Int), .slice (some ⟨w4.heap.size, 0, none⟩) 1 1] ((w4.alloc (.cells #[.string ⟨#[59]⟩] 9)).alloc (.cells #[.string (strOf q), .string ⟨#[61]⟩] 9)).drew fun e w' => ∃ u, e = .returned u ∧ TR w4 w' u (List.map ofT [q, [61]] ++ b0 ++ List.map ofT [[59]])) := hid ((AR0.out _ _ _ (chain2 HB4.out (below2 w4 _ _).drew) ((strs_lit2 w4 _ [q, [61]] 9 2 rfl).later (Below.refl _ _).drew) (((Strs.lit w4 [[59]] 9 1 rfl).later ((Below.refl _ _).alloc (Nat.le_refl _) _)).later (Below.refl _ _).drew)).mono fun e w' ⟨u, h1, h2⟩ => ⟨u, h1, tr_from h2 (below2 w4 _ _).drew⟩); clear AR0; go_wp2_with fail
  go_region_held3 (fun w' => w'.cell? ⟨w.heap.size, 2, none⟩ = some (.string (strOf q)) ∧ w'.cell? ⟨g5, 0, none⟩ = some (.int .i64 (P0 : Int))) (first | exact ⟨h91, h92⟩ | go_keep)
    (first
      | (go_simp; go_at_call 106; with_reducible refine ORD1.out.mono ?_; rintro e w9 ⟨u9, rfl, hu0⟩; have HUU := hid hu0; obtain ⟨h91, h92⟩ := HSC.out _ hu0.below; clear hu0)
      | (go_simp; go_at_call 106; with_reducible refine ORD2.out.mono ?_; rintro e w9 ⟨u9, rfl, hu0⟩; have HUU := hid hu0; obtain ⟨h91, h92⟩ := HSC.out _ hu0.below; clear hu0))
  all_goals
    have h := HUU.out; rw [show List.map ofT [q, [61]] = [nmT q, sgn [61]] from (by simp only [List.map_cons, List.map_nil, hnm] <;> rfl), show List.map ofT [[59]] = [sgn [59]] from rfl] at h; have HBx0 := hid (chain2 HB4.out h.below); have HBy0 := hid h.below; obtain ⟨p8, n8, c8, hv8, hts⟩ := tr_ts h; subst hv8; have HTS0 := hid hts; clear hts h HUU kk hgk hnb h91 h92 HSC ORD1 ORD2; go_wp2; go_ret; exact ⟨_, rfl, by rw [HE.out]; exact tr_from HTS0.out.tr HB4.out⟩
end Go.Proofs.YtmljjpdodcpohaaGreatDoor.Sw

