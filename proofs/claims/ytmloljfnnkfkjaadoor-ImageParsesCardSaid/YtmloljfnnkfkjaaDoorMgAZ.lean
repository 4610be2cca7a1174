/- The walk of the document's reader of protos: its contract. No condition but those that each states. -/
import Derived.Test.YtmloljfnnkfkjaaDoorMgAY
namespace Go.Proofs.YtmloljfnnkfkjaaDoor.Im
open Go.RowKit Dk In

theorem pr_one6 (a : ByteArray) (u v : Int) {p3 p4 p5 : Option Addr} {n3 n4 n5 k3 k4 k5 : Nat} : ([.string a, .int .i64 u, .int .i64 v, .slice p3 n3 k3, .slice p4 n4 k4, .slice p5 n5 k5] : List Value).toArray.all (·.oneCell') = true := by simp [Value.oneCell']
set_option maxHeartbeats 16000000 in
set_option maxRecDepth 100000 in
theorem dproto_any {s : List UInt8} {r N : Nat} (hN : r < N) (w : World) (k : Nat) (b : Bool) (hk : k ≤ s.length) (h : DR s r N w k b) :
    Calls Tryd.prog 42 #[ptr r] w (RdAny (dRdr s r N hN) s (rdPr id) prR w k b) := by
  obtain ⟨W1, hW1⟩ : ∃ W1, W1 = w.alloc (.cells ([.string ⟨#[]⟩, .int .i64 0, .int .i64 0, .slice none 0 0, .slice none 0 0, .slice none 0 0] : List Value).toArray 38) := ⟨_, rfl⟩
  have HR0 : RS (dRdr s r N hN) s k b w w [] [] k b := ⟨RW.new (Q := (dRdr s r N hN)) h hk, .nil hk⟩
  have HR1 : Hid (RS (dRdr s r N hN) s k b w W1 [(w.heap.size, [.string ⟨#[]⟩, .int .i64 0, .int .i64 0, .slice none 0 0, .slice none 0 0, .slice none 0 0])] [] k b) := Lib.hid (by rw [hW1]; exact HR0.alloc [.string ⟨#[]⟩, .int .i64 0, .int .i64 0, .slice none 0 0, .slice none 0 0, .slice none 0 0] _)
  have HZ1 : Hid (w.heap.size < W1.heap.size) := Lib.hid (by rw [hW1]; simp)
  have hW2 : w.alloc (.cells #[.string ⟨#[]⟩, .int .i64 0, .int .i64 0, .slice none 0 0, .slice none 0 0, .slice none 0 0] 38) = W1 := hW1.symm
  have NR := Lib.hid (fun (K : Nat) (hK : wideB (K : Int) = true) => dnumR (s := s) (r := r) hN hK)
  have TR := Lib.hid (dtextR (s := s) (r := r) hN)
  have SH := Lib.hid (fun W k b h => DR.short (s := s) (r := r) (N := N) (W := W) (k := k) (b := b) hN h)
  clear hW1 HR0 h
  go_enter Tryd.func42, Tryd.ntmps42
  go_wp2_with fail
  refine (TR.out _ _ _ HR1.out.rw.le HR1.out.rw.st).mono ?_
  rintro e W2 ⟨nm, k2, b2, rfl, ho⟩
  have HR2 := Lib.hid (HR1.out.txt ho)
  have HP := Lib.hid (HR2.out.rw.put #[.string ⟨#[]⟩, .int .i64 0, .int .i64 0, .slice none 0 0, .slice none 0 0, .slice none 0 0] 38 [.string (strOf nm), .int .i64 0, .int .i64 0, .slice none 0 0, .slice none 0 0, .slice none 0 0] rfl)
  have HT1 := Lib.hid HP.out.1
  have HP2 := Lib.hid HP.out.2
  have HZ2 : Hid (w.heap.size < W2.heap.size) := Lib.hid (Nat.lt_of_lt_of_le HZ1.out ho.only.size)
  have HSQ2 := Lib.hid HR2.out.sq
  have HIA : Hid (∀ (a : ByteArray) (u v : Int) (x y z : Value), (Tryd.prog.info? 38).map (·.size) = some ([.string a, .int .i64 u, .int .i64 v, x, y, z] : List Value).toArray.size) := Lib.hid (fun _ _ _ _ _ _ => by kernel_rfl)
  clear ho HR1 HP HR2
  go_wp2_with (refine wpList_store_mid rfl 38 (.tmp 3) (.tmp 13) rfl W2.heap.size 0 ([.string (strOf nm), .int .i64 0, .int .i64 0, .slice none 0 0, .slice none 0 0, .slice none 0 0] : List Value).toArray rfl rfl HT1.out (HIA.out _ _ _ _ _ _) (pr_one6 _ _ _) ?_; generalize World.setCells _ _ _ _ = W3 at HP2 ⊢; have HZ3 := Lib.hid HZ2.out; generalize hpb : W2.heap.size = pb at HP2 HZ2 ⊢)
  refine (NR.out 1 rfl _ _ _ HP2.out.le HP2.out.st).mono ?_
  rintro e W4 ⟨ps, k4, b4, rfl, ho⟩
  have HSQ4 := Lib.hid (HSQ2.out.num ho.out)
  have HR4 := Lib.hid (HP2.out.ok ho)
  have d1 : W4.cell? ⟨pb, 1, none⟩ = some (.int .i64 0) := HR4.out.at (x := (pb, [.string (strOf nm), .int .i64 0, .int .i64 0, .slice none 0 0, .slice none 0 0, .slice none 0 0])) (by simp) 1 _ rfl
  have g1 : W4.frozen? ⟨pb, 1, none⟩ = false := (HR4.out.own (pb, [.string (strOf nm), .int .i64 0, .int .i64 0, .slice none 0 0, .slice none 0 0, .slice none 0 0]) (by simp)).1.free 1 (by simp)
  have HR5 : Hid (RW (dRdr s r N hN) s w (W4.setCell ⟨pb, 1, none⟩ (.int .i64 ps)) [(pb, [.string (strOf nm), .int .i64 ps, .int .i64 0, .slice none 0 0, .slice none 0 0, .slice none 0 0]), (w.heap.size, [.string ⟨#[]⟩, .int .i64 0, .int .i64 0, .slice none 0 0, .slice none 0 0, .slice none 0 0])] k4 b4) := Lib.hid (HR4.out.setOne 1 (.int .i64 ps) (by simp))
  clear ho HP2 HT1 HSQ2 HR4
  go_wp2_with fail
  refine (NR.out 1 rfl _ _ _ HR5.out.le HR5.out.st).mono ?_
  rintro e W6 ⟨rg, k6, b6, rfl, ho⟩
  have HSQ6 := Lib.hid (HSQ4.out.num ho.out)
  have HR6 := Lib.hid (HR5.out.ok ho)
  have d2 : W6.cell? ⟨pb, 2, none⟩ = some (.int .i64 0) := HR6.out.at (x := (pb, [.string (strOf nm), .int .i64 ps, .int .i64 0, .slice none 0 0, .slice none 0 0, .slice none 0 0])) (by simp) 2 _ rfl
  have g2 : W6.frozen? ⟨pb, 2, none⟩ = false := (HR6.out.own (pb, [.string (strOf nm), .int .i64 ps, .int .i64 0, .slice none 0 0, .slice none 0 0, .slice none 0 0]) (by simp)).1.free 2 (by simp)
  have HR7 : Hid (RW (dRdr s r N hN) s w (W6.setCell ⟨pb, 2, none⟩ (.int .i64 rg)) [(pb, [.string (strOf nm), .int .i64 ps, .int .i64 rg, .slice none 0 0, .slice none 0 0, .slice none 0 0]), (w.heap.size, [.string ⟨#[]⟩, .int .i64 0, .int .i64 0, .slice none 0 0, .slice none 0 0, .slice none 0 0])] k6 b6) := Lib.hid (HR6.out.setOne 2 (.int .i64 rg) (by simp))
  clear ho HSQ4 HR5 HR6 d1 g1
  go_wp2_with fail
  refine (NR.out 2 rfl _ _ _ HR7.out.le HR7.out.st).mono ?_
  rintro e W8 ⟨n1, k8, b8, rfl, ho⟩
  have HR8 := Lib.hid (HR7.out.ok ho)
  have HN1 := Lib.hid ho.out
  have HSM1 : Hid (b8 = false → 0 ≤ n1 ∧ n1 ≤ 65535) := Lib.hid (fun hb => by subst hb; exact two_small ho.out)
  have HD1 : Hid (∀ g ∈ [pb, w.heap.size], g < W8.heap.size) := Lib.hid (fun g hg => by
    simp only [List.mem_cons, List.not_mem_nil, or_false] at hg
    rcases hg with rfl | rfl
    · exact (HR8.out.own (g, [.string (strOf nm), .int .i64 ps, .int .i64 rg, .slice none 0 0, .slice none 0 0, .slice none 0 0]) (by simp)).1.lt
    · have := HZ2.out; have := (HR8.out.own (pb, [.string (strOf nm), .int .i64 ps, .int .i64 rg, .slice none 0 0, .slice none 0 0, .slice none 0 0]) (by simp)).1.lt; simp only at this; omega)
  clear ho HR7 d2 g2
  
  have HL : Hid (LP Cp.cells 83 2 (dRdr s r N hN) s w W8 W8 [pb, w.heap.size] [(pb, [.string (strOf nm), .int .i64 ps, .int .i64 rg, .slice none 0 0, .slice none 0 0, .slice none 0 0]), (w.heap.size, [.string ⟨#[]⟩, .int .i64 0, .int .i64 0, .slice none 0 0, .slice none 0 0, .slice none 0 0])] (.slice none 0 0) [] k8 b8) := Lib.hid (LP.start Cp.cells 83 2 HR8.out (fun x hx => by simp only [List.mem_cons, List.not_mem_nil, or_false] at hx; rcases hx with rfl | rfl <;> simp) HD1.out)
  go_upto_block 0 with fail
  go_cut [] (fun wx => ∃ (l : List Cp) (p : Option Addr) (m c : Nat) (kq : Nat) (bq : Bool), Hid (LP Cp.cells 83 2 (dRdr s r N hN) s w W8 wx [pb, w.heap.size] [(pb, [.string (strOf nm), .int .i64 ps, .int .i64 rg, .slice none 0 0, .slice none 0 0, .slice p m c]), (w.heap.size, [.string ⟨#[]⟩, .int .i64 0, .int .i64 0, .slice none 0 0, .slice none 0 0, .slice none 0 0])] (.slice p m c) l kq bq) ∧ Hid (Out (rdL rdCap) s k6 b6 l kq bq))
  case first =>
    go_wp2
    go_loopw [5] (fun vi wr => ∃ (i : Nat) (l : List Cp) (p : Option Addr) (m c : Nat) (kq : Nat) (bq : Bool), vi = .int .i64 (i : Int) ∧ Hid (m = l.length) ∧ Hid (l.length = i) ∧ Hid (LP Cp.cells 83 2 (dRdr s r N hN) s w W8 wr [pb, w.heap.size] [(pb, [.string (strOf nm), .int .i64 ps, .int .i64 rg, .slice none 0 0, .slice none 0 0, .slice p m c]), (w.heap.size, [.string ⟨#[]⟩, .int .i64 0, .int .i64 0, .slice none 0 0, .slice none 0 0, .slice none 0 0])] (.slice p m c) l kq bq) ∧ Hid (Pro rdCap s n1.toNat k8 b8 l (n1.toNat - i) kq bq) ∧ Hid (i ≤ n1.toNat) ∧ Hid (bq = false → 0 ≤ n1 ∧ n1 ≤ 65535)) (fun vi _ => n1.toNat - (intOf vi).toNat)
    case atStart => exact ⟨0, [], none, 0, 0, k8, b8, rfl, Lib.hid rfl, Lib.hid rfl, HL, Lib.hid (Pro.start _ _ _ _ _), Lib.hid (Nat.zero_le _), HSM1⟩
    case round =>
      clear HL
      obtain ⟨i, l, p, m, c, kq, bq, rfl, HM, HLI, HL, HPR, HIN, HJ⟩ := hrel
      have cS : wr.cell? ⟨r, 2, none⟩ = some (.bool bq) := SH.out wr kq bq HL.out.rw.st
      by_cases hgo : (i : Int) < n1 ∧ bq = false
      · obtain ⟨hlt, rfl⟩ := hgo
        have hjj := HJ.out rfl
        have hin := HIN.out
        have z1 : IntKind.i64.wrap ((i : Int) + 1) = ((i + 1 : Nat) : Int) := by rw [IntWalk.i64_in _ (by omega)]; omega
        have HS0 : Hid (Seqs s kq false [] kq false) := Lib.hid (.nil HL.out.rw.le)
        have HJJ := Lib.hid hjj
        have HLT := Lib.hid hlt
        clear hjj hin HJ
        go_wp2_with fail
        refine (NR.out 1 rfl _ _ _ HL.out.rw.le HL.out.rw.st).mono ?_
        rintro e V1 ⟨x1, kx1, bx1, rfl, ho⟩
        have HS1 := Lib.hid (HS0.out.num ho.out)
        have HL1 := Lib.hid (HL.out.ok ho)
        have HP := Lib.hid (HL1.out.put #[.bool false, .int .i64 0] 83 [.bool (decide (x1 = 1)), .int .i64 0] rfl)
        have HT := Lib.hid HP.out.1
        have HP1 := Lib.hid HP.out.2
        have HI1 : Hid ((Tryd.prog.info? 83).map (·.size) = some ([.bool (decide (x1 = 1)), .int .i64 0] : List Value).toArray.size) := Lib.hid (by kernel_rfl)
        have HO1 : Hid (([.bool (decide (x1 = 1)), .int .i64 0] : List Value).toArray.all (·.oneCell') = true) := Lib.hid (by simp [Value.oneCell'])
        clear ho HL HL1 HP HS0 cS
        have y1 : ((x1 == 1) : Bool) = decide (x1 = 1) := by by_cases h : x1 = 1 <;> simp [h]
        go_wp2_with (refine wpList_store_mid rfl 83 (.tmp 6) (.tmp 37) rfl V1.heap.size 0 ([.bool (decide (x1 = 1)), .int .i64 0] : List Value).toArray rfl rfl HT.out HI1.out HO1.out ?_; generalize World.setCells _ _ _ _ = V2 at HP1 ⊢; generalize V1.heap.size = eb at HP1 HT ⊢)
        refine (NR.out 1 rfl _ _ _ HP1.out.rw.le HP1.out.rw.st).mono ?_
        rintro e V3 ⟨x2, kx2, bx2, rfl, ho⟩
        have HS2 := Lib.hid (HS1.out.num ho.out)
        have HQ := Lib.hid (HP1.out.ok ho)
        have t1 : V3.cell? ⟨eb, 1, none⟩ = some (.int .i64 0) := HQ.out.rw.at (x := (eb, [.bool (decide (x1 = 1)), .int .i64 0])) (by simp) 1 _ rfl
        have t2 : V3.frozen? ⟨eb, 1, none⟩ = false := (HQ.out.rw.own (eb, [.bool (decide (x1 = 1)), .int .i64 0]) (by simp)).1.free 1 (by simp)
        have HP2 : Hid (LP Cp.cells 83 2 (dRdr s r N hN) s w W8 (V3.setCell ⟨eb, 1, none⟩ (.int .i64 x2)) [pb, w.heap.size] [(eb, [.bool (decide (x1 = 1)), .int .i64 x2]), (pb, [.string (strOf nm), .int .i64 ps, .int .i64 rg, .slice none 0 0, .slice none 0 0, .slice p m c]), (w.heap.size, [.string ⟨#[]⟩, .int .i64 0, .int .i64 0, .slice none 0 0, .slice none 0 0, .slice none 0 0])] (.slice p m c) l kx2 bx2) := Lib.hid (HQ.out.setOne 1 (.int .i64 x2) (by simp))
        clear ho HQ HP1 HS1
        have HEB := Lib.hid (HP2.out.rw.own (eb, [.bool (decide (x1 = 1)), .int .i64 x2]) (by simp)).1
        have HTL := Lib.hid HP2.out.tail
        have u1 : (V3.setCell ⟨eb, 1, none⟩ (.int .i64 x2)).cell? ⟨pb, 5, none⟩ = some (.slice p m c) := HTL.out.rw.at (x := (pb, [.string (strOf nm), .int .i64 ps, .int .i64 rg, .slice none 0 0, .slice none 0 0, .slice p m c])) (by simp) 5 _ rfl
        have HAP := LP.push appOk_cp (fun _ => rfl) (fun x u hu => by simp [Cp.cells] at hu; rcases hu with rfl | rfl <;> rfl) HTL.out (fun x hx => by simp only [List.mem_cons, List.not_mem_nil, or_false] at hx; rcases hx with rfl | rfl <;> simp) (⟨decide (x1 = 1), x2⟩ : Cp) (by have := HLI.out; have := HLT.out; have := HJJ.out; omega)
        obtain ⟨qq, cap, W7, hrun, hL7⟩ := HAP
        rw [← HM.out] at hrun hL7
        have HRUN := Lib.hid hrun
        have HL7 := Lib.hid hL7
        have HX : Hid (Out rdCap s kq false (⟨decide (x1 = 1), x2⟩ : Cp) kx2 bx2) := Lib.hid (seq_cap HS2.out)
        have v1 : W7.cell? ⟨pb, 5, none⟩ = some (.slice p m c) := hL7.rw.at (x := (pb, [.string (strOf nm), .int .i64 ps, .int .i64 rg, .slice none 0 0, .slice none 0 0, .slice p m c])) (by simp) 5 _ rfl
        have v2 : W7.frozen? ⟨pb, 5, none⟩ = false := (hL7.rw.own (pb, [.string (strOf nm), .int .i64 ps, .int .i64 rg, .slice none 0 0, .slice none 0 0, .slice p m c]) (by simp)).1.free 5 (by simp)
        have HL8 : Hid (LP Cp.cells 83 2 (dRdr s r N hN) s w W8 (W7.setCell ⟨pb, 5, none⟩ (.slice (some ⟨qq, 0, none⟩) (m + 1) cap)) [pb, w.heap.size] [(pb, [.string (strOf nm), .int .i64 ps, .int .i64 rg, .slice none 0 0, .slice none 0 0, .slice (some ⟨qq, 0, none⟩) (m + 1) cap]), (w.heap.size, [.string ⟨#[]⟩, .int .i64 0, .int .i64 0, .slice none 0 0, .slice none 0 0, .slice none 0 0])] (.slice (some ⟨qq, 0, none⟩) (m + 1) cap) (l ++ [(⟨decide (x1 = 1), x2⟩ : Cp)]) kx2 bx2) := Lib.hid (hL7.setOne 5 _ (by simp))
        have HP8 : Hid (Pro rdCap s n1.toNat k8 b8 (l ++ [(⟨decide (x1 = 1), x2⟩ : Cp)]) (n1.toNat - (i + 1)) kx2 bx2) := Lib.hid (by
            have hp := HPR.out
            have h2 : n1.toNat - i = n1.toNat - (i + 1) + 1 := by have := HLT.out; omega
            rw [h2] at hp
            exact hp.step HX.out)
        have HM8 : Hid (m + 1 = (l ++ [(⟨decide (x1 = 1), x2⟩ : Cp)]).length) := Lib.hid (by rw [List.length_append, HM.out]; rfl)
        have HLI8 : Hid ((l ++ [(⟨decide (x1 = 1), x2⟩ : Cp)]).length = i + 1) := Lib.hid (by rw [List.length_append, HLI.out]; rfl)
        have HIN8 : Hid (i + 1 ≤ n1.toNat) := Lib.hid (by have := HLT.out; omega)
        have HJ8 : Hid (bx2 = false → 0 ≤ n1 ∧ n1 ≤ 65535) := Lib.hid (fun _ => HJJ.out)
        have HIE : Hid ((Tryd.prog.info? 83).map (·.size) = some ([.bool (decide (x1 = 1)), .int .i64 x2] : List Value).length) := Lib.hid (by kernel_rfl)
        clear hL7 hrun HTL HPR HX HP2 HS2
        go_wp2_with (first
          | (refine wpList_load_mid rfl 83 (.tmp 6) rfl eb 0 rfl ([.bool (decide (x1 = 1)), .int .i64 x2]) _ HEB.out.cells Tryd.underlying83 rfl HIE.out ?_)
          | (refine wpList_run rfl (exec_buildSlice 36 83 _ 16 2 ([.bool (decide (x1 = 1)), .int .i64 x2]) _ Tryd.underlying36 i3_cp rfl rfl (by decide) (by decide) _ _ (.tmp 43) rfl (by kernel_rfl)) ?_)
          | (at_builtin; refine Lib.wpList_append_run _ rfl _ _ _ _ rfl _ _ rfl rfl _ _ HRUN.out ?_))
        go_roundw
        case rel => exact ⟨i + 1, l ++ [(⟨decide (x1 = 1), x2⟩ : Cp)], some ⟨qq, 0, none⟩, m + 1, cap, kx2, bx2, by first | rfl | go_num, HM8, HLI8, HL8, HP8, HIN8, HJ8⟩
        case measure => simp [intOf]; have := HLT.out; omega
      · have HOUT : Hid (Out (rdM rdCap n1.toNat) s k8 b8 l kq bq) := Lib.hid (by
            cases hb : bq with
            | true => rw [hb] at HPR HL; exact HPR.out.short HL.out.rw.le
            | false =>
              have h1 : ¬(i : Int) < n1 := fun x => hgo ⟨x, hb⟩
              have h2 : n1.toNat - i = 0 := by omega
              rw [h2, hb] at HPR
              rw [hb] at HL
              exact HPR.out.done HL.out.rw.le)
        have HOL : Hid (Out (rdL rdCap) s k6 b6 l kq bq) := Lib.hid (HN1.out.bind (f := fun n : Int => rdM rdCap n.toNat) HOUT.out)
        clear HOUT HPR HM HIN HJ HLI HSM1
        by_cases h1 : (i : Int) < n1
        · have hb : bq = true := (Bool.eq_false_or_eq_true bq).resolve_right (fun hb => hgo ⟨h1, hb⟩)
          rw [hb] at cS
          clear hgo
          go_wp2_with fail
          go_meet
          exact ⟨l, p, m, c, kq, bq, HL, HOL⟩
        · clear hgo
          go_wp2_with fail
          go_meet
          exact ⟨l, p, m, c, kq, bq, HL, HOL⟩
  case rest =>
    clear HL HN1 HSM1
    obtain ⟨la, q1, m1, c1, kn2p, bn2p, HL, HOL0⟩ := hcut
    have HRW := Lib.hid HL.out.rw
    have HROW0 := Lib.hid HL.out.row
    go_wp2_with fail
    refine (NR.out 2 rfl _ _ _ HRW.out.le HRW.out.st).mono ?_
    rintro e U0 ⟨n2, kn2, bn2, rfl, ho⟩
    have HRN := Lib.hid (HRW.out.ok ho)
    have HNN0 := Lib.hid ho.out
    have HSN0 : Hid (bn2 = false → 0 ≤ n2 ∧ n2 ≤ 65535) := Lib.hid (fun hb => by subst hb; exact two_small ho.out)
    have HKC := Lib.hid (keeps_call (X := fun g => w.heap.size ≤ g ∧ g ∉ [pb, w.heap.size]) HRW.out ho.only (fun g hg => hg.1))
    have HA1 := Lib.hid (Rw.keep HROW0.out HKC.out)
    have HDN : Hid (∀ g ∈ [pb, w.heap.size], g < U0.heap.size) := Lib.hid (fun g hg => by have h1 := HL.out.dl g hg; have h2 := HL.out.kp.size; have h3 := ho.only.size; omega)
    clear ho HL HRW HKC HROW0
    have HL : Hid (LP Vl.cells 45 3 (dRdr s r N hN) s w U0 U0 [pb, w.heap.size] [(pb, [.string (strOf nm), .int .i64 ps, .int .i64 rg, .slice none 0 0, .slice none 0 0, .slice q1 m1 c1]), (w.heap.size, [.string ⟨#[]⟩, .int .i64 0, .int .i64 0, .slice none 0 0, .slice none 0 0, .slice none 0 0])] (.slice none 0 0) [] kn2 bn2) := Lib.hid (LP.start Vl.cells 45 3 HRN.out (fun x hx => by simp only [List.mem_cons, List.not_mem_nil, or_false] at hx; rcases hx with rfl | rfl <;> simp) HDN.out)
    go_upto_block 2 with fail
    go_cut [] (fun wx => ∃ (l : List Vl) (p : Option Addr) (m c : Nat) (kq : Nat) (bq : Bool), Hid (LP Vl.cells 45 3 (dRdr s r N hN) s w U0 wx [pb, w.heap.size] [(pb, [.string (strOf nm), .int .i64 ps, .int .i64 rg, .slice none 0 0, .slice p m c, .slice q1 m1 c1]), (w.heap.size, [.string ⟨#[]⟩, .int .i64 0, .int .i64 0, .slice none 0 0, .slice none 0 0, .slice none 0 0])] (.slice p m c) l kq bq) ∧ Hid (Out (rdL rdVal) s kn2p bn2p l kq bq))
    case first =>
      go_wp2
      go_loopw [7] (fun vi wr => ∃ (i : Nat) (l : List Vl) (p : Option Addr) (m c : Nat) (kq : Nat) (bq : Bool), vi = .int .i64 (i : Int) ∧ Hid (m = l.length) ∧ Hid (l.length = i) ∧ Hid (LP Vl.cells 45 3 (dRdr s r N hN) s w U0 wr [pb, w.heap.size] [(pb, [.string (strOf nm), .int .i64 ps, .int .i64 rg, .slice none 0 0, .slice p m c, .slice q1 m1 c1]), (w.heap.size, [.string ⟨#[]⟩, .int .i64 0, .int .i64 0, .slice none 0 0, .slice none 0 0, .slice none 0 0])] (.slice p m c) l kq bq) ∧ Hid (Pro rdVal s n2.toNat kn2 bn2 l (n2.toNat - i) kq bq) ∧ Hid (i ≤ n2.toNat) ∧ Hid (bq = false → 0 ≤ n2 ∧ n2 ≤ 65535)) (fun vi _ => n2.toNat - (intOf vi).toNat)
      case atStart => exact ⟨0, [], none, 0, 0, kn2, bn2, rfl, Lib.hid rfl, Lib.hid rfl, HL, Lib.hid (Pro.start _ _ _ _ _), Lib.hid (Nat.zero_le _), HSN0⟩
      case round =>
        clear HL
        obtain ⟨i, l, p, m, c, kq, bq, rfl, HM, HLI, HL, HPR, HIN, HJ⟩ := hrel
        have cS : wr.cell? ⟨r, 2, none⟩ = some (.bool bq) := SH.out wr kq bq HL.out.rw.st
        by_cases hgo : (i : Int) < n2 ∧ bq = false
        · obtain ⟨hlt, rfl⟩ := hgo
          have hjj := HJ.out rfl
          have hin := HIN.out
          have z1 : IntKind.i64.wrap ((i : Int) + 1) = ((i + 1 : Nat) : Int) := by rw [IntWalk.i64_in _ (by omega)]; omega
          have HS0 : Hid (Seqs s kq false [] kq false) := Lib.hid (.nil HL.out.rw.le)
          have HJJ := Lib.hid hjj
          have HLT := Lib.hid hlt
          clear hjj hin HJ
          go_wp2_with fail
          refine (NR.out 1 rfl _ _ _ HL.out.rw.le HL.out.rw.st).mono ?_
          rintro e V1 ⟨x1, kx1, bx1, rfl, ho⟩
          have HS1 := Lib.hid (HS0.out.num ho.out)
          have HL1 := Lib.hid (HL.out.ok ho)
          have HP := Lib.hid (HL1.out.put #[.int .i64 0, .int .i64 0, .string ⟨#[]⟩] 45 [.int .i64 x1, .int .i64 0, .string ⟨#[]⟩] rfl)
          have HT := Lib.hid HP.out.1
          have HP1 := Lib.hid HP.out.2
          have HI1 : Hid ((Tryd.prog.info? 45).map (·.size) = some ([.int .i64 x1, .int .i64 0, .string ⟨#[]⟩] : List Value).toArray.size) := Lib.hid (by kernel_rfl)
          have HO1 : Hid (([.int .i64 x1, .int .i64 0, .string ⟨#[]⟩] : List Value).toArray.all (·.oneCell') = true) := Lib.hid (by simp [Value.oneCell'])
          clear ho HL HL1 HP HS0 cS
          by_cases h1 : x1 = 1
          · have y1 : ((x1 == 1) : Bool) = true := by simp [h1]
            have y2 : ((x1 == 2) : Bool) = false := by simp [h1]
            have H1 := Lib.hid h1
            clear h1
            go_wp2_with (refine wpList_store_mid rfl 45 (.tmp 8) (.tmp 63) rfl V1.heap.size 0 ([.int .i64 x1, .int .i64 0, .string ⟨#[]⟩] : List Value).toArray rfl rfl HT.out HI1.out HO1.out ?_; generalize World.setCells _ _ _ _ = V2 at HP1 ⊢; generalize V1.heap.size = eb at HP1 HT ⊢; have s1 : V2.cell? ⟨eb, 0, none⟩ = some (.int .i64 x1) := HP1.out.rw.at (x := (eb, [.int .i64 x1, .int .i64 0, .string ⟨#[]⟩])) (by simp) 0 _ rfl)
            clear s1
            refine (NR.out 8 rfl _ _ _ HP1.out.rw.le HP1.out.rw.st).mono ?_
            rintro e V3 ⟨x2, kx2, bx2, rfl, ho⟩
            have HS2 := Lib.hid (HS1.out.num ho.out)
            have HQ := Lib.hid (HP1.out.ok ho)
            have t1 : V3.cell? ⟨eb, 1, none⟩ = some (.int .i64 0) := HQ.out.rw.at (x := (eb, [.int .i64 x1, .int .i64 0, .string ⟨#[]⟩])) (by simp) 1 _ rfl
            have t2 : V3.frozen? ⟨eb, 1, none⟩ = false := (HQ.out.rw.own (eb, [.int .i64 x1, .int .i64 0, .string ⟨#[]⟩]) (by simp)).1.free 1 (by simp)
            have HP2 : Hid (LP Vl.cells 45 3 (dRdr s r N hN) s w U0 (V3.setCell ⟨eb, 1, none⟩ (.int .i64 x2)) [pb, w.heap.size] [(eb, [.int .i64 x1, .int .i64 x2, .string ⟨#[]⟩]), (pb, [.string (strOf nm), .int .i64 ps, .int .i64 rg, .slice none 0 0, .slice p m c, .slice q1 m1 c1]), (w.heap.size, [.string ⟨#[]⟩, .int .i64 0, .int .i64 0, .slice none 0 0, .slice none 0 0, .slice none 0 0])] (.slice p m c) l kx2 bx2) := Lib.hid (HQ.out.setOne 1 (.int .i64 x2) (by simp))
            clear ho HQ HP1 HS1
            have s2 : V3.cell? ⟨eb, 0, none⟩ = some (.int .i64 x1) := by have := HP2.out.rw.at (x := (eb, [.int .i64 x1, .int .i64 x2, .string ⟨#[]⟩])) (by simp) 0 (.int .i64 x1) rfl; rwa [World.cell?_setCell_other _ _ _ _ (by simp)] at this
            have HEB := Lib.hid (HP2.out.rw.own (eb, [.int .i64 x1, .int .i64 x2, .string ⟨#[]⟩]) (by simp)).1
            have HTL := Lib.hid HP2.out.tail
            have u1 : (V3.setCell ⟨eb, 1, none⟩ (.int .i64 x2)).cell? ⟨pb, 4, none⟩ = some (.slice p m c) := HTL.out.rw.at (x := (pb, [.string (strOf nm), .int .i64 ps, .int .i64 rg, .slice none 0 0, .slice p m c, .slice q1 m1 c1])) (by simp) 4 _ rfl
            have HAP := LP.push appOk_vl (fun _ => rfl) (fun x u hu => by simp [Vl.cells] at hu; rcases hu with rfl | rfl | rfl <;> rfl) HTL.out (fun x hx => by simp only [List.mem_cons, List.not_mem_nil, or_false] at hx; rcases hx with rfl | rfl <;> simp) (⟨x1, x2, []⟩ : Vl) (by have := HLI.out; have := HLT.out; have := HJJ.out; omega)
            obtain ⟨qq, cap, W7, hrun, hL7⟩ := HAP
            rw [← HM.out] at hrun hL7
            have HRUN := Lib.hid hrun
            have HL7 := Lib.hid hL7
            have HX : Hid (Out rdVal s kq false (⟨x1, x2, []⟩ : Vl) kx2 bx2) := Lib.hid (seq_val1 H1.out HS2.out)
            have v1 : W7.cell? ⟨pb, 4, none⟩ = some (.slice p m c) := hL7.rw.at (x := (pb, [.string (strOf nm), .int .i64 ps, .int .i64 rg, .slice none 0 0, .slice p m c, .slice q1 m1 c1])) (by simp) 4 _ rfl
            have v2 : W7.frozen? ⟨pb, 4, none⟩ = false := (hL7.rw.own (pb, [.string (strOf nm), .int .i64 ps, .int .i64 rg, .slice none 0 0, .slice p m c, .slice q1 m1 c1]) (by simp)).1.free 4 (by simp)
            have HL8 : Hid (LP Vl.cells 45 3 (dRdr s r N hN) s w U0 (W7.setCell ⟨pb, 4, none⟩ (.slice (some ⟨qq, 0, none⟩) (m + 1) cap)) [pb, w.heap.size] [(pb, [.string (strOf nm), .int .i64 ps, .int .i64 rg, .slice none 0 0, .slice (some ⟨qq, 0, none⟩) (m + 1) cap, .slice q1 m1 c1]), (w.heap.size, [.string ⟨#[]⟩, .int .i64 0, .int .i64 0, .slice none 0 0, .slice none 0 0, .slice none 0 0])] (.slice (some ⟨qq, 0, none⟩) (m + 1) cap) (l ++ [(⟨x1, x2, []⟩ : Vl)]) kx2 bx2) := Lib.hid (hL7.setOne 4 _ (by simp))
            have HP8 : Hid (Pro rdVal s n2.toNat kn2 bn2 (l ++ [(⟨x1, x2, []⟩ : Vl)]) (n2.toNat - (i + 1)) kx2 bx2) := Lib.hid (by
                have hp := HPR.out
                have h2 : n2.toNat - i = n2.toNat - (i + 1) + 1 := by have := HLT.out; omega
                rw [h2] at hp
                exact hp.step HX.out)
            have HM8 : Hid (m + 1 = (l ++ [(⟨x1, x2, []⟩ : Vl)]).length) := Lib.hid (by rw [List.length_append, HM.out]; rfl)
            have HLI8 : Hid ((l ++ [(⟨x1, x2, []⟩ : Vl)]).length = i + 1) := Lib.hid (by rw [List.length_append, HLI.out]; rfl)
            have HIN8 : Hid (i + 1 ≤ n2.toNat) := Lib.hid (by have := HLT.out; omega)
            have HJ8 : Hid (bx2 = false → 0 ≤ n2 ∧ n2 ≤ 65535) := Lib.hid (fun _ => HJJ.out)
            have HIE : Hid ((Tryd.prog.info? 45).map (·.size) = some ([.int .i64 x1, .int .i64 x2, .string ⟨#[]⟩] : List Value).length) := Lib.hid (by kernel_rfl)
            clear hL7 hrun HTL HPR HX HP2 HS2
            go_wp2_with (first
              | (refine wpList_load_mid rfl 45 (.tmp 8) rfl eb 0 rfl ([.int .i64 x1, .int .i64 x2, .string ⟨#[]⟩]) _ HEB.out.cells Tryd.underlying45 rfl HIE.out ?_)
              | (refine wpList_run rfl (exec_buildSlice 35 45 _ 32 3 ([.int .i64 x1, .int .i64 x2, .string ⟨#[]⟩]) _ Tryd.underlying35 i3_vl rfl rfl (by decide) (by decide) _ _ (.tmp 78) rfl (by kernel_rfl)) ?_)
              | (at_builtin; refine Lib.wpList_append_run _ rfl _ _ _ _ rfl _ _ rfl rfl _ _ HRUN.out ?_))
            go_roundw
            case rel => exact ⟨i + 1, l ++ [(⟨x1, x2, []⟩ : Vl)], some ⟨qq, 0, none⟩, m + 1, cap, kx2, bx2, by first | rfl | go_num, HM8, HLI8, HL8, HP8, HIN8, HJ8⟩
            case measure => simp [intOf]; have := HLT.out; omega
          · have y1 : ((x1 == 1) : Bool) = false := by simp [h1]
            by_cases h2 : x1 = 2
            · have y2 : ((x1 == 2) : Bool) = true := by simp [h2]
              have H2 := Lib.hid h2
              clear h1 h2
              go_wp2_with (refine wpList_store_mid rfl 45 (.tmp 8) (.tmp 63) rfl V1.heap.size 0 ([.int .i64 x1, .int .i64 0, .string ⟨#[]⟩] : List Value).toArray rfl rfl HT.out HI1.out HO1.out ?_; generalize World.setCells _ _ _ _ = V2 at HP1 ⊢; generalize V1.heap.size = eb at HP1 HT ⊢; have s1 : V2.cell? ⟨eb, 0, none⟩ = some (.int .i64 x1) := HP1.out.rw.at (x := (eb, [.int .i64 x1, .int .i64 0, .string ⟨#[]⟩])) (by simp) 0 _ rfl)
              refine (TR.out _ _ _ HP1.out.rw.le HP1.out.rw.st).mono ?_
              rintro e V3 ⟨x2, kx2, bx2, rfl, ho⟩
              have HS2 := Lib.hid (HS1.out.txt ho.out)
              have HQ := Lib.hid (HP1.out.ok ho)
              have t1 : V3.cell? ⟨eb, 2, none⟩ = some (.string ⟨#[]⟩) := HQ.out.rw.at (x := (eb, [.int .i64 x1, .int .i64 0, .string ⟨#[]⟩])) (by simp) 2 _ rfl
              have t2 : V3.frozen? ⟨eb, 2, none⟩ = false := (HQ.out.rw.own (eb, [.int .i64 x1, .int .i64 0, .string ⟨#[]⟩]) (by simp)).1.free 2 (by simp)
              have HP2 : Hid (LP Vl.cells 45 3 (dRdr s r N hN) s w U0 (V3.setCell ⟨eb, 2, none⟩ (.string (strOf x2))) [pb, w.heap.size] [(eb, [.int .i64 x1, .int .i64 0, .string (strOf x2)]), (pb, [.string (strOf nm), .int .i64 ps, .int .i64 rg, .slice none 0 0, .slice p m c, .slice q1 m1 c1]), (w.heap.size, [.string ⟨#[]⟩, .int .i64 0, .int .i64 0, .slice none 0 0, .slice none 0 0, .slice none 0 0])] (.slice p m c) l kx2 bx2) := Lib.hid (HQ.out.setOne 2 (.string (strOf x2)) (by simp))
              clear ho HQ HP1 HS1
              have HEB := Lib.hid (HP2.out.rw.own (eb, [.int .i64 x1, .int .i64 0, .string (strOf x2)]) (by simp)).1
              have HTL := Lib.hid HP2.out.tail
              have u1 : (V3.setCell ⟨eb, 2, none⟩ (.string (strOf x2))).cell? ⟨pb, 4, none⟩ = some (.slice p m c) := HTL.out.rw.at (x := (pb, [.string (strOf nm), .int .i64 ps, .int .i64 rg, .slice none 0 0, .slice p m c, .slice q1 m1 c1])) (by simp) 4 _ rfl
              have HAP := LP.push appOk_vl (fun _ => rfl) (fun x u hu => by simp [Vl.cells] at hu; rcases hu with rfl | rfl | rfl <;> rfl) HTL.out (fun x hx => by simp only [List.mem_cons, List.not_mem_nil, or_false] at hx; rcases hx with rfl | rfl <;> simp) (⟨x1, 0, x2⟩ : Vl) (by have := HLI.out; have := HLT.out; have := HJJ.out; omega)
              obtain ⟨qq, cap, W7, hrun, hL7⟩ := HAP
              rw [← HM.out] at hrun hL7
              have HRUN := Lib.hid hrun
              have HL7 := Lib.hid hL7
              have HX : Hid (Out rdVal s kq false (⟨x1, 0, x2⟩ : Vl) kx2 bx2) := Lib.hid (seq_val2 H2.out HS2.out)
              have v1 : W7.cell? ⟨pb, 4, none⟩ = some (.slice p m c) := hL7.rw.at (x := (pb, [.string (strOf nm), .int .i64 ps, .int .i64 rg, .slice none 0 0, .slice p m c, .slice q1 m1 c1])) (by simp) 4 _ rfl
              have v2 : W7.frozen? ⟨pb, 4, none⟩ = false := (hL7.rw.own (pb, [.string (strOf nm), .int .i64 ps, .int .i64 rg, .slice none 0 0, .slice p m c, .slice q1 m1 c1]) (by simp)).1.free 4 (by simp)
              have HL8 : Hid (LP Vl.cells 45 3 (dRdr s r N hN) s w U0 (W7.setCell ⟨pb, 4, none⟩ (.slice (some ⟨qq, 0, none⟩) (m + 1) cap)) [pb, w.heap.size] [(pb, [.string (strOf nm), .int .i64 ps, .int .i64 rg, .slice none 0 0, .slice (some ⟨qq, 0, none⟩) (m + 1) cap, .slice q1 m1 c1]), (w.heap.size, [.string ⟨#[]⟩, .int .i64 0, .int .i64 0, .slice none 0 0, .slice none 0 0, .slice none 0 0])] (.slice (some ⟨qq, 0, none⟩) (m + 1) cap) (l ++ [(⟨x1, 0, x2⟩ : Vl)]) kx2 bx2) := Lib.hid (hL7.setOne 4 _ (by simp))
              have HP8 : Hid (Pro rdVal s n2.toNat kn2 bn2 (l ++ [(⟨x1, 0, x2⟩ : Vl)]) (n2.toNat - (i + 1)) kx2 bx2) := Lib.hid (by
                  have hp := HPR.out
                  have h2 : n2.toNat - i = n2.toNat - (i + 1) + 1 := by have := HLT.out; omega
                  rw [h2] at hp
                  exact hp.step HX.out)
              have HM8 : Hid (m + 1 = (l ++ [(⟨x1, 0, x2⟩ : Vl)]).length) := Lib.hid (by rw [List.length_append, HM.out]; rfl)
              have HLI8 : Hid ((l ++ [(⟨x1, 0, x2⟩ : Vl)]).length = i + 1) := Lib.hid (by rw [List.length_append, HLI.out]; rfl)
              have HIN8 : Hid (i + 1 ≤ n2.toNat) := Lib.hid (by have := HLT.out; omega)
              have HJ8 : Hid (bx2 = false → 0 ≤ n2 ∧ n2 ≤ 65535) := Lib.hid (fun _ => HJJ.out)
              have HIE : Hid ((Tryd.prog.info? 45).map (·.size) = some ([.int .i64 x1, .int .i64 0, .string (strOf x2)] : List Value).length) := Lib.hid (by kernel_rfl)
              clear hL7 hrun HTL HPR HX HP2 HS2
              go_wp2_with (first
                | (refine wpList_load_mid rfl 45 (.tmp 8) rfl eb 0 rfl ([.int .i64 x1, .int .i64 0, .string (strOf x2)]) _ HEB.out.cells Tryd.underlying45 rfl HIE.out ?_)
                | (refine wpList_run rfl (exec_buildSlice 35 45 _ 32 3 ([.int .i64 x1, .int .i64 0, .string (strOf x2)]) _ Tryd.underlying35 i3_vl rfl rfl (by decide) (by decide) _ _ (.tmp 78) rfl (by kernel_rfl)) ?_)
                | (at_builtin; refine Lib.wpList_append_run _ rfl _ _ _ _ rfl _ _ rfl rfl _ _ HRUN.out ?_))
              go_roundw
              case rel => exact ⟨i + 1, l ++ [(⟨x1, 0, x2⟩ : Vl)], some ⟨qq, 0, none⟩, m + 1, cap, kx2, bx2, by first | rfl | go_num, HM8, HLI8, HL8, HP8, HIN8, HJ8⟩
              case measure => simp [intOf]; have := HLT.out; omega
            · have y2 : ((x1 == 2) : Bool) = false := by simp [h2]
              have H1 := Lib.hid h1
              have H2 := Lib.hid h2
              clear h1 h2
              go_upto_region 18 with (refine wpList_store_mid rfl 45 (.tmp 8) (.tmp 63) rfl V1.heap.size 0 ([.int .i64 x1, .int .i64 0, .string ⟨#[]⟩] : List Value).toArray rfl rfl HT.out HI1.out HO1.out ?_; generalize World.setCells _ _ _ _ = V2 at HP1 ⊢; generalize V1.heap.size = eb at HP1 HT ⊢; have s1 : V2.cell? ⟨eb, 0, none⟩ = some (.int .i64 x1) := HP1.out.rw.at (x := (eb, [.int .i64 x1, .int .i64 0, .string ⟨#[]⟩])) (by simp) 0 _ rfl)
              have HEB := Lib.hid (HP1.out.rw.own (eb, [.int .i64 x1, .int .i64 0, .string ⟨#[]⟩]) (by simp)).1
              have HTL := Lib.hid HP1.out.tail
              have u1 : (V2).cell? ⟨pb, 4, none⟩ = some (.slice p m c) := HTL.out.rw.at (x := (pb, [.string (strOf nm), .int .i64 ps, .int .i64 rg, .slice none 0 0, .slice p m c, .slice q1 m1 c1])) (by simp) 4 _ rfl
              have HAP := LP.push appOk_vl (fun _ => rfl) (fun x u hu => by simp [Vl.cells] at hu; rcases hu with rfl | rfl | rfl <;> rfl) HTL.out (fun x hx => by simp only [List.mem_cons, List.not_mem_nil, or_false] at hx; rcases hx with rfl | rfl <;> simp) (⟨x1, 0, []⟩ : Vl) (by have := HLI.out; have := HLT.out; have := HJJ.out; omega)
              obtain ⟨qq, cap, W7, hrun, hL7⟩ := HAP
              rw [← HM.out] at hrun hL7
              have HRUN := Lib.hid hrun
              have HL7 := Lib.hid hL7
              have HX : Hid (Out rdVal s kq false (⟨x1, 0, []⟩ : Vl) kx1 bx1) := Lib.hid (seq_val0 H1.out H2.out HS1.out)
              have v1 : W7.cell? ⟨pb, 4, none⟩ = some (.slice p m c) := hL7.rw.at (x := (pb, [.string (strOf nm), .int .i64 ps, .int .i64 rg, .slice none 0 0, .slice p m c, .slice q1 m1 c1])) (by simp) 4 _ rfl
              have v2 : W7.frozen? ⟨pb, 4, none⟩ = false := (hL7.rw.own (pb, [.string (strOf nm), .int .i64 ps, .int .i64 rg, .slice none 0 0, .slice p m c, .slice q1 m1 c1]) (by simp)).1.free 4 (by simp)
              have HL8 : Hid (LP Vl.cells 45 3 (dRdr s r N hN) s w U0 (W7.setCell ⟨pb, 4, none⟩ (.slice (some ⟨qq, 0, none⟩) (m + 1) cap)) [pb, w.heap.size] [(pb, [.string (strOf nm), .int .i64 ps, .int .i64 rg, .slice none 0 0, .slice (some ⟨qq, 0, none⟩) (m + 1) cap, .slice q1 m1 c1]), (w.heap.size, [.string ⟨#[]⟩, .int .i64 0, .int .i64 0, .slice none 0 0, .slice none 0 0, .slice none 0 0])] (.slice (some ⟨qq, 0, none⟩) (m + 1) cap) (l ++ [(⟨x1, 0, []⟩ : Vl)]) kx1 bx1) := Lib.hid (hL7.setOne 4 _ (by simp))
              have HP8 : Hid (Pro rdVal s n2.toNat kn2 bn2 (l ++ [(⟨x1, 0, []⟩ : Vl)]) (n2.toNat - (i + 1)) kx1 bx1) := Lib.hid (by
                  have hp := HPR.out
                  have h2 : n2.toNat - i = n2.toNat - (i + 1) + 1 := by have := HLT.out; omega
                  rw [h2] at hp
                  exact hp.step HX.out)
              have HM8 : Hid (m + 1 = (l ++ [(⟨x1, 0, []⟩ : Vl)]).length) := Lib.hid (by rw [List.length_append, HM.out]; rfl)
              have HLI8 : Hid ((l ++ [(⟨x1, 0, []⟩ : Vl)]).length = i + 1) := Lib.hid (by rw [List.length_append, HLI.out]; rfl)
              have HIN8 : Hid (i + 1 ≤ n2.toNat) := Lib.hid (by have := HLT.out; omega)
              have HJ8 : Hid (bx1 = false → 0 ≤ n2 ∧ n2 ≤ 65535) := Lib.hid (fun _ => HJJ.out)
              have HIE : Hid ((Tryd.prog.info? 45).map (·.size) = some ([.int .i64 x1, .int .i64 0, .string ⟨#[]⟩] : List Value).length) := Lib.hid (by kernel_rfl)
              clear hL7 hrun HTL HPR HX HP1 HS1
              go_wp2_with (first
                | (refine wpList_load_mid rfl 45 (.tmp 8) rfl eb 0 rfl ([.int .i64 x1, .int .i64 0, .string ⟨#[]⟩]) _ HEB.out.cells Tryd.underlying45 rfl HIE.out ?_)
                | (refine wpList_run rfl (exec_buildSlice 35 45 _ 32 3 ([.int .i64 x1, .int .i64 0, .string ⟨#[]⟩]) _ Tryd.underlying35 i3_vl rfl rfl (by decide) (by decide) _ _ (.tmp 78) rfl (by kernel_rfl)) ?_)
                | (at_builtin; refine Lib.wpList_append_run _ rfl _ _ _ _ rfl _ _ rfl rfl _ _ HRUN.out ?_))
              go_roundw
              case rel => exact ⟨i + 1, l ++ [(⟨x1, 0, []⟩ : Vl)], some ⟨qq, 0, none⟩, m + 1, cap, kx1, bx1, by first | rfl | go_num, HM8, HLI8, HL8, HP8, HIN8, HJ8⟩
              case measure => simp [intOf]; have := HLT.out; omega
        · have HOUT : Hid (Out (rdM rdVal n2.toNat) s kn2 bn2 l kq bq) := Lib.hid (by
              cases hb : bq with
              | true => rw [hb] at HPR HL; exact HPR.out.short HL.out.rw.le
              | false =>
                have h1 : ¬(i : Int) < n2 := fun x => hgo ⟨x, hb⟩
                have h2 : n2.toNat - i = 0 := by omega
                rw [h2, hb] at HPR
                rw [hb] at HL
                exact HPR.out.done HL.out.rw.le)
          have HOL : Hid (Out (rdL rdVal) s kn2p bn2p l kq bq) := Lib.hid (HNN0.out.bind (f := fun n : Int => rdM rdVal n.toNat) HOUT.out)
          clear HOUT HPR HM HIN HJ HLI HSN0
          by_cases h1 : (i : Int) < n2
          · have hb : bq = true := (Bool.eq_false_or_eq_true bq).resolve_right (fun hb => hgo ⟨h1, hb⟩)
            rw [hb] at cS
            clear hgo
            go_wp2_with fail
            go_meet
            exact ⟨l, p, m, c, kq, bq, HL, HOL⟩
          · clear hgo
            go_wp2_with fail
            go_meet
            exact ⟨l, p, m, c, kq, bq, HL, HOL⟩
    case rest =>
      clear HL HNN0 HSN0
      obtain ⟨lb, q2, m2, c2, kn3p, bn3p, HL, HOL1⟩ := hcut
      have HRW := Lib.hid HL.out.rw
      have HROW1 := Lib.hid HL.out.row
      have HRO0 := Lib.hid (HL.out.old HA1.out)
      go_wp2_with fail
      refine (NR.out 2 rfl _ _ _ HRW.out.le HRW.out.st).mono ?_
      rintro e U1 ⟨n3, kn3, bn3, rfl, ho⟩
      have HRN := Lib.hid (HRW.out.ok ho)
      have HNN1 := Lib.hid ho.out
      have HSN1 : Hid (bn3 = false → 0 ≤ n3 ∧ n3 ≤ 65535) := Lib.hid (fun hb => by subst hb; exact two_small ho.out)
      have HKC := Lib.hid (keeps_call (X := fun g => w.heap.size ≤ g ∧ g ∉ [pb, w.heap.size]) HRW.out ho.only (fun g hg => hg.1))
      have HA2 := Lib.hid (Rw.keep HRO0.out HKC.out)
      have HB2 := Lib.hid (Rw.keep HROW1.out HKC.out)
      have HDN : Hid (∀ g ∈ [pb, w.heap.size], g < U1.heap.size) := Lib.hid (fun g hg => by have h1 := HL.out.dl g hg; have h2 := HL.out.kp.size; have h3 := ho.only.size; omega)
      clear ho HL HRW HKC HRO0 HROW1 HA1
      have HL : Hid (LP Ix.cells 89 4 (dRdr s r N hN) s w U1 U1 [pb, w.heap.size] [(pb, [.string (strOf nm), .int .i64 ps, .int .i64 rg, .slice none 0 0, .slice q2 m2 c2, .slice q1 m1 c1]), (w.heap.size, [.string ⟨#[]⟩, .int .i64 0, .int .i64 0, .slice none 0 0, .slice none 0 0, .slice none 0 0])] (.slice none 0 0) [] kn3 bn3) := Lib.hid (LP.start Ix.cells 89 4 HRN.out (fun x hx => by simp only [List.mem_cons, List.not_mem_nil, or_false] at hx; rcases hx with rfl | rfl <;> simp) HDN.out)
      go_upto_block 4 with fail
      go_cut [] (fun wx => ∃ (l : List Ix) (p : Option Addr) (m c : Nat) (kq : Nat) (bq : Bool), Hid (LP Ix.cells 89 4 (dRdr s r N hN) s w U1 wx [pb, w.heap.size] [(pb, [.string (strOf nm), .int .i64 ps, .int .i64 rg, .slice p m c, .slice q2 m2 c2, .slice q1 m1 c1]), (w.heap.size, [.string ⟨#[]⟩, .int .i64 0, .int .i64 0, .slice none 0 0, .slice none 0 0, .slice none 0 0])] (.slice p m c) l kq bq) ∧ Hid (Out (rdL (rdI id)) s kn3p bn3p l kq bq))
      case first =>
        go_wp2
        go_loopw [9] (fun vi wr => ∃ (i : Nat) (l : List Ix) (p : Option Addr) (m c : Nat) (kq : Nat) (bq : Bool), vi = .int .i64 (i : Int) ∧ Hid (m = l.length) ∧ Hid (l.length = i) ∧ Hid (LP Ix.cells 89 4 (dRdr s r N hN) s w U1 wr [pb, w.heap.size] [(pb, [.string (strOf nm), .int .i64 ps, .int .i64 rg, .slice p m c, .slice q2 m2 c2, .slice q1 m1 c1]), (w.heap.size, [.string ⟨#[]⟩, .int .i64 0, .int .i64 0, .slice none 0 0, .slice none 0 0, .slice none 0 0])] (.slice p m c) l kq bq) ∧ Hid (Pro (rdI id) s n3.toNat kn3 bn3 l (n3.toNat - i) kq bq) ∧ Hid (i ≤ n3.toNat) ∧ Hid (bq = false → 0 ≤ n3 ∧ n3 ≤ 65535)) (fun vi _ => n3.toNat - (intOf vi).toNat)
        case atStart => exact ⟨0, [], none, 0, 0, kn3, bn3, rfl, Lib.hid rfl, Lib.hid rfl, HL, Lib.hid (Pro.start _ _ _ _ _), Lib.hid (Nat.zero_le _), HSN1⟩
        case round =>
          clear HL
          obtain ⟨i, l, p, m, c, kq, bq, rfl, HM, HLI, HL, HPR, HIN, HJ⟩ := hrel
          have cS : wr.cell? ⟨r, 2, none⟩ = some (.bool bq) := SH.out wr kq bq HL.out.rw.st
          by_cases hgo : (i : Int) < n3 ∧ bq = false
          · obtain ⟨hlt, rfl⟩ := hgo
            have hjj := HJ.out rfl
            have hin := HIN.out
            have z1 : IntKind.i64.wrap ((i : Int) + 1) = ((i + 1 : Nat) : Int) := by rw [IntWalk.i64_in _ (by omega)]; omega
            have HS0 : Hid (Seqs s kq false [] kq false) := Lib.hid (.nil HL.out.rw.le)
            have HJJ := Lib.hid hjj
            have HLT := Lib.hid hlt
            clear hjj hin HJ
            go_wp2_with fail
            refine (NR.out 1 rfl _ _ _ HL.out.rw.le HL.out.rw.st).mono ?_
            rintro e V1 ⟨x1, kx1, bx1, rfl, ho⟩
            have HS1 := Lib.hid (HS0.out.num ho.out)
            have HL1 := Lib.hid (HL.out.ok ho)
            have HP := Lib.hid (HL1.out.put #[.int .i64 0, .int .i64 0, .int .i64 0, .int .i64 0] 89 [.int .i64 x1, .int .i64 0, .int .i64 0, .int .i64 0] rfl)
            have HT := Lib.hid HP.out.1
            have HP1 := Lib.hid HP.out.2
            have HI1 : Hid ((Tryd.prog.info? 89).map (·.size) = some ([.int .i64 x1, .int .i64 0, .int .i64 0, .int .i64 0] : List Value).toArray.size) := Lib.hid (by kernel_rfl)
            have HO1 : Hid (([.int .i64 x1, .int .i64 0, .int .i64 0, .int .i64 0] : List Value).toArray.all (·.oneCell') = true) := Lib.hid (by simp [Value.oneCell'])
            clear ho HL HL1 HP HS0 cS
            go_wp2_with (refine wpList_store_mid rfl 89 (.tmp 10) (.tmp 98) rfl V1.heap.size 0 ([.int .i64 x1, .int .i64 0, .int .i64 0, .int .i64 0] : List Value).toArray rfl rfl HT.out HI1.out HO1.out ?_; generalize World.setCells _ _ _ _ = V2 at HP1 ⊢; generalize V1.heap.size = eb at HP1 HT ⊢)
            refine (NR.out 1 rfl _ _ _ HP1.out.rw.le HP1.out.rw.st).mono ?_
            rintro e V3 ⟨x2, kx2, bx2, rfl, ho⟩
            have HS2 := Lib.hid (HS1.out.num ho.out)
            have HQ := Lib.hid (HP1.out.ok ho)
            have t1 : V3.cell? ⟨eb, 1, none⟩ = some (.int .i64 0) := HQ.out.rw.at (x := (eb, [.int .i64 x1, .int .i64 0, .int .i64 0, .int .i64 0])) (by simp) 1 _ rfl
            have t2 : V3.frozen? ⟨eb, 1, none⟩ = false := (HQ.out.rw.own (eb, [.int .i64 x1, .int .i64 0, .int .i64 0, .int .i64 0]) (by simp)).1.free 1 (by simp)
            have HP2 : Hid (LP Ix.cells 89 4 (dRdr s r N hN) s w U1 (V3.setCell ⟨eb, 1, none⟩ (.int .i64 x2)) [pb, w.heap.size] [(eb, [.int .i64 x1, .int .i64 x2, .int .i64 0, .int .i64 0]), (pb, [.string (strOf nm), .int .i64 ps, .int .i64 rg, .slice p m c, .slice q2 m2 c2, .slice q1 m1 c1]), (w.heap.size, [.string ⟨#[]⟩, .int .i64 0, .int .i64 0, .slice none 0 0, .slice none 0 0, .slice none 0 0])] (.slice p m c) l kx2 bx2) := Lib.hid (HQ.out.setOne 1 (.int .i64 x2) (by simp))
            clear ho HQ HP1 HS1
            go_wp2_with fail
            clear t1 t2
            refine (NR.out 1 rfl _ _ _ HP2.out.rw.le HP2.out.rw.st).mono ?_
            rintro e V4 ⟨x3, kx3, bx3, rfl, ho⟩
            have HS3 := Lib.hid (HS2.out.num ho.out)
            have HQ := Lib.hid (HP2.out.ok ho)
            have t1 : V4.cell? ⟨eb, 2, none⟩ = some (.int .i64 0) := HQ.out.rw.at (x := (eb, [.int .i64 x1, .int .i64 x2, .int .i64 0, .int .i64 0])) (by simp) 2 _ rfl
            have t2 : V4.frozen? ⟨eb, 2, none⟩ = false := (HQ.out.rw.own (eb, [.int .i64 x1, .int .i64 x2, .int .i64 0, .int .i64 0]) (by simp)).1.free 2 (by simp)
            have HP3 : Hid (LP Ix.cells 89 4 (dRdr s r N hN) s w U1 (V4.setCell ⟨eb, 2, none⟩ (.int .i64 x3)) [pb, w.heap.size] [(eb, [.int .i64 x1, .int .i64 x2, .int .i64 x3, .int .i64 0]), (pb, [.string (strOf nm), .int .i64 ps, .int .i64 rg, .slice p m c, .slice q2 m2 c2, .slice q1 m1 c1]), (w.heap.size, [.string ⟨#[]⟩, .int .i64 0, .int .i64 0, .slice none 0 0, .slice none 0 0, .slice none 0 0])] (.slice p m c) l kx3 bx3) := Lib.hid (HQ.out.setOne 2 (.int .i64 x3) (by simp))
            clear ho HQ HP2 HS2
            go_wp2_with fail
            clear t1 t2
            refine (NR.out 1 rfl _ _ _ HP3.out.rw.le HP3.out.rw.st).mono ?_
            rintro e V5 ⟨x4, kx4, bx4, rfl, ho⟩
            have HS4 := Lib.hid (HS3.out.num ho.out)
            have HQ := Lib.hid (HP3.out.ok ho)
            have t1 : V5.cell? ⟨eb, 3, none⟩ = some (.int .i64 0) := HQ.out.rw.at (x := (eb, [.int .i64 x1, .int .i64 x2, .int .i64 x3, .int .i64 0])) (by simp) 3 _ rfl
            have t2 : V5.frozen? ⟨eb, 3, none⟩ = false := (HQ.out.rw.own (eb, [.int .i64 x1, .int .i64 x2, .int .i64 x3, .int .i64 0]) (by simp)).1.free 3 (by simp)
            have HP4 : Hid (LP Ix.cells 89 4 (dRdr s r N hN) s w U1 (V5.setCell ⟨eb, 3, none⟩ (.int .i64 x4)) [pb, w.heap.size] [(eb, [.int .i64 x1, .int .i64 x2, .int .i64 x3, .int .i64 x4]), (pb, [.string (strOf nm), .int .i64 ps, .int .i64 rg, .slice p m c, .slice q2 m2 c2, .slice q1 m1 c1]), (w.heap.size, [.string ⟨#[]⟩, .int .i64 0, .int .i64 0, .slice none 0 0, .slice none 0 0, .slice none 0 0])] (.slice p m c) l kx4 bx4) := Lib.hid (HQ.out.setOne 3 (.int .i64 x4) (by simp))
            clear ho HQ HP3 HS3
            have HEB := Lib.hid (HP4.out.rw.own (eb, [.int .i64 x1, .int .i64 x2, .int .i64 x3, .int .i64 x4]) (by simp)).1
            have HTL := Lib.hid HP4.out.tail
            have u1 : (V5.setCell ⟨eb, 3, none⟩ (.int .i64 x4)).cell? ⟨pb, 3, none⟩ = some (.slice p m c) := HTL.out.rw.at (x := (pb, [.string (strOf nm), .int .i64 ps, .int .i64 rg, .slice p m c, .slice q2 m2 c2, .slice q1 m1 c1])) (by simp) 3 _ rfl
            have HAP := LP.push appOk_ix (fun _ => rfl) (fun x u hu => by simp [Ix.cells] at hu; rcases hu with rfl | rfl | rfl | rfl <;> rfl) HTL.out (fun x hx => by simp only [List.mem_cons, List.not_mem_nil, or_false] at hx; rcases hx with rfl | rfl <;> simp) (⟨x1, x2, x3, x4⟩ : Ix) (by have := HLI.out; have := HLT.out; have := HJJ.out; omega)
            obtain ⟨qq, cap, W7, hrun, hL7⟩ := HAP
            rw [← HM.out] at hrun hL7
            have HRUN := Lib.hid hrun
            have HL7 := Lib.hid hL7
            have HX : Hid (Out (rdI id) s kq false (⟨x1, x2, x3, x4⟩ : Ix) kx4 bx4) := Lib.hid (seq_ix HS4.out)
            have v1 : W7.cell? ⟨pb, 3, none⟩ = some (.slice p m c) := hL7.rw.at (x := (pb, [.string (strOf nm), .int .i64 ps, .int .i64 rg, .slice p m c, .slice q2 m2 c2, .slice q1 m1 c1])) (by simp) 3 _ rfl
            have v2 : W7.frozen? ⟨pb, 3, none⟩ = false := (hL7.rw.own (pb, [.string (strOf nm), .int .i64 ps, .int .i64 rg, .slice p m c, .slice q2 m2 c2, .slice q1 m1 c1]) (by simp)).1.free 3 (by simp)
            have HL8 : Hid (LP Ix.cells 89 4 (dRdr s r N hN) s w U1 (W7.setCell ⟨pb, 3, none⟩ (.slice (some ⟨qq, 0, none⟩) (m + 1) cap)) [pb, w.heap.size] [(pb, [.string (strOf nm), .int .i64 ps, .int .i64 rg, .slice (some ⟨qq, 0, none⟩) (m + 1) cap, .slice q2 m2 c2, .slice q1 m1 c1]), (w.heap.size, [.string ⟨#[]⟩, .int .i64 0, .int .i64 0, .slice none 0 0, .slice none 0 0, .slice none 0 0])] (.slice (some ⟨qq, 0, none⟩) (m + 1) cap) (l ++ [(⟨x1, x2, x3, x4⟩ : Ix)]) kx4 bx4) := Lib.hid (hL7.setOne 3 _ (by simp))
            have HP8 : Hid (Pro (rdI id) s n3.toNat kn3 bn3 (l ++ [(⟨x1, x2, x3, x4⟩ : Ix)]) (n3.toNat - (i + 1)) kx4 bx4) := Lib.hid (by
                have hp := HPR.out
                have h2 : n3.toNat - i = n3.toNat - (i + 1) + 1 := by have := HLT.out; omega
                rw [h2] at hp
                exact hp.step HX.out)
            have HM8 : Hid (m + 1 = (l ++ [(⟨x1, x2, x3, x4⟩ : Ix)]).length) := Lib.hid (by rw [List.length_append, HM.out]; rfl)
            have HLI8 : Hid ((l ++ [(⟨x1, x2, x3, x4⟩ : Ix)]).length = i + 1) := Lib.hid (by rw [List.length_append, HLI.out]; rfl)
            have HIN8 : Hid (i + 1 ≤ n3.toNat) := Lib.hid (by have := HLT.out; omega)
            have HJ8 : Hid (bx4 = false → 0 ≤ n3 ∧ n3 ≤ 65535) := Lib.hid (fun _ => HJJ.out)
            have HIE : Hid ((Tryd.prog.info? 89).map (·.size) = some ([.int .i64 x1, .int .i64 x2, .int .i64 x3, .int .i64 x4] : List Value).length) := Lib.hid (by kernel_rfl)
            clear hL7 hrun HTL HPR HX HP4 HS4
            go_wp2_with (first
              | (refine wpList_load_mid rfl 89 (.tmp 10) rfl eb 0 rfl ([.int .i64 x1, .int .i64 x2, .int .i64 x3, .int .i64 x4]) _ HEB.out.cells Tryd.underlying89 rfl HIE.out ?_)
              | (refine wpList_run rfl (exec_buildSlice 34 89 _ 32 4 ([.int .i64 x1, .int .i64 x2, .int .i64 x3, .int .i64 x4]) _ Tryd.underlying34 i3_ix rfl rfl (by decide) (by decide) _ _ (.tmp 110) rfl (by kernel_rfl)) ?_)
              | (at_builtin; refine Lib.wpList_append_run _ rfl _ _ _ _ rfl _ _ rfl rfl _ _ HRUN.out ?_))
            go_roundw
            case rel => exact ⟨i + 1, l ++ [(⟨x1, x2, x3, x4⟩ : Ix)], some ⟨qq, 0, none⟩, m + 1, cap, kx4, bx4, by first | rfl | go_num, HM8, HLI8, HL8, HP8, HIN8, HJ8⟩
            case measure => simp [intOf]; have := HLT.out; omega
          · have HOUT : Hid (Out (rdM (rdI id) n3.toNat) s kn3 bn3 l kq bq) := Lib.hid (by
                cases hb : bq with
                | true => rw [hb] at HPR HL; exact HPR.out.short HL.out.rw.le
                | false =>
                  have h1 : ¬(i : Int) < n3 := fun x => hgo ⟨x, hb⟩
                  have h2 : n3.toNat - i = 0 := by omega
                  rw [h2, hb] at HPR
                  rw [hb] at HL
                  exact HPR.out.done HL.out.rw.le)
            have HOL : Hid (Out (rdL (rdI id)) s kn3p bn3p l kq bq) := Lib.hid (HNN1.out.bind (f := fun n : Int => rdM (rdI id) n.toNat) HOUT.out)
            clear HOUT HPR HM HIN HJ HLI HSN1
            by_cases h1 : (i : Int) < n3
            · have hb : bq = true := (Bool.eq_false_or_eq_true bq).resolve_right (fun hb => hgo ⟨h1, hb⟩)
              rw [hb] at cS
              clear hgo
              go_wp2_with fail
              go_meet
              exact ⟨l, p, m, c, kq, bq, HL, HOL⟩
            · clear hgo
              go_wp2_with fail
              go_meet
              exact ⟨l, p, m, c, kq, bq, HL, HOL⟩
      case rest =>
        clear HL HNN1 HSN1
        obtain ⟨l, p, m, c, kq, bq, HL, HOL2⟩ := hcut
        have HRW := Lib.hid HL.out.rw
        have HROW2 := Lib.hid HL.out.row
        have HRO0 := Lib.hid (HL.out.old HA2.out)
        have HRO1 := Lib.hid (HL.out.old HB2.out)
        have HEB := Lib.hid (HRW.out.own (pb, [.string (strOf nm), .int .i64 ps, .int .i64 rg, .slice p m c, .slice q2 m2 c2, .slice q1 m1 c1]) (by simp)).1
        have HIL : Hid ((Tryd.prog.info? 38).map (·.size) = some ([.string (strOf nm), .int .i64 ps, .int .i64 rg, .slice p m c, .slice q2 m2 c2, .slice q1 m1 c1] : List Value).length) := Lib.hid (by kernel_rfl)
        have HST := Lib.hid (RW.stored (c := [.string ⟨#[]⟩, .int .i64 0, .int .i64 0, .slice none 0 0, .slice none 0 0, .slice none 0 0]) HRW.out.swap [.string (strOf nm), .int .i64 ps, .int .i64 rg, .slice p m c, .slice q2 m2 c2, .slice q1 m1 c1] rfl)
        have HTS := Lib.hid HST.out.1
        have HRS := Lib.hid HST.out.2
        have HK2 : Hid (∀ vs, Keeps (fun g => w.heap.size ≤ g ∧ g ∉ [pb, w.heap.size]) wc (wc.setCells w.heap.size 0 vs)) := Lib.hid (fun vs => keeps_all (by simp))
        have HA := Lib.hid (Rw.weaken (Rw.keep HRO0.out (HK2.out ([.string (strOf nm), .int .i64 ps, .int .i64 rg, .slice p m c, .slice q2 m2 c2, .slice q1 m1 c1] : List Value).toArray.toList)) (Y := fun g => w.heap.size ≤ g) (fun g hg _ => hg.1))
        have HB := Lib.hid (Rw.weaken (Rw.keep HRO1.out (HK2.out ([.string (strOf nm), .int .i64 ps, .int .i64 rg, .slice p m c, .slice q2 m2 c2, .slice q1 m1 c1] : List Value).toArray.toList)) (Y := fun g => w.heap.size ≤ g) (fun g hg _ => hg.1))
        have HC := Lib.hid (Rw.weaken (Rw.keep HROW2.out (HK2.out ([.string (strOf nm), .int .i64 ps, .int .i64 rg, .slice p m c, .slice q2 m2 c2, .slice q1 m1 c1] : List Value).toArray.toList)) (Y := fun g => w.heap.size ≤ g) (fun g hg _ => hg.1))
        have HPRO := Lib.hid (seq_prG HSQ6.out HOL0.out HOL1.out HOL2.out)
        clear HST HK2 HL HA2 HB2 HRO0 HRO1 HROW2 HOL0 HOL1 HOL2 HSQ6 HRW
        go_wp2_with (first
          | (refine wpList_load_mid rfl 38 (.tmp 3) rfl pb 0 rfl ([.string (strOf nm), .int .i64 ps, .int .i64 rg, .slice p m c, .slice q2 m2 c2, .slice q1 m1 c1]) _ HEB.out.cells Tryd.underlying38 rfl HIL.out ?_)
          | (refine wpList_store_mid rfl 38 (.tmp 2) (.tmp 114) rfl w.heap.size 0 ([.string (strOf nm), .int .i64 ps, .int .i64 rg, .slice p m c, .slice q2 m2 c2, .slice q1 m1 c1] : List Value).toArray rfl rfl HTS.out (HIA.out _ _ _ _ _ _) (pr_one6 _ _ _) ?_; generalize World.setCells _ _ _ _ = WZ at HRS HA HB HC ⊢))
        have HCZ := Lib.hid (HRS.out.own _ (List.mem_cons_self ..)).1
        refine bodyPost_ret (results_cell1 rfl _ _ rfl HCZ.out.cells Tryd.underlying38 rfl HIL.out) rfl ?_
        exact ⟨_, ⟨nm, ps, rg, l, lb, la⟩, kq, bq, rfl, ⟨_, rfl, _, _, _, rfl, HC.out, HB.out, HA.out⟩, HPRO.out, HRS.out.st, HRS.out.only⟩

end Go.Proofs.YtmloljfnnkfkjaaDoor.Im

