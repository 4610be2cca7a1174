/- The walk of the document's Parse: its contract. No condition but those that each states. -/
import Derived.Test.YtmloljfnnkfkjaaDoorMgBA
import Derived.Test.YtmloljfnnkfkjaaDoorMgBE
import Derived.Test.YtmloljfnnkfkjaaDoorMgBG
namespace Go.Proofs.YtmloljfnnkfkjaaDoor.Im
open Go.RowKit Dk In

theorem seq_unG {s : List UInt8} {g : Ix → Ix} {k0 k k2 k3 k4 : Nat} {b0 b b2 b3 b4 : Bool} {a : List UInt8} {z u v : Int} {d : List Us} {f : List Pr} (h : Seqs s k0 b0 [.n 4 u, .t a, .n 4 z] k b) (h2 : Out (rdL rdUse) s k b d k2 b2) (h3 : Out (rdN 1) s k2 b2 v k3 b3) (h4 : Out (rdL (rdPr g)) s k3 b3 f k4 b4) : Out (rdUn g) s k0 b0 ⟨a, u, d, v, f⟩ k4 b4 := by
  cases h with
  | num h5 h6 =>
    cases h5 with
    | txt h7 h8 =>
      cases h7 with
      | num h9 h10 =>
        cases h9
        exact h10.bind (h8.bind (h6.bind (h2.bind (h3.bind h4.bindRet))))
theorem un_one5 (a : ByteArray) (u v : Int) {p3 p4 : Option Addr} {n3 n4 k3 k4 : Nat} : ([.string a, .int .i64 u, .slice p3 n3 k3, .int .i64 v, .slice p4 n4 k4] : List Value).toArray.all (·.oneCell') = true := by simp [Value.oneCell']
set_option maxHeartbeats 16000000 in
set_option maxRecDepth 100000 in
theorem rparse_any (s : List UInt8) (w : World) (hs : s.length ≤ 1099511627776) : Calls Tryd.prog 15 #[.string (strOf s)] w (ParseAny (parseU id s) w) := by
  obtain ⟨ss, hss⟩ : ∃ ss, ss = strOf s := ⟨_, rfl⟩
  obtain ⟨W1, hW1⟩ : ∃ W1, W1 = w.alloc (.cells ([.string ⟨#[]⟩, .int .i64 0, .slice none 0 0, .int .i64 0, .slice none 0 0] : List Value).toArray 25) := ⟨_, rfl⟩
  obtain ⟨W2, hW2⟩ : ∃ W2, W2 = W1.alloc (.cells ([.string ss, .int .i64 0, .bool false] : List Value).toArray 67) := ⟨_, rfl⟩
  have hB1 : Below w.heap.size w W1 := by rw [hW1]; exact (Below.refl _ _).alloc (Nat.le_refl _) _
  have hB12 : Below W1.heap.size W1 W2 := by rw [hW2]; exact (Below.refl _ _).alloc (Nat.le_refl _) _
  have hS1 : W1.heap.size = w.heap.size + 1 := by rw [hW1]; simp
  have hS2 : W2.heap.size = W1.heap.size + 1 := by rw [hW2]; simp
  have hN : W1.heap.size < W2.heap.size := by omega
  have HB2 : Hid (Below w.heap.size w W2) := Lib.hid (chain2 hB1 hB12)
  have HE1 : EB W1 w.heap.size [.string ⟨#[]⟩, .int .i64 0, .slice none 0 0, .int .i64 0, .slice none 0 0] := by rw [hW1]; exact eb_new w [.string ⟨#[]⟩, .int .i64 0, .slice none 0 0, .int .i64 0, .slice none 0 0] _
  have HE2 : Hid (EB W2 w.heap.size [.string ⟨#[]⟩, .int .i64 0, .slice none 0 0, .int .i64 0, .slice none 0 0]) := Lib.hid (HE1.of_block (hB12.block _ HE1.lt) hB12.size)
  have hdr : DR s W1.heap.size W2.heap.size W2 0 false := ⟨by rw [hW2, hss]; exact eb_new W1 [.string (strOf s), .int .i64 0, .bool false] _, hN, Nat.le_refl _, hs⟩
  have HR2 : Hid (RS (dRdr s W1.heap.size W2.heap.size hN) s 0 false W2 W2 [] [] 0 false) := Lib.hid ⟨RW.new (Q := (dRdr s W1.heap.size W2.heap.size hN)) hdr (Nat.zero_le _), .nil (Nat.zero_le _)⟩
  have HSS := Lib.hid (And.intro hS1 hS2)
  have NR := Lib.hid (fun (K : Nat) (hK : wideB (K : Int) = true) => dnumR (s := s) (r := W1.heap.size) hN hK)
  have TR := Lib.hid (dtextR (s := s) (r := W1.heap.size) hN)
  have PRO := Lib.hid (fun W k b hk h => dproto_any (s := s) (r := W1.heap.size) hN W k b hk h)
  have SH := Lib.hid (fun W k b h => DR.short (s := s) (r := W1.heap.size) (N := W2.heap.size) (W := W) (k := k) (b := b) hN h)
  have hX1 : w.alloc (.cells #[.string ⟨#[]⟩, .int .i64 0, .slice none 0 0, .int .i64 0, .slice none 0 0] 25) = W1 := hW1.symm
  have hX2 : W1.alloc (.cells #[.string ss, .int .i64 0, .bool false] 67) = W2 := hW2.symm
  have HIA : Hid (∀ (a : ByteArray) (u v : Int) (x y : Value), (Tryd.prog.info? 25).map (·.size) = some ([.string a, .int .i64 u, x, .int .i64 v, y] : List Value).toArray.size) := Lib.hid (fun _ _ _ _ _ => by kernel_rfl)
  have HSTR := Lib.hid hss
  rw [← hss]
  clear hW1 hW2 hB1 hB12 HE1 hdr hS1 hS2 hss hs
  go_enter Tryd.func15, Tryd.ntmps15
  go_wp2_with fail
  refine (NR.out 4 rfl _ _ _ HR2.out.rw.le HR2.out.rw.st).mono ?_
  rintro e W3 ⟨zz, k3, b3, rfl, ho⟩
  have HR3 := Lib.hid (HR2.out.num ho)
  clear ho HR2
  go_wp2_with fail
  refine (TR.out _ _ _ HR3.out.rw.le HR3.out.rw.st).mono ?_
  rintro e W4 ⟨nm, k4, b4, rfl, ho⟩
  have HR4 := Lib.hid (HR3.out.txt ho)
  have HP := Lib.hid (HR4.out.rw.put #[.string ⟨#[]⟩, .int .i64 0, .slice none 0 0, .int .i64 0, .slice none 0 0] 25 [.string (strOf nm), .int .i64 0, .slice none 0 0, .int .i64 0, .slice none 0 0] rfl)
  have HT1 := Lib.hid HP.out.1
  have HP2 := Lib.hid HP.out.2
  have HSQ4 := Lib.hid HR4.out.sq
  clear ho HR3 HP HR4
  go_wp2_with (refine wpList_store_mid rfl 25 (.tmp 5) (.tmp 19) rfl W4.heap.size 0 ([.string (strOf nm), .int .i64 0, .slice none 0 0, .int .i64 0, .slice none 0 0] : List Value).toArray rfl rfl HT1.out (HIA.out _ _ _ _ _) (un_one5 _ _ _) ?_; generalize World.setCells _ _ _ _ = W5 at HP2 ⊢; generalize hub : W4.heap.size = ub at HP2 ⊢)
  clear HT1
  refine (NR.out 4 rfl _ _ _ HP2.out.le HP2.out.st).mono ?_
  rintro e W6 ⟨ver, k6, b6, rfl, ho⟩
  have HSQ6 := Lib.hid (HSQ4.out.num ho.out)
  have HR6 := Lib.hid (HP2.out.ok ho)
  have d1 : W6.cell? ⟨ub, 1, none⟩ = some (.int .i64 0) := HR6.out.at (x := (ub, [.string (strOf nm), .int .i64 0, .slice none 0 0, .int .i64 0, .slice none 0 0])) (by simp) 1 _ rfl
  have g1 : W6.frozen? ⟨ub, 1, none⟩ = false := (HR6.out.own (ub, [.string (strOf nm), .int .i64 0, .slice none 0 0, .int .i64 0, .slice none 0 0]) (by simp)).1.free 1 (by simp)
  have HR7 : Hid (RW (dRdr s W1.heap.size W2.heap.size hN) s W2 (W6.setCell ⟨ub, 1, none⟩ (.int .i64 ver)) [(ub, [.string (strOf nm), .int .i64 ver, .slice none 0 0, .int .i64 0, .slice none 0 0])] k6 b6) := Lib.hid (HR6.out.setOne 1 (.int .i64 ver) (by simp))
  clear ho HP2 HSQ4 HR6
  go_wp2_with fail
  clear d1 g1
  refine (NR.out 2 rfl _ _ _ HR7.out.le HR7.out.st).mono ?_
  rintro e W8 ⟨n1, k8, b8, rfl, ho⟩
  have HR8 := Lib.hid (HR7.out.ok ho)
  have HN1 := Lib.hid ho.out
  have HSM1 : Hid (b8 = false → 0 ≤ n1 ∧ n1 ≤ 65535) := Lib.hid (fun hb => by subst hb; exact two_small ho.out)
  have HD1 : Hid (∀ g ∈ [ub], g < W8.heap.size) := Lib.hid (fun g hg => by
    rw [List.mem_singleton.1 hg]
    exact (HR8.out.own (ub, [.string (strOf nm), .int .i64 ver, .slice none 0 0, .int .i64 0, .slice none 0 0]) (by simp)).1.lt)
  clear ho HR7
  have HL : Hid (LP Us.cells 43 3 (dRdr s W1.heap.size W2.heap.size hN) s W2 W8 W8 [ub] [(ub, [.string (strOf nm), .int .i64 ver, .slice none 0 0, .int .i64 0, .slice none 0 0])] (.slice none 0 0) [] k8 b8) := Lib.hid (LP.start Us.cells 43 3 HR8.out (fun x hx => by rw [List.mem_singleton.1 hx]; simp) HD1.out)
  go_upto_block 0 with fail
  go_cut [] (fun wx => ∃ (l : List Us) (p : Option Addr) (m c : Nat) (kq : Nat) (bq : Bool), Hid (LP Us.cells 43 3 (dRdr s W1.heap.size W2.heap.size hN) s W2 W8 wx [ub] [(ub, [.string (strOf nm), .int .i64 ver, .slice p m c, .int .i64 0, .slice none 0 0])] (.slice p m c) l kq bq) ∧ Hid (Out (rdL rdUse) s k6 b6 l kq bq))
  case first =>
    go_wp2
    go_loopw [7] (fun vi wr => ∃ (i : Nat) (l : List Us) (p : Option Addr) (m c : Nat) (kq : Nat) (bq : Bool), vi = .int .i64 (i : Int) ∧ Hid (m = l.length) ∧ Hid (l.length = i) ∧ Hid (LP Us.cells 43 3 (dRdr s W1.heap.size W2.heap.size hN) s W2 W8 wr [ub] [(ub, [.string (strOf nm), .int .i64 ver, .slice p m c, .int .i64 0, .slice none 0 0])] (.slice p m c) l kq bq) ∧ Hid (Pro rdUse s n1.toNat k8 b8 l (n1.toNat - i) kq bq) ∧ Hid (i ≤ n1.toNat) ∧ Hid (bq = false → 0 ≤ n1 ∧ n1 ≤ 65535)) (fun vi _ => n1.toNat - (intOf vi).toNat)
    case atStart => exact ⟨0, [], none, 0, 0, k8, b8, rfl, Lib.hid rfl, Lib.hid rfl, HL, Lib.hid (Pro.start _ _ _ _ _), Lib.hid (Nat.zero_le _), HSM1⟩
    case round =>
      clear HL
      obtain ⟨i, l, p, m, c, kq, bq, rfl, HM, HLI, HL, HPR, HIN, HJ⟩ := hrel
      have cS : wr.cell? ⟨W1.heap.size, 2, none⟩ = some (.bool bq) := SH.out wr kq bq HL.out.rw.st
      by_cases hgo : (i : Int) < n1 ∧ bq = false
      · obtain ⟨hlt, rfl⟩ := hgo
        have hjj := HJ.out rfl
        have hin := HIN.out
        have z1 : IntKind.i64.wrap ((i : Int) + 1) = ((i + 1 : Nat) : Int) := by rw [IntWalk.i64_in _ (by omega)]; omega
        have HS0 : Hid (Seqs s kq false [] kq false) := Lib.hid (.nil HL.out.rw.le)
        have HJJ := Lib.hid hjj
        have HLT := Lib.hid hlt
        clear hjj hin HJ
        go_wp2_with fail
        refine (TR.out _ _ _ HL.out.rw.le HL.out.rw.st).mono ?_
        rintro e V1 ⟨x1, kx1, bx1, rfl, ho⟩
        have HS1 := Lib.hid (HS0.out.txt ho.out)
        have HL1 := Lib.hid (HL.out.ok ho)
        have HP := Lib.hid (HL1.out.put #[.string ⟨#[]⟩, .string ⟨#[]⟩, .int .i64 0] 43 [.string (strOf x1), .string ⟨#[]⟩, .int .i64 0] rfl)
        have HT := Lib.hid HP.out.1
        have HP1 := Lib.hid HP.out.2
        have HI1 : Hid ((Tryd.prog.info? 43).map (·.size) = some ([.string (strOf x1), .string ⟨#[]⟩, .int .i64 0] : List Value).toArray.size) := Lib.hid (by kernel_rfl)
        have HO1 : Hid (([.string (strOf x1), .string ⟨#[]⟩, .int .i64 0] : List Value).toArray.all (·.oneCell') = true) := Lib.hid (by simp [Value.oneCell'])
        clear ho HL HL1 HP HS0 cS
        go_wp2_with (refine wpList_store_mid rfl 43 (.tmp 8) (.tmp 39) rfl V1.heap.size 0 ([.string (strOf x1), .string ⟨#[]⟩, .int .i64 0] : List Value).toArray rfl rfl HT.out HI1.out HO1.out ?_; generalize World.setCells _ _ _ _ = V2 at HP1 ⊢; generalize V1.heap.size = eb at HP1 HT ⊢)
        refine (TR.out _ _ _ HP1.out.rw.le HP1.out.rw.st).mono ?_
        rintro e V3 ⟨x2, kx2, bx2, rfl, ho⟩
        have HS2 := Lib.hid (HS1.out.txt ho.out)
        have HQ := Lib.hid (HP1.out.ok ho)
        have t1 : V3.cell? ⟨eb, 1, none⟩ = some (.string ⟨#[]⟩) := HQ.out.rw.at (x := (eb, [.string (strOf x1), .string ⟨#[]⟩, .int .i64 0])) (by simp) 1 _ rfl
        have t2 : V3.frozen? ⟨eb, 1, none⟩ = false := (HQ.out.rw.own (eb, [.string (strOf x1), .string ⟨#[]⟩, .int .i64 0]) (by simp)).1.free 1 (by simp)
        have HP2 : Hid (LP Us.cells 43 3 (dRdr s W1.heap.size W2.heap.size hN) s W2 W8 (V3.setCell ⟨eb, 1, none⟩ (.string (strOf x2))) [ub] [(eb, [.string (strOf x1), .string (strOf x2), .int .i64 0]), (ub, [.string (strOf nm), .int .i64 ver, .slice p m c, .int .i64 0, .slice none 0 0])] (.slice p m c) l kx2 bx2) := Lib.hid (HQ.out.setOne 1 (.string (strOf x2)) (by simp))
        clear ho HQ HP1 HS1
        go_wp2_with fail
        clear t1 t2
        refine (NR.out 1 rfl _ _ _ HP2.out.rw.le HP2.out.rw.st).mono ?_
        rintro e V4 ⟨x3, kx3, bx3, rfl, ho⟩
        have HS3 := Lib.hid (HS2.out.num ho.out)
        have HQ := Lib.hid (HP2.out.ok ho)
        have t1 : V4.cell? ⟨eb, 2, none⟩ = some (.int .i64 0) := HQ.out.rw.at (x := (eb, [.string (strOf x1), .string (strOf x2), .int .i64 0])) (by simp) 2 _ rfl
        have t2 : V4.frozen? ⟨eb, 2, none⟩ = false := (HQ.out.rw.own (eb, [.string (strOf x1), .string (strOf x2), .int .i64 0]) (by simp)).1.free 2 (by simp)
        have HP3 : Hid (LP Us.cells 43 3 (dRdr s W1.heap.size W2.heap.size hN) s W2 W8 (V4.setCell ⟨eb, 2, none⟩ (.int .i64 x3)) [ub] [(eb, [.string (strOf x1), .string (strOf x2), .int .i64 x3]), (ub, [.string (strOf nm), .int .i64 ver, .slice p m c, .int .i64 0, .slice none 0 0])] (.slice p m c) l kx3 bx3) := Lib.hid (HQ.out.setOne 2 (.int .i64 x3) (by simp))
        clear ho HQ HP2 HS2
        have HEB := Lib.hid (HP3.out.rw.own (eb, [.string (strOf x1), .string (strOf x2), .int .i64 x3]) (by simp)).1
        have HTL := Lib.hid HP3.out.tail
        have u1 : (V4.setCell ⟨eb, 2, none⟩ (.int .i64 x3)).cell? ⟨ub, 2, none⟩ = some (.slice p m c) := HTL.out.rw.at (x := (ub, [.string (strOf nm), .int .i64 ver, .slice p m c, .int .i64 0, .slice none 0 0])) (by simp) 2 _ rfl
        have HAP := LP.push appOk_us (fun _ => rfl) (fun x u hu => by simp [Us.cells] at hu; rcases hu with rfl | rfl | rfl <;> rfl) HTL.out (fun x hx => by rw [List.mem_singleton.1 hx]; simp) (⟨x1, x2, x3⟩ : Us) (by have := HLI.out; have := HLT.out; have := HJJ.out; omega)
        obtain ⟨qq, cap, W7, hrun, hL7⟩ := HAP
        rw [← HM.out] at hrun hL7
        have HRUN := Lib.hid hrun
        have HX : Hid (Out rdUse s kq false (⟨x1, x2, x3⟩ : Us) kx3 bx3) := Lib.hid (seq_use HS3.out)
        have v1 : W7.cell? ⟨ub, 2, none⟩ = some (.slice p m c) := hL7.rw.at (x := (ub, [.string (strOf nm), .int .i64 ver, .slice p m c, .int .i64 0, .slice none 0 0])) (by simp) 2 _ rfl
        have v2 : W7.frozen? ⟨ub, 2, none⟩ = false := (hL7.rw.own (ub, [.string (strOf nm), .int .i64 ver, .slice p m c, .int .i64 0, .slice none 0 0]) (by simp)).1.free 2 (by simp)
        have HL8 : Hid (LP Us.cells 43 3 (dRdr s W1.heap.size W2.heap.size hN) s W2 W8 (W7.setCell ⟨ub, 2, none⟩ (.slice (some ⟨qq, 0, none⟩) (m + 1) cap)) [ub] [(ub, [.string (strOf nm), .int .i64 ver, .slice (some ⟨qq, 0, none⟩) (m + 1) cap, .int .i64 0, .slice none 0 0])] (.slice (some ⟨qq, 0, none⟩) (m + 1) cap) (l ++ [(⟨x1, x2, x3⟩ : Us)]) kx3 bx3) := Lib.hid (hL7.setOne 2 _ (by simp))
        have HP8 : Hid (Pro rdUse s n1.toNat k8 b8 (l ++ [(⟨x1, x2, x3⟩ : Us)]) (n1.toNat - (i + 1)) kx3 bx3) := Lib.hid (by
            have hp := HPR.out
            have h2 : n1.toNat - i = n1.toNat - (i + 1) + 1 := by have := HLT.out; omega
            rw [h2] at hp
            exact hp.step HX.out)
        have HM8 : Hid (m + 1 = (l ++ [(⟨x1, x2, x3⟩ : Us)]).length) := Lib.hid (by rw [List.length_append, HM.out]; rfl)
        have HLI8 : Hid ((l ++ [(⟨x1, x2, x3⟩ : Us)]).length = i + 1) := Lib.hid (by rw [List.length_append, HLI.out]; rfl)
        have HIN8 : Hid (i + 1 ≤ n1.toNat) := Lib.hid (by have := HLT.out; omega)
        have HJ8 : Hid (bx3 = false → 0 ≤ n1 ∧ n1 ≤ 65535) := Lib.hid (fun _ => HJJ.out)
        have HIE : Hid ((Tryd.prog.info? 43).map (·.size) = some ([.string (strOf x1), .string (strOf x2), .int .i64 x3] : List Value).length) := Lib.hid (by kernel_rfl)
        clear hL7 hrun HTL HPR HX HP3 HS3
        go_wp2_with (first
          | (refine wpList_load_mid rfl 43 (.tmp 8) rfl eb 0 rfl ([.string (strOf x1), .string (strOf x2), .int .i64 x3]) _ HEB.out.cells Tryd.underlying43 rfl HIE.out ?_)
          | (refine wpList_run rfl (exec_buildSlice 22 43 _ 40 3 ([.string (strOf x1), .string (strOf x2), .int .i64 x3]) _ Tryd.underlying22 i3_us rfl rfl (by decide) (by decide) _ _ (.tmp 48) rfl (by kernel_rfl)) ?_)
          | (at_builtin; refine Lib.wpList_append_run _ rfl _ _ _ _ rfl _ _ rfl rfl _ _ HRUN.out ?_))
        go_roundw
        case rel => exact ⟨i + 1, l ++ [(⟨x1, x2, x3⟩ : Us)], some ⟨qq, 0, none⟩, m + 1, cap, kx3, bx3, by first | rfl | go_num, HM8, HLI8, HL8, HP8, HIN8, HJ8⟩
        case measure => simp [intOf]; have := HLT.out; omega
      · have HOUT : Hid (Out (rdM rdUse n1.toNat) s k8 b8 l kq bq) := Lib.hid (by
            cases hb : bq with
            | true => rw [hb] at HPR HL; exact HPR.out.short HL.out.rw.le
            | false =>
              have h1 : ¬(i : Int) < n1 := fun x => hgo ⟨x, hb⟩
              have h2 : n1.toNat - i = 0 := by omega
              rw [h2, hb] at HPR
              rw [hb] at HL
              exact HPR.out.done HL.out.rw.le)
        have HOL : Hid (Out (rdL rdUse) s k6 b6 l kq bq) := Lib.hid (HN1.out.bind (f := fun n : Int => rdM rdUse n.toNat) HOUT.out)
        clear HOUT HPR HM HIN HJ HLI HSM1
        by_cases h1 : (i : Int) < n1
        · have hb : bq = true := (Bool.eq_false_or_eq_true bq).resolve_right (fun hb => hgo ⟨h1, hb⟩)
          rw [hb] at cS
          clear hgo
          go_wp2_with fail
          go_meet
          exact ⟨l, p, m, c, kq, bq, HL, HOL⟩
        · clear hgo
          go_wp2_with fail
          go_meet
          exact ⟨l, p, m, c, kq, bq, HL, HOL⟩
  case rest =>
    clear HL HN1 HSM1
    obtain ⟨lu, q1, m1, c1, kp, bp, HL, HOL1⟩ := hcut
    have HRW := Lib.hid HL.out.rw
    have HROW := Lib.hid HL.out.row
    go_wp2_with fail
    refine (NR.out 1 rfl _ _ _ HRW.out.le HRW.out.st).mono ?_
    rintro e U1 ⟨fu, ku, bu, rfl, ho⟩
    have HRN := Lib.hid (HRW.out.ok ho)
    have HOF := Lib.hid ho.out
    have HKC := keeps_call (X := fun g => W2.heap.size ≤ g ∧ g ∉ [ub]) HRW.out ho.only (fun g hg => hg.1)
    have d3 : U1.cell? ⟨ub, 3, none⟩ = some (.int .i64 0) := HRN.out.at (x := (ub, [.string (strOf nm), .int .i64 ver, .slice q1 m1 c1, .int .i64 0, .slice none 0 0])) (by simp) 3 _ rfl
    have g3 : U1.frozen? ⟨ub, 3, none⟩ = false := (HRN.out.own (ub, [.string (strOf nm), .int .i64 ver, .slice q1 m1 c1, .int .i64 0, .slice none 0 0]) (by simp)).1.free 3 (by simp)
    have HRF : Hid (RW (dRdr s W1.heap.size W2.heap.size hN) s W2 (U1.setCell ⟨ub, 3, none⟩ (.int .i64 fu)) [(ub, [.string (strOf nm), .int .i64 ver, .slice q1 m1 c1, .int .i64 fu, .slice none 0 0])] ku bu) := Lib.hid (HRN.out.setOne 3 (.int .i64 fu) (by simp))
    have HROW2 : Hid (Rw Us.cells (fun g => W2.heap.size ≤ g ∧ g ∉ [ub]) (U1.setCell ⟨ub, 3, none⟩ (.int .i64 fu)) (.slice q1 m1 c1) lu) := Lib.hid (Rw.keep (Rw.keep HROW.out HKC) (keeps_one (by simp)))
    clear ho HL HRW HKC HRN HROW
    go_wp2_with fail
    clear d3 g3
    refine (NR.out 2 rfl _ _ _ HRF.out.le HRF.out.st).mono ?_
    rintro e U2 ⟨n2, k9, b9, rfl, ho⟩
    have HR9 := Lib.hid (HRF.out.ok ho)
    have HN2 := Lib.hid ho.out
    have HSM2 : Hid (b9 = false → 0 ≤ n2 ∧ n2 ≤ 65535) := Lib.hid (fun hb => by subst hb; exact two_small ho.out)
    have HROW3 : Hid (Rw Us.cells (fun g => W2.heap.size ≤ g ∧ g ∉ [ub]) U2 (.slice q1 m1 c1) lu) := Lib.hid (Rw.keep HROW2.out (keeps_call HRF.out ho.only (fun g hg => hg.1)))
    have HD2 : Hid (∀ g ∈ [ub], g < U2.heap.size) := Lib.hid (fun g hg => by
      rw [List.mem_singleton.1 hg]
      exact (HR9.out.own (ub, [.string (strOf nm), .int .i64 ver, .slice q1 m1 c1, .int .i64 fu, .slice none 0 0]) (by simp)).1.lt)
    clear ho HRF HROW2
    have HL : Hid (LQ (dRdr s W1.heap.size W2.heap.size hN) s W2 U2 U2 [ub] [(ub, [.string (strOf nm), .int .i64 ver, .slice q1 m1 c1, .int .i64 fu, .slice none 0 0])] (.slice none 0 0) [] k9 b9) := Lib.hid (LQ.start HR9.out (fun x hx => by rw [List.mem_singleton.1 hx]; simp) HD2.out)
    go_upto_block 2 with fail
    go_cut [] (fun wx => ∃ (l : List Pr) (p : Option Addr) (m c : Nat) (kq : Nat) (bq : Bool), Hid (LQ (dRdr s W1.heap.size W2.heap.size hN) s W2 U2 wx [ub] [(ub, [.string (strOf nm), .int .i64 ver, .slice q1 m1 c1, .int .i64 fu, .slice p m c])] (.slice p m c) l kq bq) ∧ Hid (Out (rdL (rdPr id)) s ku bu l kq bq))
    case first =>
      go_wp2
      go_loopw [9] (fun vi wr => ∃ (i : Nat) (l : List Pr) (p : Option Addr) (m c : Nat) (kq : Nat) (bq : Bool), vi = .int .i64 (i : Int) ∧ Hid (m = l.length) ∧ Hid (l.length = i) ∧ Hid (LQ (dRdr s W1.heap.size W2.heap.size hN) s W2 U2 wr [ub] [(ub, [.string (strOf nm), .int .i64 ver, .slice q1 m1 c1, .int .i64 fu, .slice p m c])] (.slice p m c) l kq bq) ∧ Hid (Pro (rdPr id) s n2.toNat k9 b9 l (n2.toNat - i) kq bq) ∧ Hid (i ≤ n2.toNat) ∧ Hid (bq = false → 0 ≤ n2 ∧ n2 ≤ 65535)) (fun vi _ => n2.toNat - (intOf vi).toNat)
      case atStart => exact ⟨0, [], none, 0, 0, k9, b9, rfl, Lib.hid rfl, Lib.hid rfl, HL, Lib.hid (Pro.start _ _ _ _ _), Lib.hid (Nat.zero_le _), HSM2⟩
      case round =>
        clear HL
        obtain ⟨i, l, p, m, c, kq, bq, rfl, HM, HLI, HL, HPR, HIN, HJ⟩ := hrel
        have cS : wr.cell? ⟨W1.heap.size, 2, none⟩ = some (.bool bq) := SH.out wr kq bq HL.out.rw.st
        by_cases hgo : (i : Int) < n2 ∧ bq = false
        · obtain ⟨hlt, rfl⟩ := hgo
          have HLD := Lib.hid HL.out.drew
          have hjj := HJ.out rfl
          have hin := HIN.out
          have z1 : IntKind.i64.wrap ((i : Int) + 1) = ((i + 1 : Nat) : Int) := by rw [IntWalk.i64_in _ (by omega)]; omega
          have HS0 : Hid (Seqs s kq false [] kq false) := Lib.hid (.nil HL.out.rw.le)
          have HJJ := Lib.hid hjj
          have HLT := Lib.hid hlt
          clear hjj hin HJ
          go_wp2_with fail
          have t0 : wr.drew.cell? ⟨ub, 4, none⟩ = some (.slice p m c) := HLD.out.rw.at (x := (ub, [.string (strOf nm), .int .i64 ver, .slice q1 m1 c1, .int .i64 fu, .slice p m c])) (by simp) 4 _ rfl
          have PRW := Lib.hid (PRO.out wr.drew kq false HLD.out.rw.le HLD.out.rw.st)
          have HLN : Hid (l.length ≤ 65536) := Lib.hid (by have := HLI.out; have := HLT.out; have := HJJ.out; omega)
          clear HL cS
          go_region_law (first
            | (go_simp; go_at_call 42; (with_reducible refine PRW.out.mono ?_); rintro e V4 ⟨uu, x, k3x, b3x, ho⟩; obtain rfl := ho.ret; obtain ⟨cs, qq, cap, W7, rfl, ⟨a1, u1, u2, p3, p4, p5, n3, n4, n5, c3, c4, c5, rfl⟩, hrun, hL7⟩ := HLD.out.step ho HLN.out; have t1 : V4.cell? ⟨ub, 4, none⟩ = some (.slice p m c) := (HLD.out.rw.ok ho).at (x := (ub, [.string (strOf nm), .int .i64 ver, .slice q1 m1 c1, .int .i64 fu, .slice p m c])) (by simp) 4 _ rfl; have t2 : (V4.alloc (.cells #[.string a1, .int .i64 u1, .int .i64 u2, .slice p3 n3 c3, .slice p4 n4 c4, .slice p5 n5 c5] 38)).cell? ⟨ub, 4, none⟩ = some (.slice p m c) := ((HLD.out.rw.ok ho).below ((Below.refl _ _).alloc (Nat.le_refl _) _)).at (x := (ub, [.string (strOf nm), .int .i64 ver, .slice q1 m1 c1, .int .i64 fu, .slice p m c])) (by simp) 4 _ rfl; rw [← HM.out] at hrun hL7; have HRUN := Lib.hid hrun; have HL7 := Lib.hid hL7; have HX := Lib.hid ho.out; have v1 : W7.cell? ⟨ub, 4, none⟩ = some (.slice p m c) := hL7.rw.at (x := (ub, [.string (strOf nm), .int .i64 ver, .slice q1 m1 c1, .int .i64 fu, .slice p m c])) (by simp) 4 _ rfl; have v2 : W7.frozen? ⟨ub, 4, none⟩ = false := (hL7.rw.own (ub, [.string (strOf nm), .int .i64 ver, .slice q1 m1 c1, .int .i64 fu, .slice p m c]) (by simp)).1.free 4 (by simp); clear ho hrun hL7)
            | (refine step_append_runI _ (by rfl) _ _ _ _ (by rfl) _ _ (by rfl) (by rfl) _ _ HRUN.out ?_))
          all_goals
            have HL8 : Hid (LQ (dRdr s W1.heap.size W2.heap.size hN) s W2 U2 (W7.setCell ⟨ub, 4, none⟩ (.slice (some ⟨qq, 0, none⟩) (m + 1) cap)) [ub] [(ub, [.string (strOf nm), .int .i64 ver, .slice q1 m1 c1, .int .i64 fu, .slice (some ⟨qq, 0, none⟩) (m + 1) cap])] (.slice (some ⟨qq, 0, none⟩) (m + 1) cap) (l ++ [x]) k3x b3x) := Lib.hid (HL7.out.setOne 4 _ (by simp))
            have HP8 : Hid (Pro (rdPr id) s n2.toNat k9 b9 (l ++ [x]) (n2.toNat - (i + 1)) k3x b3x) := Lib.hid (by
                have hp := HPR.out
                have h2 : n2.toNat - i = n2.toNat - (i + 1) + 1 := by have := HLT.out; omega
                rw [h2] at hp
                exact hp.step HX.out)
            have HM8 : Hid (m + 1 = (l ++ [x]).length) := Lib.hid (by rw [List.length_append, HM.out]; rfl)
            have HLI8 : Hid ((l ++ [x]).length = i + 1) := Lib.hid (by rw [List.length_append, HLI.out]; rfl)
            have HIN8 : Hid (i + 1 ≤ n2.toNat) := Lib.hid (by have := HLT.out; omega)
            have HJ8 : Hid (b3x = false → 0 ≤ n2 ∧ n2 ≤ 65535) := Lib.hid (fun _ => HJJ.out)
            clear HL7 HPR HX HLD PRW
            go_wp2_with fail
            go_roundw
            case rel => exact ⟨i + 1, l ++ [x], some ⟨qq, 0, none⟩, m + 1, cap, k3x, b3x, by first | rfl | go_num, HM8, HLI8, HL8, HP8, HIN8, HJ8⟩
            case measure => simp [intOf]; have := HLT.out; omega
        · have HOUT : Hid (Out (rdM (rdPr id) n2.toNat) s k9 b9 l kq bq) := Lib.hid (by
              cases hb : bq with
              | true => rw [hb] at HPR HL; exact HPR.out.short HL.out.rw.le
              | false =>
                have h1 : ¬(i : Int) < n2 := fun x => hgo ⟨x, hb⟩
                have h2 : n2.toNat - i = 0 := by omega
                rw [h2, hb] at HPR
                rw [hb] at HL
                exact HPR.out.done HL.out.rw.le)
          have HOL : Hid (Out (rdL (rdPr id)) s ku bu l kq bq) := Lib.hid (HN2.out.bind (f := fun n : Int => rdM (rdPr id) n.toNat) HOUT.out)
          clear HOUT HPR HM HIN HJ HLI HSM2
          by_cases h1 : (i : Int) < n2
          · have hb : bq = true := (Bool.eq_false_or_eq_true bq).resolve_right (fun hb => hgo ⟨h1, hb⟩)
            rw [hb] at cS
            clear hgo
            go_wp2_with fail
            go_meet
            exact ⟨l, p, m, c, kq, bq, HL, HOL⟩
          · clear hgo
            go_wp2_with fail
            go_meet
            exact ⟨l, p, m, c, kq, bq, HL, HOL⟩
    case rest =>
      clear HL HN2 HSM2
      obtain ⟨lp, q2, m2, c2, k1, b1, HL, HOL2⟩ := hcut
      have HUL : Hid (UC (fun g => W2.heap.size ≤ g ∧ g ∉ [ub]) wc [.string (strOf nm), .int .i64 ver, .slice q1 m1 c1, .int .i64 fu, .slice q2 m2 c2] ⟨nm, ver, lu, fu, lp⟩) := Lib.hid ⟨_, _, rfl, HL.out.old HROW3.out, HL.out.prow⟩
      have HO := Lib.hid (seq_unG HSQ6.out HOL1.out HOF.out HOL2.out)
      have HX5 := Lib.hid (HL.out.rw.own (ub, [.string (strOf nm), .int .i64 ver, .slice q1 m1 c1, .int .i64 fu, .slice q2 m2 c2]) (by simp)).1
      have HLF : Hid (w.heap.size + 1 ≤ W1.heap.size ∧ W1.heap.size + 1 ≤ W2.heap.size) := Lib.hid (by have := HSS.out; omega)
      have HB5 : Hid (Below w.heap.size w wc) := Lib.hid (HL.out.rw.only.below HB2.out (fun i hi => by have hi' : i = W1.heap.size := hi; have := HLF.out; omega) (Nat.le_refl _))
      have HE5 : Hid (EB wc w.heap.size [.string ⟨#[]⟩, .int .i64 0, .slice none 0 0, .int .i64 0, .slice none 0 0]) := Lib.hid (HE2.out.of_block (HL.out.rw.only.block _ HE2.out.lt (fun h => by have h' : w.heap.size = W1.heap.size := h; have := HLF.out; omega)) HL.out.rw.only.size)
      have cS : wc.cell? ⟨W1.heap.size, 2, none⟩ = some (.bool b1) := SH.out wc k1 b1 HL.out.rw.st
      clear HL HOL1 HOL2 HOF HSQ6 HROW3 HR8 HR9 HD1 HD2 HB2 HE2 NR TR PRO SH
      generalize hcs : ([.string (strOf nm), .int .i64 ver, .slice q1 m1 c1, .int .i64 fu, .slice q2 m2 c2] : List Value) = cs at HX5 HUL
      have hl5 : cs.length = 5 := by rw [← hcs]; rfl
      have HL5 := Lib.hid hl5
      have HONE : Hid (cs.toArray.all (·.oneCell') = true) := Lib.hid (by rw [← hcs]; exact un_one5 _ _ _)
      have HUI := Lib.hid (u_info cs hl5)
      have HUIA : Hid ((Tryd.prog.info? 25).map (·.size) = some cs.toArray.size) := Lib.hid HUI.out
      have HZI : Hid ((Tryd.prog.info? 25).map (·.size) = some ([.string ⟨#[]⟩, .int .i64 0, .slice none 0 0, .int .i64 0, .slice none 0 0] : List Value).length) := Lib.hid (by kernel_rfl)
      obtain ⟨u, hu⟩ : ∃ u : Un, u = ⟨nm, ver, lu, fu, lp⟩ := ⟨_, rfl⟩
      rw [← hu] at HUL HO
      clear hcs hu hl5
      have HZ := Lib.hid (HE5.out.set [.string ⟨#[]⟩, .int .i64 0, .slice none 0 0, .int .i64 0, .slice none 0 0] rfl)
      have HBZ : Hid (Below w.heap.size w (wc.setCells w.heap.size 0 ([.string ⟨#[]⟩, .int .i64 0, .slice none 0 0, .int .i64 0, .slice none 0 0] : List Value))) := Lib.hid (below_setCells HB5.out _ (Nat.le_refl _) _ _ _ HB5.out)
      have HRM : Hid (wc.there w.heap.size 0 ([.string ⟨#[]⟩, .int .i64 0, .slice none 0 0, .int .i64 0, .slice none 0 0] : List Value).toArray.size) := Lib.hid HE5.out.room
      cases b1 with
      | true =>
        have hnone : rdUn id s = none := by
          rcases HO.out.go rfl with ⟨-, e⟩ | ⟨e, -⟩
          · cases e
          · rwa [List.drop_zero] at e
        have hp : parseU id s = (Un.zero, 2) := by unfold parseU; rw [hnone]
        have HPP := Lib.hid hp
        clear HO hnone hp HUL HX5
        go_wp2_with (refine wpList_store_mid rfl 25 (.tmp 2) (.tmp 80) rfl w.heap.size 0 ([.string ⟨#[]⟩, .int .i64 0, .slice none 0 0, .int .i64 0, .slice none 0 0] : List Value).toArray rfl rfl HRM.out (by kernel_rfl) (by simp [Value.oneCell']) ?_; generalize World.setCells _ _ _ _ = W9 at HZ HBZ ⊢)
        refine bodyPost_ret (results_cell2 rfl _ _ rfl HZ.out.cells Tryd.underlying25 rfl HZI.out) rfl ?_
        rw [HPP.out]
        exact ⟨_, rfl, uc_zero _ _, HBZ.out⟩
      | false =>
        obtain ⟨t, hsome⟩ : ∃ t, rdUn id s = some (u, t) := by
          rcases HO.out.go rfl with ⟨e, -⟩ | ⟨-, e⟩
          · rw [List.drop_zero] at e; exact ⟨_, e⟩
          · cases e
        have hp : parseU id s = if unB u = true ∧ encUn u = s then (u, 0) else (Un.zero, 4) := by unfold parseU; rw [hsome]
        have UB0 := rbuild_un wc HUL.out (all_smU id s u t hsome)
        have HBU : Hid (buildU u = if unB u then (encUn u, 0) else ([], 4)) := Lib.hid rfl
        have HXM : Hid (∀ g, (W2.heap.size ≤ g ∧ g ∉ [ub]) → w.heap.size < g) := Lib.hid (fun g hg => by have := HLF.out; have := hg.1; omega)
        cases hr : unB u with
        | false =>
          have hb4 : buildU u = ([], 4) := by rw [HBU.out, hr]; rfl
          rw [hb4] at UB0
          have UB : Hid (Calls Tryd.prog 11 #[.agg cs.toArray] wc fun e w' => e = .returned (.tuple #[.string ⟨#[]⟩, .int .i64 4]) ∧ Below wc.heap.size wc w') := Lib.hid UB0
          rw [hr, if_neg (by simp)] at hp
          have HPP := Lib.hid hp
          clear UB0 hp hr hb4 hsome HBU HZ HBZ HRM HO
          go_wp2_with (refine wpList_load_mid rfl 25 (.tmp 5) rfl ub 0 rfl cs _ HX5.out.cells Tryd.underlying25 rfl HUI.out ?_)
          refine UB.out.mono ?_
          rintro e W6 ⟨rfl, hb⟩
          have HE6 := Lib.hid (HE5.out.of_block (hb.block _ HE5.out.lt) hb.size)
          have HB6 := Lib.hid (chain2 HB5.out hb)
          have HZ := Lib.hid (HE6.out.set [.string ⟨#[]⟩, .int .i64 0, .slice none 0 0, .int .i64 0, .slice none 0 0] rfl)
          have HBZ : Hid (Below w.heap.size w (W6.setCells w.heap.size 0 ([.string ⟨#[]⟩, .int .i64 0, .slice none 0 0, .int .i64 0, .slice none 0 0] : List Value))) := Lib.hid (below_setCells HB6.out _ (Nat.le_refl _) _ _ _ HB6.out)
          have HRM : Hid (W6.there w.heap.size 0 ([.string ⟨#[]⟩, .int .i64 0, .slice none 0 0, .int .i64 0, .slice none 0 0] : List Value).toArray.size) := Lib.hid HE6.out.room
          clear hb UB
          go_wp2_with (refine wpList_store_mid rfl 25 (.tmp 2) (.tmp 93) rfl w.heap.size 0 ([.string ⟨#[]⟩, .int .i64 0, .slice none 0 0, .int .i64 0, .slice none 0 0] : List Value).toArray rfl rfl HRM.out (by kernel_rfl) (by simp [Value.oneCell']) ?_; generalize World.setCells _ _ _ _ = W9 at HZ HBZ ⊢)
          refine bodyPost_ret (results_cell2 rfl _ _ rfl HZ.out.cells Tryd.underlying25 rfl HZI.out) rfl ?_
          rw [HPP.out]
          exact ⟨_, rfl, uc_zero _ _, HBZ.out⟩
        | true =>
          have hb4 : buildU u = (encUn u, 0) := by rw [HBU.out, hr]; rfl
          rw [hb4] at UB0
          have UB : Hid (Calls Tryd.prog 11 #[.agg cs.toArray] wc fun e w' => e = .returned (.tuple #[.string (strOf (encUn u)), .int .i64 0]) ∧ Below wc.heap.size wc w') := Lib.hid UB0
          have hcmp : ((strOf (encUn u)).toList == ss.toList) = decide (encUn u = s) := by rw [HSTR.out]; exact Lx.str_beq _ _
          have hcm2 : ((strOf (encUn u)).toList != ss.toList) = !decide (encUn u = s) := by rw [bne, hcmp]
          by_cases he : encUn u = s
          · rw [hr, if_pos ⟨rfl, he⟩] at hp
            have HPP := Lib.hid hp
            rw [decide_eq_true he] at hcmp hcm2
            generalize strOf (encUn u) = es at *
            clear UB0 hp hr hb4 hsome HBU he HZ HBZ HRM HO
            go_wp2_with (refine wpList_load_mid rfl 25 (.tmp 5) rfl ub 0 rfl cs _ HX5.out.cells Tryd.underlying25 rfl HUI.out ?_)
            refine UB.out.mono ?_
            rintro e W6 ⟨rfl, hb⟩
            have HE6 := Lib.hid (HE5.out.of_block (hb.block _ HE5.out.lt) hb.size)
            have HB6 := Lib.hid (chain2 HB5.out hb)
            have HX6 := Lib.hid (HX5.out.of_block (hb.block _ HX5.out.lt) hb.size)
            have HUC6 := Lib.hid (HUL.out.later hb)
            have HZ := Lib.hid (HE6.out.set cs (by rw [HL5.out]; rfl))
            have HRM6 : Hid (W6.there w.heap.size 0 cs.toArray.size) := Lib.hid (by have := HE6.out.room; rwa [show ([.string ⟨#[]⟩, .int .i64 0, .slice none 0 0, .int .i64 0, .slice none 0 0] : List Value).length = cs.toArray.size by simp [HL5.out]] at this)
            have HBZ : Hid (Below w.heap.size w (W6.setCells w.heap.size 0 cs)) := Lib.hid (below_setCells HB6.out _ (Nat.le_refl _) _ _ _ HB6.out)
            have HUC7 : Hid (UC (fun g => w.heap.size ≤ g) (W6.setCells w.heap.size 0 cs) cs u) := Lib.hid ((HUC6.out.keep (keeps_all (g := w.heap.size) (vs := cs) (fun hx => by have := HXM.out _ hx; omega))).weaken (fun g hg _ => by have := HXM.out _ hg; show w.heap.size ≤ g; omega))
            clear hb UB HX5 HE5 HB5 HUL
            go_wp2_with (first
              | (refine wpList_load_mid rfl 25 (.tmp 5) rfl ub 0 rfl cs _ HX6.out.cells Tryd.underlying25 rfl HUI.out ?_)
              | (refine wpList_store_mid rfl 25 (.tmp 2) (.tmp 94) rfl w.heap.size 0 cs.toArray rfl rfl HRM6.out HUIA.out HONE.out ?_; generalize World.setCells _ _ _ _ = W9 at HZ HBZ HUC7 ⊢))
            refine bodyPost_ret (results_cell2 rfl _ _ rfl HZ.out.cells Tryd.underlying25 rfl HUI.out) rfl ?_
            rw [HPP.out]
            exact ⟨_, rfl, HUC7.out, HBZ.out⟩
          · rw [hr, if_neg (fun k => he k.2)] at hp
            have HPP := Lib.hid hp
            rw [decide_eq_false he] at hcmp hcm2
            generalize strOf (encUn u) = es at *
            clear UB0 hp hr hb4 hsome HBU he HZ HBZ HRM HO
            go_wp2_with (refine wpList_load_mid rfl 25 (.tmp 5) rfl ub 0 rfl cs _ HX5.out.cells Tryd.underlying25 rfl HUI.out ?_)
            refine UB.out.mono ?_
            rintro e W6 ⟨rfl, hb⟩
            have HE6 := Lib.hid (HE5.out.of_block (hb.block _ HE5.out.lt) hb.size)
            have HB6 := Lib.hid (chain2 HB5.out hb)
            have HZ := Lib.hid (HE6.out.set [.string ⟨#[]⟩, .int .i64 0, .slice none 0 0, .int .i64 0, .slice none 0 0] rfl)
            have HBZ : Hid (Below w.heap.size w (W6.setCells w.heap.size 0 ([.string ⟨#[]⟩, .int .i64 0, .slice none 0 0, .int .i64 0, .slice none 0 0] : List Value))) := Lib.hid (below_setCells HB6.out _ (Nat.le_refl _) _ _ _ HB6.out)
            have HRM : Hid (W6.there w.heap.size 0 ([.string ⟨#[]⟩, .int .i64 0, .slice none 0 0, .int .i64 0, .slice none 0 0] : List Value).toArray.size) := Lib.hid HE6.out.room
            clear hb UB
            go_wp2_with (refine wpList_store_mid rfl 25 (.tmp 2) (.tmp 93) rfl w.heap.size 0 ([.string ⟨#[]⟩, .int .i64 0, .slice none 0 0, .int .i64 0, .slice none 0 0] : List Value).toArray rfl rfl HRM.out (by kernel_rfl) (by simp [Value.oneCell']) ?_; generalize World.setCells _ _ _ _ = W9 at HZ HBZ ⊢)
            refine bodyPost_ret (results_cell2 rfl _ _ rfl HZ.out.cells Tryd.underlying25 rfl HZI.out) rfl ?_
            rw [HPP.out]
            exact ⟨_, rfl, uc_zero _ _, HBZ.out⟩

end Go.Proofs.YtmloljfnnkfkjaaDoor.Im

