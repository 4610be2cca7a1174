/- The walk of DiskLasts: it returns true. No condition but those that each states. -/
import Derived.Test.YtepipdikglabaaaDkLaS
namespace Go.Proofs.Ytepipdikglabaaa.Dk
open Go.RowKit

theorem str_info : (Try.prog.info? 9).map (fun i => (i.zero, i.size, i.bytes)) = some (some (.string ByteArray.empty), 1, 16) := by kernel_rfl

/-- A slice of bytes: none, or a row of them. -/
def BytesAt (w : World) (pa : Option Addr) (len : Nat) : Prop := len = 0 ∨ ∃ b off, pa = some ⟨b, off, none⟩ ∧ b < w.heap.size ∧ ∀ j, j < len → ∃ B : Nat, B < 256 ∧ w.cell? ⟨b, off + j, none⟩ = some (.int .u8 (B : Int))

set_option maxHeartbeats 8000000 in
set_option maxRecDepth 100000 in
theorem lasts_any (pa pb : Option Addr) (la ca lb cb m : Nat) (hm : m < 2 ^ 64) (w : World) (hla : la ≤ maxLen) (hlb : lb ≤ maxLen) (ha : BytesAt w pa la) (hb : BytesAt w pb lb) :
    Calls Try.prog 4 #[.slice pa la ca, .slice pb lb cb, .int .u64 (m : Int)] w fun e w' => e = .returned (.bool true) ∧ Below w.heap.size w w' := by
  have HA := Lib.hid ha
  have HB := Lib.hid hb
  clear ha hb
  unfold maxLen at hla hlb
  have hz := zero_array
  have hz2 := zero_array2
  obtain ⟨i0, hi0, hy0, hy1, hy2⟩ := info_parts str_info
  have CA : ∀ W, Calls Try.prog 17 #[.int .u8 0] W fun e w' => e = .returned (.string (strOf zeroB)) ∧ Below W.heap.size W w' := full_any 0
  have cz := Lib.hid CA
  clear CA
  go_enter Try.func4, Try.ntmps4
  go_wp2_with fail
  refine (new_dk 16 (by decide) (by decide) w).mono ?_
  rintro e w1 ⟨rfl, hd1⟩
  have HL := Lib.hid (laW_new hd1 43 44)
  have hse : (w1.alloc (.cells (List.replicate 16 (Value.string ByteArray.empty)).toArray 43)).heap.size = w1.heap.size + 1 := by simp
  clear hd1
  generalize (List.replicate 16 (Value.string ByteArray.empty)).toArray = Z at hz HL hse
  generalize (List.replicate 16 (Value.slice none 0 0)).toArray = Z2 at hz2 HL
  go_wp2_with fail
  generalize (w1.alloc (Obj.cells Z 43)).alloc (Obj.cells Z2 44) = w2 at *
  generalize w1.heap.size + 1 = B at *
  generalize w1.heap.size = A at *
  generalize hF : (fun k => w.heap.size ≤ k ∧ (k < A ∨ A + 2 ≤ k)) = F0 at HL
  clear hz hz2 hse hF
  go_loopw [11] (fun vi wr => ∃ (j : Nat) (f : Nat → Bytes), j ≤ 16 ∧ vi = .int .i64 j ∧ Hid (LaW w wr A B (w.heap.size + 2) F0 (new 16) f (fun _ => .slice none 0 0) (fun _ => []) ∧ ∀ i, i < j → f i = zeroB)) (fun vi _ => 16 - (intOf vi).toNat)
  case atStart => exact ⟨0, _, Nat.zero_le _, rfl, HL.out, fun i hi => absurd hi (Nat.not_lt_zero i)⟩
  case round =>
    clear HL
    obtain ⟨j, f, hj, rfl, hI⟩ := hrel
    by_cases hlt : j < 16
    · have z0 : (0 : Int) ≤ (j : Int) := by omega
      have z1 : (j : Int) < 16 := by omega
      go_wp2_with fail
      refine (cz.out wr).mono ?_
      rintro e w3 ⟨rfl, hb⟩
      have hI3 := hI.out.1.later hb
      have ck := hI3.arr.cell j hlt
      have fk := hI3.arr.free j hlt
      have HN : Hid (LaW w (w3.setCell ⟨A, j, none⟩ (.string (strOf zeroB))) A B (w.heap.size + 2) F0 (new 16) (fun i => if i = j then zeroB else f i) (fun _ => .slice none 0 0) (fun _ => []) ∧ ∀ i, i < j + 1 → (if i = j then zeroB else f i) = zeroB) := Lib.hid ⟨hI3.set j zeroB, fun i hi => by
        by_cases e : i = j
        · rw [if_pos e]
        · rw [if_neg e]; exact hI.out.2 i (by omega)⟩
      clear hb hI3
      go_wp2
      clear ck fk
      go_roundw
      case rel => exact ⟨j + 1, _, by omega, by go_num, HN⟩
      case measure => simp [intOf]; omega
    · obtain rfl : j = 16 := by omega
      have HS : Hid (LaW w wr A B (w.heap.size + 2) F0 (new 16) f (fun _ => .slice none 0 0) (fun _ => []) ∧ LaOne (new 16) f 0) := Lib.hid ⟨hI.out.1, laOne_new hI.out.2⟩
      clear hI hlt hj cz
      rw [show ((16 : Nat) : Int) = 16 from rfl]
      go_wp2
      go_loopw [12] (fun vi wr => ∃ (i : Nat) (T : DS) (last : Nat → Bytes), i ≤ 40 ∧ vi = .int .i64 i ∧ Hid (LaW w wr A B (w.heap.size + 2) F0 T last (fun _ => .slice none 0 0) (fun _ => []) ∧ LaOne T last i)) (fun vi _ => 40 - (intOf vi).toNat)
      case atStart => exact ⟨0, _, _, Nat.zero_le _, rfl, HS⟩
      case round =>
        clear HS
        obtain ⟨i, T, last, hi, rfl, hI⟩ := hrel
        have z0 : (0 : Int) ≤ (i : Int) := by omega
        by_cases hlen : i < la
        · by_cases h40 : i < 40
          · obtain h0 | ⟨b, off, rfl, hbl, hbc⟩ := HA.out
            · omega
            obtain ⟨X, hX, cX⟩ := hbc i hlen
            have cb := (hI.out.1.dk.below.cell (p := ⟨b, off + i, none⟩) hbl).trans cX
            have z1 : (i : Int) < (la : Int) := by omega
            have z2 : (i : Int) < 40 := by omega
            have z3 : (X : Int) < 256 := by omega
            have ec : (((UInt8.ofNat i).toNat : Nat) : Int) = (i : Int) := by rw [UInt8.toNat_ofNat']; omega
            have CF := fun W => full_any (UInt8.ofNat i) W
            rw [ec] at CF
            have hsl := fullB_length (UInt8.ofNat i)
            generalize fullB (UInt8.ofNat i) = sb at CF hsl
            have HSL := Lib.hid hsl
            have cf := Lib.hid CF
            obtain ⟨k, hk⟩ : ∃ k : Nat, (X : Int) % 16 = (k : Int) := ⟨X % 16, by simp⟩
            have hk16 : k < 16 := by omega
            have y0 : (0 : Int) ≤ (k : Int) := by omega
            have y1 : (k : Int) < 16 := by omega
            clear ec CF hsl hbc cX hX
            go_wp2_with fail
            refine (cf.out wr).mono ?_
            rintro e w3 ⟨rfl, hb3⟩
            have h3 := hI.out.1.later hb3
            have ck := h3.arr.cell k hk16
            have fk := h3.arr.free k hk16
            have H4 := Lib.hid (h3.set k sb)
            have c4 := H4.out.arr.cell k hk16
            rw [if_pos rfl] at c4
            have HT := Lib.hid (hI.out.2.put k hk16 sb)
            have HT0 := Lib.hid hI.out.2
            clear hb3 h3 cb hI
            go_wp2_with fail
            clear ck fk c4
            generalize World.setCell w3 _ _ = w4 at H4 ⊢
            have hTc := HT0.out.c
            have hTo := HT0.out.ops
            have hTL := HT0.out.L
            have CW := dk_write k sb w4 H4.out.dk HT0.out.on (by rw [hTL]; exact hk16) HSL.out (by omega) (by omega)
            rw [HT.out.2] at CW
            refine CW.mono ?_
            clear CW hTc hTo hTL
            rintro e w5 ⟨rfl, hd5, ho5⟩
            have HN := Lib.hid (And.intro (H4.out.next hd5 ho5) HT.out.1)
            clear H4 hd5 ho5 hk HT0 HT
            go_wp2
            go_roundw
            case rel => exact ⟨i + 1, _, _, by omega, by go_num, HN⟩
            case measure => simp [intOf]; omega
          · obtain rfl : i = 40 := by omega
            have t40 : decide ((40 : Int) < (la : Int)) = true := decide_eq_true (by omega)
            rw [show ((40 : Nat) : Int) = 40 from rfl]
            have HT := Lib.hid (hI.out.2.sync hi (M := fun _ => []) (fun _ => rfl))
            have HT0 := Lib.hid hI.out.2
            have HI := Lib.hid hI.out.1
            clear hI
            have hTc := HT0.out.c
            have hTo := HT0.out.ops
            go_wp2_with fail
            have CS := dk_sync wr HI.out.dk HT0.out.on (by omega) (by omega)
            rw [HT.out.2] at CS
            refine CS.mono ?_
            clear CS hTc hTo
            rintro e v1 ⟨rfl, hd1, ho1⟩
            have HS : Hid (LaW w v1 A B (w.heap.size + 2) F0 T.sync.1 last (fun _ => .slice none 0 0) (fun _ => []) ∧ LaTwo T.sync.1 last (fun _ => []) 0) := Lib.hid ⟨HI.out.next hd1 ho1, HT.out.1⟩
            have CW := waits_at v1 hd1.here
            rw [HT.out.1.W] at CW
            replace CW : Calls Try.prog 14 #[.pointer (some ⟨w.heap.size + 2, 0, none⟩)] v1 fun e w' => e = .returned (.int .i64 0) ∧ v1 = w' := CW
            have cw := Lib.hid CW
            clear CW hd1 ho1 HI HT0 HT
            go_wp2_with (first | (go_at_call 14; refine cw.out.mono ?_; rintro e w' ⟨rfl, rfl⟩))
            clear cw
            go_loopw [14] (fun vi wr => ∃ (i : Nat) (T : DS) (F : Nat → Prop) (V : Nat → Value) (M : Nat → List Bytes), i ≤ 100 ∧ vi = .int .i64 i ∧ Hid (LaW w wr A B (w.heap.size + 2) F T last V M ∧ LaTwo T last M i)) (fun vi _ => 100 - (intOf vi).toNat)
            case atStart => exact ⟨0, _, _, _, _, Nat.zero_le _, rfl, HS⟩
            case round =>
              clear HS
              obtain ⟨i, T, F, V, M, hi, rfl, hI⟩ := hrel
              have z0 : (0 : Int) ≤ (i : Int) := by omega
              by_cases hlen : i < lb
              · by_cases h40 : i < 100
                · obtain h0 | ⟨b, off, rfl, hbl, hbc⟩ := HB.out
                  · omega
                  obtain ⟨X, hX, cX⟩ := hbc i hlen
                  have cb := (hI.out.1.dk.below.cell (p := ⟨b, off + i, none⟩) hbl).trans cX
                  have z1 : (i : Int) < (lb : Int) := by omega
                  have z2 : (i : Int) < 100 := by omega
                  have z3 : (X : Int) < 256 := by omega
                  have ec : (((UInt8.ofNat (100 + i)).toNat : Nat) : Int) = 100 + (i : Int) := by rw [UInt8.toNat_ofNat']; omega
                  have CF := fun W => full_any (UInt8.ofNat (100 + i)) W
                  rw [ec] at CF
                  have hsl := fullB_length (UInt8.ofNat (100 + i))
                  generalize fullB (UInt8.ofNat (100 + i)) = sb at CF hsl
                  have HSL := Lib.hid hsl
                  have cf := Lib.hid CF
                  obtain ⟨k, hk⟩ : ∃ k : Nat, (X : Int) % 16 = (k : Int) := ⟨X % 16, by simp⟩
                  have hk16 : k < 16 := by omega
                  have y0 : (0 : Int) ≤ (k : Int) := by omega
                  have y1 : (k : Int) < 16 := by omega
                  clear ec CF hsl hbc cX hX
                  go_wp2_with fail
                  refine (cf.out wr).mono ?_
                  rintro e w3 ⟨rfl, hb3⟩
                  have H3 := Lib.hid (hI.out.1.later hb3)
                  have HT := Lib.hid (hI.out.2.put k sb)
                  have HT0 := Lib.hid hI.out.2
                  have ck := H3.out.may.cell k hk16
                  have hfew := hI.out.2.few k
                  have HROW := Lib.hid (H3.out.may.row k hk16)
                  have HPUSH : Hid (∀ (W7 : World) (o : Obj) (g' cap n : Nat), n = (M k).length → _) := Lib.hid (fun W7 o g' cap n hn hrow hgr hg hlt => H3.out.push (W7 := W7) (o := o) (g' := g') (cap := cap) (n := n) k hk16 sb hn hrow hgr hg hlt)
                  have HFC : Hid (∀ (W7 : World) (o : Obj) , (w3.alloc o).grownBy W7 (V k).ownBlock → W7.cell? ⟨B, k, none⟩ = some (V k) ∧ W7.frozen? ⟨B, k, none⟩ = false) := Lib.hid (fun W7 o hgr => by
                    have hB := H3.out.may.lt
                    have hne : some B ≠ (V k).ownBlock := fun e => (H3.out.may.blk k hk16 B e.symm).2.2.2.1 rfl
                    have e := (hgr.block B (by simp; omega) hne).trans (Below.heap_alloc w3 _ B hB)
                    exact ⟨(World.cell?_of_block (a := ⟨B, k, none⟩) e).trans (H3.out.may.cell k hk16), (World.frozen?_of_block (a := ⟨B, k, none⟩) e).trans (H3.out.may.free k hk16)⟩)
                  generalize hU : V k = U at ck HROW HPUSH HFC
                  generalize hn : (M k).length = n at HROW HPUSH hfew
                  have HB63 : Hid (n + 1 ≤ maxLen) := Lib.hid (by unfold maxLen; omega)
                  have HB47 : Hid ((n + 1) * 16 ≤ 140737488355328) := Lib.hid (by omega)
                  clear hb3 cb hI hfew hn hU
                  go_wp2_with (first
                    | (refine wpList_append_lies _ rfl _ _ 36 rfl 0 9 i0 (.string ByteArray.empty) 1 16 Try.underlying36 hi0 hy0 hy1 hy2 rfl (by decide) U n (strs (M k)) rfl (HROW.out.alloc _) ⟨w3.heap.size, 0, none⟩ 1 1 [.string (strOf sb)] rfl rfl (news_at w3 _ _) (fun u hu => by simp at hu; subst hu; rfl) (by decide) HB63.out HB47.out (Nat.zero_le _) (w3.heap.size + 1) (by simp) ?_; intro g' cap W7 hrow hgr hgl hlt7
                       obtain ⟨c7, f7⟩ := HFC.out W7 _ hgr
                       have H8 := Lib.hid (HPUSH.out W7 _ g' cap n rfl hrow hgr hgl hlt7)
                       clear hrow hgr hgl hlt7))
                  clear c7 f7 ck
                  generalize World.setCell W7 _ _ = W8 at H8 ⊢
                  have hTc := HT0.out.c
                  have hTo := HT0.out.ops
                  have hTL := HT0.out.L
                  have CW := dk_write k sb W8 H8.out.dk HT0.out.on (by rw [hTL]; exact hk16) HSL.out (by omega) (by omega)
                  rw [HT.out.2.1] at CW
                  refine CW.mono ?_
                  clear CW hTc hTo hTL
                  rintro e W9 ⟨rfl, hd9, ho9⟩
                  have H9 := Lib.hid (H8.out.next hd9 ho9)
                  have hTc := HT.out.1.c
                  have hTL := HT.out.1.L
                  have CR := dk_read k W9 hd9 HT.out.1.on (by rw [hTL]; exact hk16) (by omega)
                  rw [HT.out.2.2] at CR
                  have cr := Lib.hid CR
                  have HT1 := Lib.hid HT.out.1
                  clear H8 hd9 ho9 CR hTc hTL HT0 HT
                  generalize (T.write k sb).1 = T1 at H9 cr HT1
                  generalize strOf sb = Y at cr ⊢
                  go_wp2_with fail
                  refine cr.out.mono ?_
                  rintro e W10 ⟨rfl, hd10, hb10⟩
                  have HN := Lib.hid (And.intro (H9.out.later hb10) HT1.out)
                  clear H9 hd10 hb10 cr hk HT1
                  go_wp2
                  go_roundw
                  case rel => exact ⟨i + 1, _, _, _, _, by omega, by go_num, HN⟩
                  case measure => simp [intOf]; omega
                · obtain rfl : i = 100 := by omega
                  have t40 : decide ((100 : Int) < (lb : Int)) = true := decide_eq_true (by omega)
                  rw [show ((100 : Nat) : Int) = 100 from rfl]
                  have HE := Lib.hid (hI.out.2.fail hi m)
                  have HI := Lib.hid hI.out.1
                  have hTc := hI.out.2.c
                  have HFEW : Hid (∀ q, (M q).length ≤ 100) := Lib.hid (fun q => Nat.le_trans (hI.out.2.few q) hi)
                  clear hI
                  go_wp2_with fail
                  refine (dk_fail m wr HI.out.dk hm (by omega)).mono ?_
                  rintro e v2 ⟨rfl, hd2, ho2⟩
                  have H2 := Lib.hid (HI.out.next hd2 ho2)
                  have CO := on_at v2 hd2.here
                  rw [HE.out.1] at CO
                  have co := Lib.hid CO
                  clear HI hd2 ho2 CO hTc
                  go_wp2_with (first | (go_at_call 12; refine co.out.mono ?_; rintro e w' ⟨rfl, rfl⟩))
                  clear co
                  refine (dk_start v2 H2.out.dk).mono ?_
                  rintro e v3 ⟨rfl, hd3, ho3⟩
                  have H3 := Lib.hid (H2.out.next hd3 ho3)
                  have HX := Lib.hid HE.out.2
                  clear H2 hd3 ho3 HE
                  generalize (T.fail m).start = T2 at H3 HX
                  go_wp2
                  go_loopw [19] (fun vi wr => ∃ q : Nat, q ≤ 16 ∧ vi = .int .i64 q ∧ Hid (LaW w wr A B (w.heap.size + 2) F T2 last V M)) (fun vi _ => 16 - (intOf vi).toNat)
                  case atStart => exact ⟨0, Nat.zero_le _, rfl, H3.out⟩
                  case round =>
                    clear H3
                    obtain ⟨q, hq, rfl, hJ⟩ := hrel
                    by_cases hlq : q < 16
                    · have y0 : (0 : Int) ≤ (q : Int) := by omega
                      have y1 : (q : Int) < 16 := by omega
                      have cr := Lib.hid (dk_read q wr hJ.out.dk HX.out.on (by rw [HX.out.L]; exact hlq) (by have := HX.out.c; omega))
                      obtain ⟨n, hn⟩ : ∃ n, n = (M q).length := ⟨_, rfl⟩
                      have HONE : Hid (strOf (T2.read q) = strOf (last q) ∨ ∃ (p : Nat) (z : Bytes), p < n ∧ (M q)[p]? = some z ∧ strOf (T2.read q) = strOf z) := Lib.hid (by
                        rcases HX.out.one q hlq with e | ⟨p, hp, e⟩
                        · exact .inl (by rw [e])
                        · exact .inr ⟨p, _, hn ▸ hp, e, rfl⟩)
                      have HZER : Hid (m = 0 → strOf (T2.read q) = strOf (last q)) := Lib.hid (fun e => by rw [HX.out.zero e q hlq])
                      generalize hx : strOf (T2.read q) = x at cr HONE HZER
                      generalize hy : strOf (last q) = y at HONE HZER
                      clear hx
                      go_wp2_with fail
                      refine cr.out.mono ?_
                      rintro e v4 ⟨rfl, hd4, hb4⟩
                      have H4 := Lib.hid (hJ.out.later hb4)
                      have cq := H4.out.arr.cell q hlq
                      rw [hy] at cq
                      obtain ⟨ok0, e1⟩ : ∃ ok0, (x.toList == y.toList) = ok0 := ⟨_, rfl⟩
                      have HK0 : Hid (x = y → ok0 = true) := Lib.hid (fun e => by rw [← e1, e]; simp)
                      clear hd4 hb4 cr hJ
                      go_wp2
                      clear cq e1
                      go_loopw [22, 23] (fun vo vj wr => ∃ (j : Nat) (ok : Bool), j ≤ n ∧ vj = .int .i64 j ∧ vo = .bool ok ∧ Hid (LaW w wr A B (w.heap.size + 2) F T2 last V M) ∧ Hid ((x = y → ok = true) ∧ ∀ p, p < j → ∀ z, (M q)[p]? = some z → x = strOf z → ok = true)) (fun _ vj _ => n - (intOf vj).toNat)
                      case atStart => exact ⟨0, ok0, Nat.zero_le _, rfl, rfl, H4, HK0.out, fun p hp => absurd hp (Nat.not_lt_zero p)⟩
                      case round =>
                        clear H4 HK0
                        obtain ⟨j, ok, hj, rfl, rfl, hJ, hK⟩ := hrel
                        have hrow := hJ.out.may.row q hlq
                        rw [← hn] at hrow
                        obtain ⟨pq, cq, hvq⟩ : ∃ pq cq, V q = .slice pq n cq := by
                          rcases hrow.2 with ⟨h, h0⟩ | ⟨g0, c0, cur, h, _⟩
                          · exact ⟨none, 0, by rw [h, h0]⟩
                          · exact ⟨_, _, h⟩
                        have cB := hJ.out.may.cell q hlq
                        rw [hvq] at cB hrow
                        by_cases hjn : j < n
                        · have u0 : (0 : Int) ≤ (j : Int) := by omega
                          have u1 : (j : Int) < (n : Int) := by omega
                          have hn100 := HFEW.out q
                          rw [← hn] at hn100
                          have u2 : (n : Int) ≤ 100 := by omega
                          cases ok with
                          | true =>
                            have HN : Hid ((x = y → true = true) ∧ ∀ p, p < j + 1 → ∀ z, (M q)[p]? = some z → x = strOf z → true = true) := Lib.hid ⟨fun _ => rfl, fun _ _ _ _ _ => rfl⟩
                            clear hrow
                            go_wp2
                            clear cB
                            go_roundw
                            case rel => exact ⟨j + 1, true, by omega, by go_num, rfl, hJ, HN⟩
                            case measure => simp [intOf]; omega
                          | false =>
                            obtain ⟨g0, rfl⟩ : ∃ g0, pq = some ⟨g0, 0, none⟩ := by
                              rcases hrow.2 with ⟨h, h0⟩ | ⟨g0, c0, cur, h, _⟩
                              · omega
                              · cases h; exact ⟨g0, rfl⟩
                            obtain ⟨z, hz⟩ : ∃ z, (M q)[j]? = some z := ⟨_, List.getElem?_eq_getElem (by omega)⟩
                            have cz := ownsRow_range hrow j (.string (strOf z)) (by simp [strs, hz])
                            have cz2 := cz
                            rw [Nat.zero_add] at cz2
                            obtain ⟨ok1, e1⟩ : ∃ ok1, (x.toList == (strOf z).toList) = ok1 := ⟨_, rfl⟩
                            have HN : Hid ((x = y → ok1 = true) ∧ ∀ p, p < j + 1 → ∀ z, (M q)[p]? = some z → x = strOf z → ok1 = true) := Lib.hid ⟨fun e => absurd (hK.out.1 e) (by decide), fun p hp z' hz' e => by
                              by_cases ep : p = j
                              · subst ep
                                rw [hz] at hz'
                                cases hz'
                                rw [← e1, e]; simp
                              · exact absurd (hK.out.2 p (by omega) z' hz' e) (by decide)⟩
                            clear hrow hz
                            generalize strOf z = zz at *
                            go_wp2
                            clear cB cz cz2
                            go_roundw
                            case rel => exact ⟨j + 1, ok1, by omega, by go_num, rfl, hJ, HN⟩
                            case measure => simp [intOf]; omega
                        · obtain rfl : j = n := by omega
                          have hok : ok = true := by
                            rcases HONE.out with e | ⟨p, z, hp, hz, e⟩
                            · exact hK.out.1 e
                            · exact hK.out.2 p hp z hz e
                          subst hok
                          have cq := hJ.out.arr.cell q hlq
                          rw [hy] at cq
                          clear hrow hn hK HONE
                          by_cases hm0 : m = 0
                          · obtain rfl : x = y := HZER.out hm0
                            subst hm0
                            rw [show ((0 : Nat) : Int) = 0 from rfl]
                            go_wp2
                            clear cB cq
                            go_roundw
                            case rel => first | exact ⟨q + 1, by omega, by go_num, hJ⟩ | exact ⟨q + 1, by omega, by omega⟩
                            case measure => simp [intOf]; omega
                          · have m1 : ((m : Int) == 0) = false := by simpa using hm0
                            have m2 : decide ((m : Int) = 0) = false := decide_eq_false (by omega)
                            have m3 : (m == 0) = false := by simpa using hm0
                            have m4 : decide (m = 0) = false := decide_eq_false hm0
                            go_wp2
                            clear cB cq
                            go_roundw
                            case rel => first | exact ⟨q + 1, by omega, by go_num, hJ⟩ | exact ⟨q + 1, by omega, by omega⟩
                            case measure => simp [intOf]; omega
                    · obtain rfl : q = 16 := by omega
                      go_wp2_with fail
                      refine (known4 wr).mono ?_
                      rintro e v5 ⟨rfl, hb⟩
                      have HZ := Lib.hid (chain2 hJ.out.dk.below hb)
                      clear hb
                      go_wp2
                      go_ret
                      exact ⟨rfl, HZ.out⟩
              · have t0 : decide ((i : Int) < (lb : Int)) = false := decide_eq_false (by omega)
                have t0' : decide (i < lb) = false := decide_eq_false hlen
                have HE := Lib.hid (hI.out.2.fail hi m)
                have HI := Lib.hid hI.out.1
                have hTc := hI.out.2.c
                have HFEW : Hid (∀ q, (M q).length ≤ 100) := Lib.hid (fun q => Nat.le_trans (hI.out.2.few q) hi)
                clear hI
                go_wp2_with fail
                refine (dk_fail m wr HI.out.dk hm (by omega)).mono ?_
                rintro e v2 ⟨rfl, hd2, ho2⟩
                have H2 := Lib.hid (HI.out.next hd2 ho2)
                have CO := on_at v2 hd2.here
                rw [HE.out.1] at CO
                have co := Lib.hid CO
                clear HI hd2 ho2 CO hTc
                go_wp2_with (first | (go_at_call 12; refine co.out.mono ?_; rintro e w' ⟨rfl, rfl⟩))
                clear co
                refine (dk_start v2 H2.out.dk).mono ?_
                rintro e v3 ⟨rfl, hd3, ho3⟩
                have H3 := Lib.hid (H2.out.next hd3 ho3)
                have HX := Lib.hid HE.out.2
                clear H2 hd3 ho3 HE
                generalize (T.fail m).start = T2 at H3 HX
                go_wp2
                go_loopw [19] (fun vi wr => ∃ q : Nat, q ≤ 16 ∧ vi = .int .i64 q ∧ Hid (LaW w wr A B (w.heap.size + 2) F T2 last V M)) (fun vi _ => 16 - (intOf vi).toNat)
                case atStart => exact ⟨0, Nat.zero_le _, rfl, H3.out⟩
                case round =>
                  clear H3
                  obtain ⟨q, hq, rfl, hJ⟩ := hrel
                  by_cases hlq : q < 16
                  · have y0 : (0 : Int) ≤ (q : Int) := by omega
                    have y1 : (q : Int) < 16 := by omega
                    have cr := Lib.hid (dk_read q wr hJ.out.dk HX.out.on (by rw [HX.out.L]; exact hlq) (by have := HX.out.c; omega))
                    obtain ⟨n, hn⟩ : ∃ n, n = (M q).length := ⟨_, rfl⟩
                    have HONE : Hid (strOf (T2.read q) = strOf (last q) ∨ ∃ (p : Nat) (z : Bytes), p < n ∧ (M q)[p]? = some z ∧ strOf (T2.read q) = strOf z) := Lib.hid (by
                      rcases HX.out.one q hlq with e | ⟨p, hp, e⟩
                      · exact .inl (by rw [e])
                      · exact .inr ⟨p, _, hn ▸ hp, e, rfl⟩)
                    have HZER : Hid (m = 0 → strOf (T2.read q) = strOf (last q)) := Lib.hid (fun e => by rw [HX.out.zero e q hlq])
                    generalize hx : strOf (T2.read q) = x at cr HONE HZER
                    generalize hy : strOf (last q) = y at HONE HZER
                    clear hx
                    go_wp2_with fail
                    refine cr.out.mono ?_
                    rintro e v4 ⟨rfl, hd4, hb4⟩
                    have H4 := Lib.hid (hJ.out.later hb4)
                    have cq := H4.out.arr.cell q hlq
                    rw [hy] at cq
                    obtain ⟨ok0, e1⟩ : ∃ ok0, (x.toList == y.toList) = ok0 := ⟨_, rfl⟩
                    have HK0 : Hid (x = y → ok0 = true) := Lib.hid (fun e => by rw [← e1, e]; simp)
                    clear hd4 hb4 cr hJ
                    go_wp2
                    clear cq e1
                    go_loopw [22, 23] (fun vo vj wr => ∃ (j : Nat) (ok : Bool), j ≤ n ∧ vj = .int .i64 j ∧ vo = .bool ok ∧ Hid (LaW w wr A B (w.heap.size + 2) F T2 last V M) ∧ Hid ((x = y → ok = true) ∧ ∀ p, p < j → ∀ z, (M q)[p]? = some z → x = strOf z → ok = true)) (fun _ vj _ => n - (intOf vj).toNat)
                    case atStart => exact ⟨0, ok0, Nat.zero_le _, rfl, rfl, H4, HK0.out, fun p hp => absurd hp (Nat.not_lt_zero p)⟩
                    case round =>
                      clear H4 HK0
                      obtain ⟨j, ok, hj, rfl, rfl, hJ, hK⟩ := hrel
                      have hrow := hJ.out.may.row q hlq
                      rw [← hn] at hrow
                      obtain ⟨pq, cq, hvq⟩ : ∃ pq cq, V q = .slice pq n cq := by
                        rcases hrow.2 with ⟨h, h0⟩ | ⟨g0, c0, cur, h, _⟩
                        · exact ⟨none, 0, by rw [h, h0]⟩
                        · exact ⟨_, _, h⟩
                      have cB := hJ.out.may.cell q hlq
                      rw [hvq] at cB hrow
                      by_cases hjn : j < n
                      · have u0 : (0 : Int) ≤ (j : Int) := by omega
                        have u1 : (j : Int) < (n : Int) := by omega
                        have hn100 := HFEW.out q
                        rw [← hn] at hn100
                        have u2 : (n : Int) ≤ 100 := by omega
                        cases ok with
                        | true =>
                          have HN : Hid ((x = y → true = true) ∧ ∀ p, p < j + 1 → ∀ z, (M q)[p]? = some z → x = strOf z → true = true) := Lib.hid ⟨fun _ => rfl, fun _ _ _ _ _ => rfl⟩
                          clear hrow
                          go_wp2
                          clear cB
                          go_roundw
                          case rel => exact ⟨j + 1, true, by omega, by go_num, rfl, hJ, HN⟩
                          case measure => simp [intOf]; omega
                        | false =>
                          obtain ⟨g0, rfl⟩ : ∃ g0, pq = some ⟨g0, 0, none⟩ := by
                            rcases hrow.2 with ⟨h, h0⟩ | ⟨g0, c0, cur, h, _⟩
                            · omega
                            · cases h; exact ⟨g0, rfl⟩
                          obtain ⟨z, hz⟩ : ∃ z, (M q)[j]? = some z := ⟨_, List.getElem?_eq_getElem (by omega)⟩
                          have cz := ownsRow_range hrow j (.string (strOf z)) (by simp [strs, hz])
                          have cz2 := cz
                          rw [Nat.zero_add] at cz2
                          obtain ⟨ok1, e1⟩ : ∃ ok1, (x.toList == (strOf z).toList) = ok1 := ⟨_, rfl⟩
                          have HN : Hid ((x = y → ok1 = true) ∧ ∀ p, p < j + 1 → ∀ z, (M q)[p]? = some z → x = strOf z → ok1 = true) := Lib.hid ⟨fun e => absurd (hK.out.1 e) (by decide), fun p hp z' hz' e => by
                            by_cases ep : p = j
                            · subst ep
                              rw [hz] at hz'
                              cases hz'
                              rw [← e1, e]; simp
                            · exact absurd (hK.out.2 p (by omega) z' hz' e) (by decide)⟩
                          clear hrow hz
                          generalize strOf z = zz at *
                          go_wp2
                          clear cB cz cz2
                          go_roundw
                          case rel => exact ⟨j + 1, ok1, by omega, by go_num, rfl, hJ, HN⟩
                          case measure => simp [intOf]; omega
                      · obtain rfl : j = n := by omega
                        have hok : ok = true := by
                          rcases HONE.out with e | ⟨p, z, hp, hz, e⟩
                          · exact hK.out.1 e
                          · exact hK.out.2 p hp z hz e
                        subst hok
                        have cq := hJ.out.arr.cell q hlq
                        rw [hy] at cq
                        clear hrow hn hK HONE
                        by_cases hm0 : m = 0
                        · obtain rfl : x = y := HZER.out hm0
                          subst hm0
                          rw [show ((0 : Nat) : Int) = 0 from rfl]
                          go_wp2
                          clear cB cq
                          go_roundw
                          case rel => first | exact ⟨q + 1, by omega, by go_num, hJ⟩ | exact ⟨q + 1, by omega, by omega⟩
                          case measure => simp [intOf]; omega
                        · have m1 : ((m : Int) == 0) = false := by simpa using hm0
                          have m2 : decide ((m : Int) = 0) = false := decide_eq_false (by omega)
                          have m3 : (m == 0) = false := by simpa using hm0
                          have m4 : decide (m = 0) = false := decide_eq_false hm0
                          go_wp2
                          clear cB cq
                          go_roundw
                          case rel => first | exact ⟨q + 1, by omega, by go_num, hJ⟩ | exact ⟨q + 1, by omega, by omega⟩
                          case measure => simp [intOf]; omega
                  · obtain rfl : q = 16 := by omega
                    go_wp2_with fail
                    refine (known4 wr).mono ?_
                    rintro e v5 ⟨rfl, hb⟩
                    have HZ := Lib.hid (chain2 hJ.out.dk.below hb)
                    clear hb
                    go_wp2
                    go_ret
                    exact ⟨rfl, HZ.out⟩
        · have t0 : decide ((i : Int) < (la : Int)) = false := decide_eq_false (by omega)
          have t0' : decide (i < la) = false := decide_eq_false hlen
          have HT := Lib.hid (hI.out.2.sync hi (M := fun _ => []) (fun _ => rfl))
          have HT0 := Lib.hid hI.out.2
          have HI := Lib.hid hI.out.1
          clear hI
          have hTc := HT0.out.c
          have hTo := HT0.out.ops
          go_wp2_with fail
          have CS := dk_sync wr HI.out.dk HT0.out.on (by omega) (by omega)
          rw [HT.out.2] at CS
          refine CS.mono ?_
          clear CS hTc hTo
          rintro e v1 ⟨rfl, hd1, ho1⟩
          have HS : Hid (LaW w v1 A B (w.heap.size + 2) F0 T.sync.1 last (fun _ => .slice none 0 0) (fun _ => []) ∧ LaTwo T.sync.1 last (fun _ => []) 0) := Lib.hid ⟨HI.out.next hd1 ho1, HT.out.1⟩
          have CW := waits_at v1 hd1.here
          rw [HT.out.1.W] at CW
          replace CW : Calls Try.prog 14 #[.pointer (some ⟨w.heap.size + 2, 0, none⟩)] v1 fun e w' => e = .returned (.int .i64 0) ∧ v1 = w' := CW
          have cw := Lib.hid CW
          clear CW hd1 ho1 HI HT0 HT
          go_wp2_with (first | (go_at_call 14; refine cw.out.mono ?_; rintro e w' ⟨rfl, rfl⟩))
          clear cw
          go_loopw [14] (fun vi wr => ∃ (i : Nat) (T : DS) (F : Nat → Prop) (V : Nat → Value) (M : Nat → List Bytes), i ≤ 100 ∧ vi = .int .i64 i ∧ Hid (LaW w wr A B (w.heap.size + 2) F T last V M ∧ LaTwo T last M i)) (fun vi _ => 100 - (intOf vi).toNat)
          case atStart => exact ⟨0, _, _, _, _, Nat.zero_le _, rfl, HS⟩
          case round =>
            clear HS
            obtain ⟨i, T, F, V, M, hi, rfl, hI⟩ := hrel
            have z0 : (0 : Int) ≤ (i : Int) := by omega
            by_cases hlen : i < lb
            · by_cases h40 : i < 100
              · obtain h0 | ⟨b, off, rfl, hbl, hbc⟩ := HB.out
                · omega
                obtain ⟨X, hX, cX⟩ := hbc i hlen
                have cb := (hI.out.1.dk.below.cell (p := ⟨b, off + i, none⟩) hbl).trans cX
                have z1 : (i : Int) < (lb : Int) := by omega
                have z2 : (i : Int) < 100 := by omega
                have z3 : (X : Int) < 256 := by omega
                have ec : (((UInt8.ofNat (100 + i)).toNat : Nat) : Int) = 100 + (i : Int) := by rw [UInt8.toNat_ofNat']; omega
                have CF := fun W => full_any (UInt8.ofNat (100 + i)) W
                rw [ec] at CF
                have hsl := fullB_length (UInt8.ofNat (100 + i))
                generalize fullB (UInt8.ofNat (100 + i)) = sb at CF hsl
                have HSL := Lib.hid hsl
                have cf := Lib.hid CF
                obtain ⟨k, hk⟩ : ∃ k : Nat, (X : Int) % 16 = (k : Int) := ⟨X % 16, by simp⟩
                have hk16 : k < 16 := by omega
                have y0 : (0 : Int) ≤ (k : Int) := by omega
                have y1 : (k : Int) < 16 := by omega
                clear ec CF hsl hbc cX hX
                go_wp2_with fail
                refine (cf.out wr).mono ?_
                rintro e w3 ⟨rfl, hb3⟩
                have H3 := Lib.hid (hI.out.1.later hb3)
                have HT := Lib.hid (hI.out.2.put k sb)
                have HT0 := Lib.hid hI.out.2
                have ck := H3.out.may.cell k hk16
                have hfew := hI.out.2.few k
                have HROW := Lib.hid (H3.out.may.row k hk16)
                have HPUSH : Hid (∀ (W7 : World) (o : Obj) (g' cap n : Nat), n = (M k).length → _) := Lib.hid (fun W7 o g' cap n hn hrow hgr hg hlt => H3.out.push (W7 := W7) (o := o) (g' := g') (cap := cap) (n := n) k hk16 sb hn hrow hgr hg hlt)
                have HFC : Hid (∀ (W7 : World) (o : Obj) , (w3.alloc o).grownBy W7 (V k).ownBlock → W7.cell? ⟨B, k, none⟩ = some (V k) ∧ W7.frozen? ⟨B, k, none⟩ = false) := Lib.hid (fun W7 o hgr => by
                  have hB := H3.out.may.lt
                  have hne : some B ≠ (V k).ownBlock := fun e => (H3.out.may.blk k hk16 B e.symm).2.2.2.1 rfl
                  have e := (hgr.block B (by simp; omega) hne).trans (Below.heap_alloc w3 _ B hB)
                  exact ⟨(World.cell?_of_block (a := ⟨B, k, none⟩) e).trans (H3.out.may.cell k hk16), (World.frozen?_of_block (a := ⟨B, k, none⟩) e).trans (H3.out.may.free k hk16)⟩)
                generalize hU : V k = U at ck HROW HPUSH HFC
                generalize hn : (M k).length = n at HROW HPUSH hfew
                have HB63 : Hid (n + 1 ≤ maxLen) := Lib.hid (by unfold maxLen; omega)
                have HB47 : Hid ((n + 1) * 16 ≤ 140737488355328) := Lib.hid (by omega)
                clear hb3 cb hI hfew hn hU
                go_wp2_with (first
                  | (refine wpList_append_lies _ rfl _ _ 36 rfl 0 9 i0 (.string ByteArray.empty) 1 16 Try.underlying36 hi0 hy0 hy1 hy2 rfl (by decide) U n (strs (M k)) rfl (HROW.out.alloc _) ⟨w3.heap.size, 0, none⟩ 1 1 [.string (strOf sb)] rfl rfl (news_at w3 _ _) (fun u hu => by simp at hu; subst hu; rfl) (by decide) HB63.out HB47.out (Nat.zero_le _) (w3.heap.size + 1) (by simp) ?_; intro g' cap W7 hrow hgr hgl hlt7
                     obtain ⟨c7, f7⟩ := HFC.out W7 _ hgr
                     have H8 := Lib.hid (HPUSH.out W7 _ g' cap n rfl hrow hgr hgl hlt7)
                     clear hrow hgr hgl hlt7))
                clear c7 f7 ck
                generalize World.setCell W7 _ _ = W8 at H8 ⊢
                have hTc := HT0.out.c
                have hTo := HT0.out.ops
                have hTL := HT0.out.L
                have CW := dk_write k sb W8 H8.out.dk HT0.out.on (by rw [hTL]; exact hk16) HSL.out (by omega) (by omega)
                rw [HT.out.2.1] at CW
                refine CW.mono ?_
                clear CW hTc hTo hTL
                rintro e W9 ⟨rfl, hd9, ho9⟩
                have H9 := Lib.hid (H8.out.next hd9 ho9)
                have hTc := HT.out.1.c
                have hTL := HT.out.1.L
                have CR := dk_read k W9 hd9 HT.out.1.on (by rw [hTL]; exact hk16) (by omega)
                rw [HT.out.2.2] at CR
                have cr := Lib.hid CR
                have HT1 := Lib.hid HT.out.1
                clear H8 hd9 ho9 CR hTc hTL HT0 HT
                generalize (T.write k sb).1 = T1 at H9 cr HT1
                generalize strOf sb = Y at cr ⊢
                go_wp2_with fail
                refine cr.out.mono ?_
                rintro e W10 ⟨rfl, hd10, hb10⟩
                have HN := Lib.hid (And.intro (H9.out.later hb10) HT1.out)
                clear H9 hd10 hb10 cr hk HT1
                go_wp2
                go_roundw
                case rel => exact ⟨i + 1, _, _, _, _, by omega, by go_num, HN⟩
                case measure => simp [intOf]; omega
              · obtain rfl : i = 100 := by omega
                have t40 : decide ((100 : Int) < (lb : Int)) = true := decide_eq_true (by omega)
                rw [show ((100 : Nat) : Int) = 100 from rfl]
                have HE := Lib.hid (hI.out.2.fail hi m)
                have HI := Lib.hid hI.out.1
                have hTc := hI.out.2.c
                have HFEW : Hid (∀ q, (M q).length ≤ 100) := Lib.hid (fun q => Nat.le_trans (hI.out.2.few q) hi)
                clear hI
                go_wp2_with fail
                refine (dk_fail m wr HI.out.dk hm (by omega)).mono ?_
                rintro e v2 ⟨rfl, hd2, ho2⟩
                have H2 := Lib.hid (HI.out.next hd2 ho2)
                have CO := on_at v2 hd2.here
                rw [HE.out.1] at CO
                have co := Lib.hid CO
                clear HI hd2 ho2 CO hTc
                go_wp2_with (first | (go_at_call 12; refine co.out.mono ?_; rintro e w' ⟨rfl, rfl⟩))
                clear co
                refine (dk_start v2 H2.out.dk).mono ?_
                rintro e v3 ⟨rfl, hd3, ho3⟩
                have H3 := Lib.hid (H2.out.next hd3 ho3)
                have HX := Lib.hid HE.out.2
                clear H2 hd3 ho3 HE
                generalize (T.fail m).start = T2 at H3 HX
                go_wp2
                go_loopw [19] (fun vi wr => ∃ q : Nat, q ≤ 16 ∧ vi = .int .i64 q ∧ Hid (LaW w wr A B (w.heap.size + 2) F T2 last V M)) (fun vi _ => 16 - (intOf vi).toNat)
                case atStart => exact ⟨0, Nat.zero_le _, rfl, H3.out⟩
                case round =>
                  clear H3
                  obtain ⟨q, hq, rfl, hJ⟩ := hrel
                  by_cases hlq : q < 16
                  · have y0 : (0 : Int) ≤ (q : Int) := by omega
                    have y1 : (q : Int) < 16 := by omega
                    have cr := Lib.hid (dk_read q wr hJ.out.dk HX.out.on (by rw [HX.out.L]; exact hlq) (by have := HX.out.c; omega))
                    obtain ⟨n, hn⟩ : ∃ n, n = (M q).length := ⟨_, rfl⟩
                    have HONE : Hid (strOf (T2.read q) = strOf (last q) ∨ ∃ (p : Nat) (z : Bytes), p < n ∧ (M q)[p]? = some z ∧ strOf (T2.read q) = strOf z) := Lib.hid (by
                      rcases HX.out.one q hlq with e | ⟨p, hp, e⟩
                      · exact .inl (by rw [e])
                      · exact .inr ⟨p, _, hn ▸ hp, e, rfl⟩)
                    have HZER : Hid (m = 0 → strOf (T2.read q) = strOf (last q)) := Lib.hid (fun e => by rw [HX.out.zero e q hlq])
                    generalize hx : strOf (T2.read q) = x at cr HONE HZER
                    generalize hy : strOf (last q) = y at HONE HZER
                    clear hx
                    go_wp2_with fail
                    refine cr.out.mono ?_
                    rintro e v4 ⟨rfl, hd4, hb4⟩
                    have H4 := Lib.hid (hJ.out.later hb4)
                    have cq := H4.out.arr.cell q hlq
                    rw [hy] at cq
                    obtain ⟨ok0, e1⟩ : ∃ ok0, (x.toList == y.toList) = ok0 := ⟨_, rfl⟩
                    have HK0 : Hid (x = y → ok0 = true) := Lib.hid (fun e => by rw [← e1, e]; simp)
                    clear hd4 hb4 cr hJ
                    go_wp2
                    clear cq e1
                    go_loopw [22, 23] (fun vo vj wr => ∃ (j : Nat) (ok : Bool), j ≤ n ∧ vj = .int .i64 j ∧ vo = .bool ok ∧ Hid (LaW w wr A B (w.heap.size + 2) F T2 last V M) ∧ Hid ((x = y → ok = true) ∧ ∀ p, p < j → ∀ z, (M q)[p]? = some z → x = strOf z → ok = true)) (fun _ vj _ => n - (intOf vj).toNat)
                    case atStart => exact ⟨0, ok0, Nat.zero_le _, rfl, rfl, H4, HK0.out, fun p hp => absurd hp (Nat.not_lt_zero p)⟩
                    case round =>
                      clear H4 HK0
                      obtain ⟨j, ok, hj, rfl, rfl, hJ, hK⟩ := hrel
                      have hrow := hJ.out.may.row q hlq
                      rw [← hn] at hrow
                      obtain ⟨pq, cq, hvq⟩ : ∃ pq cq, V q = .slice pq n cq := by
                        rcases hrow.2 with ⟨h, h0⟩ | ⟨g0, c0, cur, h, _⟩
                        · exact ⟨none, 0, by rw [h, h0]⟩
                        · exact ⟨_, _, h⟩
                      have cB := hJ.out.may.cell q hlq
                      rw [hvq] at cB hrow
                      by_cases hjn : j < n
                      · have u0 : (0 : Int) ≤ (j : Int) := by omega
                        have u1 : (j : Int) < (n : Int) := by omega
                        have hn100 := HFEW.out q
                        rw [← hn] at hn100
                        have u2 : (n : Int) ≤ 100 := by omega
                        cases ok with
                        | true =>
                          have HN : Hid ((x = y → true = true) ∧ ∀ p, p < j + 1 → ∀ z, (M q)[p]? = some z → x = strOf z → true = true) := Lib.hid ⟨fun _ => rfl, fun _ _ _ _ _ => rfl⟩
                          clear hrow
                          go_wp2
                          clear cB
                          go_roundw
                          case rel => exact ⟨j + 1, true, by omega, by go_num, rfl, hJ, HN⟩
                          case measure => simp [intOf]; omega
                        | false =>
                          obtain ⟨g0, rfl⟩ : ∃ g0, pq = some ⟨g0, 0, none⟩ := by
                            rcases hrow.2 with ⟨h, h0⟩ | ⟨g0, c0, cur, h, _⟩
                            · omega
                            · cases h; exact ⟨g0, rfl⟩
                          obtain ⟨z, hz⟩ : ∃ z, (M q)[j]? = some z := ⟨_, List.getElem?_eq_getElem (by omega)⟩
                          have cz := ownsRow_range hrow j (.string (strOf z)) (by simp [strs, hz])
                          have cz2 := cz
                          rw [Nat.zero_add] at cz2
                          obtain ⟨ok1, e1⟩ : ∃ ok1, (x.toList == (strOf z).toList) = ok1 := ⟨_, rfl⟩
                          have HN : Hid ((x = y → ok1 = true) ∧ ∀ p, p < j + 1 → ∀ z, (M q)[p]? = some z → x = strOf z → ok1 = true) := Lib.hid ⟨fun e => absurd (hK.out.1 e) (by decide), fun p hp z' hz' e => by
                            by_cases ep : p = j
                            · subst ep
                              rw [hz] at hz'
                              cases hz'
                              rw [← e1, e]; simp
                            · exact absurd (hK.out.2 p (by omega) z' hz' e) (by decide)⟩
                          clear hrow hz
                          generalize strOf z = zz at *
                          go_wp2
                          clear cB cz cz2
                          go_roundw
                          case rel => exact ⟨j + 1, ok1, by omega, by go_num, rfl, hJ, HN⟩
                          case measure => simp [intOf]; omega
                      · obtain rfl : j = n := by omega
                        have hok : ok = true := by
                          rcases HONE.out with e | ⟨p, z, hp, hz, e⟩
                          · exact hK.out.1 e
                          · exact hK.out.2 p hp z hz e
                        subst hok
                        have cq := hJ.out.arr.cell q hlq
                        rw [hy] at cq
                        clear hrow hn hK HONE
                        by_cases hm0 : m = 0
                        · obtain rfl : x = y := HZER.out hm0
                          subst hm0
                          rw [show ((0 : Nat) : Int) = 0 from rfl]
                          go_wp2
                          clear cB cq
                          go_roundw
                          case rel => first | exact ⟨q + 1, by omega, by go_num, hJ⟩ | exact ⟨q + 1, by omega, by omega⟩
                          case measure => simp [intOf]; omega
                        · have m1 : ((m : Int) == 0) = false := by simpa using hm0
                          have m2 : decide ((m : Int) = 0) = false := decide_eq_false (by omega)
                          have m3 : (m == 0) = false := by simpa using hm0
                          have m4 : decide (m = 0) = false := decide_eq_false hm0
                          go_wp2
                          clear cB cq
                          go_roundw
                          case rel => first | exact ⟨q + 1, by omega, by go_num, hJ⟩ | exact ⟨q + 1, by omega, by omega⟩
                          case measure => simp [intOf]; omega
                  · obtain rfl : q = 16 := by omega
                    go_wp2_with fail
                    refine (known4 wr).mono ?_
                    rintro e v5 ⟨rfl, hb⟩
                    have HZ := Lib.hid (chain2 hJ.out.dk.below hb)
                    clear hb
                    go_wp2
                    go_ret
                    exact ⟨rfl, HZ.out⟩
            · have t0 : decide ((i : Int) < (lb : Int)) = false := decide_eq_false (by omega)
              have t0' : decide (i < lb) = false := decide_eq_false hlen
              have HE := Lib.hid (hI.out.2.fail hi m)
              have HI := Lib.hid hI.out.1
              have hTc := hI.out.2.c
              have HFEW : Hid (∀ q, (M q).length ≤ 100) := Lib.hid (fun q => Nat.le_trans (hI.out.2.few q) hi)
              clear hI
              go_wp2_with fail
              refine (dk_fail m wr HI.out.dk hm (by omega)).mono ?_
              rintro e v2 ⟨rfl, hd2, ho2⟩
              have H2 := Lib.hid (HI.out.next hd2 ho2)
              have CO := on_at v2 hd2.here
              rw [HE.out.1] at CO
              have co := Lib.hid CO
              clear HI hd2 ho2 CO hTc
              go_wp2_with (first | (go_at_call 12; refine co.out.mono ?_; rintro e w' ⟨rfl, rfl⟩))
              clear co
              refine (dk_start v2 H2.out.dk).mono ?_
              rintro e v3 ⟨rfl, hd3, ho3⟩
              have H3 := Lib.hid (H2.out.next hd3 ho3)
              have HX := Lib.hid HE.out.2
              clear H2 hd3 ho3 HE
              generalize (T.fail m).start = T2 at H3 HX
              go_wp2
              go_loopw [19] (fun vi wr => ∃ q : Nat, q ≤ 16 ∧ vi = .int .i64 q ∧ Hid (LaW w wr A B (w.heap.size + 2) F T2 last V M)) (fun vi _ => 16 - (intOf vi).toNat)
              case atStart => exact ⟨0, Nat.zero_le _, rfl, H3.out⟩
              case round =>
                clear H3
                obtain ⟨q, hq, rfl, hJ⟩ := hrel
                by_cases hlq : q < 16
                · have y0 : (0 : Int) ≤ (q : Int) := by omega
                  have y1 : (q : Int) < 16 := by omega
                  have cr := Lib.hid (dk_read q wr hJ.out.dk HX.out.on (by rw [HX.out.L]; exact hlq) (by have := HX.out.c; omega))
                  obtain ⟨n, hn⟩ : ∃ n, n = (M q).length := ⟨_, rfl⟩
                  have HONE : Hid (strOf (T2.read q) = strOf (last q) ∨ ∃ (p : Nat) (z : Bytes), p < n ∧ (M q)[p]? = some z ∧ strOf (T2.read q) = strOf z) := Lib.hid (by
                    rcases HX.out.one q hlq with e | ⟨p, hp, e⟩
                    · exact .inl (by rw [e])
                    · exact .inr ⟨p, _, hn ▸ hp, e, rfl⟩)
                  have HZER : Hid (m = 0 → strOf (T2.read q) = strOf (last q)) := Lib.hid (fun e => by rw [HX.out.zero e q hlq])
                  generalize hx : strOf (T2.read q) = x at cr HONE HZER
                  generalize hy : strOf (last q) = y at HONE HZER
                  clear hx
                  go_wp2_with fail
                  refine cr.out.mono ?_
                  rintro e v4 ⟨rfl, hd4, hb4⟩
                  have H4 := Lib.hid (hJ.out.later hb4)
                  have cq := H4.out.arr.cell q hlq
                  rw [hy] at cq
                  obtain ⟨ok0, e1⟩ : ∃ ok0, (x.toList == y.toList) = ok0 := ⟨_, rfl⟩
                  have HK0 : Hid (x = y → ok0 = true) := Lib.hid (fun e => by rw [← e1, e]; simp)
                  clear hd4 hb4 cr hJ
                  go_wp2
                  clear cq e1
                  go_loopw [22, 23] (fun vo vj wr => ∃ (j : Nat) (ok : Bool), j ≤ n ∧ vj = .int .i64 j ∧ vo = .bool ok ∧ Hid (LaW w wr A B (w.heap.size + 2) F T2 last V M) ∧ Hid ((x = y → ok = true) ∧ ∀ p, p < j → ∀ z, (M q)[p]? = some z → x = strOf z → ok = true)) (fun _ vj _ => n - (intOf vj).toNat)
                  case atStart => exact ⟨0, ok0, Nat.zero_le _, rfl, rfl, H4, HK0.out, fun p hp => absurd hp (Nat.not_lt_zero p)⟩
                  case round =>
                    clear H4 HK0
                    obtain ⟨j, ok, hj, rfl, rfl, hJ, hK⟩ := hrel
                    have hrow := hJ.out.may.row q hlq
                    rw [← hn] at hrow
                    obtain ⟨pq, cq, hvq⟩ : ∃ pq cq, V q = .slice pq n cq := by
                      rcases hrow.2 with ⟨h, h0⟩ | ⟨g0, c0, cur, h, _⟩
                      · exact ⟨none, 0, by rw [h, h0]⟩
                      · exact ⟨_, _, h⟩
                    have cB := hJ.out.may.cell q hlq
                    rw [hvq] at cB hrow
                    by_cases hjn : j < n
                    · have u0 : (0 : Int) ≤ (j : Int) := by omega
                      have u1 : (j : Int) < (n : Int) := by omega
                      have hn100 := HFEW.out q
                      rw [← hn] at hn100
                      have u2 : (n : Int) ≤ 100 := by omega
                      cases ok with
                      | true =>
                        have HN : Hid ((x = y → true = true) ∧ ∀ p, p < j + 1 → ∀ z, (M q)[p]? = some z → x = strOf z → true = true) := Lib.hid ⟨fun _ => rfl, fun _ _ _ _ _ => rfl⟩
                        clear hrow
                        go_wp2
                        clear cB
                        go_roundw
                        case rel => exact ⟨j + 1, true, by omega, by go_num, rfl, hJ, HN⟩
                        case measure => simp [intOf]; omega
                      | false =>
                        obtain ⟨g0, rfl⟩ : ∃ g0, pq = some ⟨g0, 0, none⟩ := by
                          rcases hrow.2 with ⟨h, h0⟩ | ⟨g0, c0, cur, h, _⟩
                          · omega
                          · cases h; exact ⟨g0, rfl⟩
                        obtain ⟨z, hz⟩ : ∃ z, (M q)[j]? = some z := ⟨_, List.getElem?_eq_getElem (by omega)⟩
                        have cz := ownsRow_range hrow j (.string (strOf z)) (by simp [strs, hz])
                        have cz2 := cz
                        rw [Nat.zero_add] at cz2
                        obtain ⟨ok1, e1⟩ : ∃ ok1, (x.toList == (strOf z).toList) = ok1 := ⟨_, rfl⟩
                        have HN : Hid ((x = y → ok1 = true) ∧ ∀ p, p < j + 1 → ∀ z, (M q)[p]? = some z → x = strOf z → ok1 = true) := Lib.hid ⟨fun e => absurd (hK.out.1 e) (by decide), fun p hp z' hz' e => by
                          by_cases ep : p = j
                          · subst ep
                            rw [hz] at hz'
                            cases hz'
                            rw [← e1, e]; simp
                          · exact absurd (hK.out.2 p (by omega) z' hz' e) (by decide)⟩
                        clear hrow hz
                        generalize strOf z = zz at *
                        go_wp2
                        clear cB cz cz2
                        go_roundw
                        case rel => exact ⟨j + 1, ok1, by omega, by go_num, rfl, hJ, HN⟩
                        case measure => simp [intOf]; omega
                    · obtain rfl : j = n := by omega
                      have hok : ok = true := by
                        rcases HONE.out with e | ⟨p, z, hp, hz, e⟩
                        · exact hK.out.1 e
                        · exact hK.out.2 p hp z hz e
                      subst hok
                      have cq := hJ.out.arr.cell q hlq
                      rw [hy] at cq
                      clear hrow hn hK HONE
                      by_cases hm0 : m = 0
                      · obtain rfl : x = y := HZER.out hm0
                        subst hm0
                        rw [show ((0 : Nat) : Int) = 0 from rfl]
                        go_wp2
                        clear cB cq
                        go_roundw
                        case rel => first | exact ⟨q + 1, by omega, by go_num, hJ⟩ | exact ⟨q + 1, by omega, by omega⟩
                        case measure => simp [intOf]; omega
                      · have m1 : ((m : Int) == 0) = false := by simpa using hm0
                        have m2 : decide ((m : Int) = 0) = false := decide_eq_false (by omega)
                        have m3 : (m == 0) = false := by simpa using hm0
                        have m4 : decide (m = 0) = false := decide_eq_false hm0
                        go_wp2
                        clear cB cq
                        go_roundw
                        case rel => first | exact ⟨q + 1, by omega, by go_num, hJ⟩ | exact ⟨q + 1, by omega, by omega⟩
                        case measure => simp [intOf]; omega
                · obtain rfl : q = 16 := by omega
                  go_wp2_with fail
                  refine (known4 wr).mono ?_
                  rintro e v5 ⟨rfl, hb⟩
                  have HZ := Lib.hid (chain2 hJ.out.dk.below hb)
                  clear hb
                  go_wp2
                  go_ret
                  exact ⟨rfl, HZ.out⟩

theorem bytesAt_of {H : Type} {enc : TypeId × Value → H} {w : World} {b0 : Nat} {v : Value} {d : DataW H} {p : List MemPlace}
    (hv : Value.okWide Try.prog w .any b0 42 v) (h : DataW.Trod enc Try.prog w 0 (fun _ => true) true 42 v d p) : ∃ pa len cap, v = .slice pa len cap ∧ len ≤ maxLen ∧ BytesAt w pa len := by
  rcases open_bytes hv h with ⟨pa, cap, rfl⟩ | ⟨b, off, len, cap, B, rfl, _, hl, hb, hB, hc⟩
  · exact ⟨pa, 0, cap, rfl, Nat.zero_le _, .inl rfl⟩
  · exact ⟨_, len, cap, rfl, hl, .inr ⟨b, off, rfl, hb, fun j hj => ⟨B j, hB j hj, hc j hj⟩⟩⟩

/-- The same of the slices as they were read. -/
theorem lasts_raw {H : Type} {enc : TypeId × Value → H} {w : World} {b0 : Nat} {v : Value} {d : DataW H} {p : List MemPlace} {b1 : Nat} {v1 : Value} {d1 : DataW H} {p1 : List MemPlace}
    (hv : Value.okWide Try.prog w .any b0 42 v) (h : DataW.Trod enc Try.prog w 0 (fun _ => true) true 42 v d p)
    (hv1 : Value.okWide Try.prog w .any b1 42 v1) (h1 : DataW.Trod enc Try.prog w 0 (fun _ => true) true 42 v1 d1 p1) (m : Int) (hm : (Lit.int .u64 m).wf = true) :
    Calls Try.prog 4 #[v, v1, .int .u64 m] w fun e w' => e = .returned (.bool true) ∧ Below w.heap.size w w' := by
  obtain ⟨n, rfl, hn⟩ := u64_nat hm
  obtain ⟨pa, la, ca, rfl, hla, ha⟩ := bytesAt_of hv h
  obtain ⟨pb, lb, cb, rfl, hlb, hb⟩ := bytesAt_of hv1 h1
  exact lasts_any pa pb la ca lb cb n hn w hla hlb ha hb
end Go.Proofs.Ytepipdikglabaaa.Dk
