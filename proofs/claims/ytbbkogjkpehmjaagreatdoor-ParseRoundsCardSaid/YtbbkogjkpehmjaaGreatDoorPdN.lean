/- The walk of chrysalislaw10.lone: its contract. No condition but those that each states. -/
import Derived.Test.YtbbkogjkpehmjaaGreatDoorMgR
import Derived.Test.YtbbkogjkpehmjaaGreatDoorMgT
namespace Go.Proofs.YtbbkogjkpehmjaaGreatDoor.Pa
open Go.RowKit Go.Shelf Dk Lx Tr

def isOpen (s : List UInt8) : Bool := s == [40] || s == [123] || s == [91]
def isShut (s : List UInt8) : Bool := s == [41] || s == [125] || s == [93]
/-- How deep behind a token. -/
def deepT (d : Int) (t : Tk) : Int := if t.kind = 4 then (if isOpen t.text then d + 1 else if isShut t.text then d - 1 else d) else d
def stopT (d : Int) (t : Tk) : Bool := decide (deepT d t < 0) || (decide (deepT d t = 0) && decide (t.kind = 4) && (t.text == [59]))
/-- How deep at the end, unless it ends ahead of it. -/
def loneF : Int → List Tk → Option Int
  | d, [] => some d
  | d, t :: ts => if stopT d t then none else loneF (deepT d t) ts
def loneL (l : List UInt8) : Bool := match scanL 0 l with
  | .bad _ _ => false
  | .toks S => match loneF 0 S with
    | none => false
    | some d => l.all (fun c => !(c == 35)) && decide (d = 0)
theorem loneF_none {d : Int} {t : Tk} {ts : List Tk} (h : stopT d t = true) : loneF d (t :: ts) = none := if_pos h
theorem loneF_some {d : Int} {t : Tk} {ts : List Tk} (h : stopT d t = false) : loneF d (t :: ts) = loneF (deepT d t) ts := by rw [loneF, h]; rfl

theorem tk_put (W : World) (x : Tk) : TB ((W.alloc (.cells #[.int .i64 0, .string ⟨#[]⟩, .int .i64 0, .int .i64 0] 40)).setCells W.heap.size 0 x.cells.toArray.toList) W.heap.size x ∧
    Below W.heap.size W ((W.alloc (.cells #[.int .i64 0, .string ⟨#[]⟩, .int .i64 0, .int .i64 0] 40)).setCells W.heap.size 0 x.cells.toArray.toList) := tb_put W x

set_option maxHeartbeats 8000000 in
set_option maxRecDepth 100000 in
theorem lone_toks (l : List UInt8) (hl : l.length ≤ 1000) (S : List Tk) (hS : scanL 0 l = .toks S) (w : World) :
    Calls Tryz.prog 21 #[.string (strOf l)] w fun e w' => e = .returned (.bool (loneL l)) ∧ Below w.heap.size w w' := by
  have S1 : Hid (∀ W, Calls Tryz.prog 31 #[.string (strOf l)] W fun x w' => ∃ v, x = .returned (.tuple #[v, .int .i64 0, .int .i64 0]) ∧ TR W w' v S) := Lib.hid (fun W => (rscan_any (strOf l) W).mono fun x w' h => h.yes S (by rw [strOf_toList]; omega) (by rw [strOf_toList]; exact hS))
  have HL0 : Hid (loneL l = match loneF 0 S with
    | none => false
    | some d => l.all (fun c => !(c == 35)) && decide (d = 0)) := Lib.hid (by unfold loneL; rw [hS])
  obtain ⟨R, hR⟩ : ∃ R, R = loneL l := ⟨_, rfl⟩
  rw [← hR] at HL0 ⊢
  obtain ⟨n, hn⟩ : ∃ n, n = S.length := ⟨_, rfl⟩
  have hn2 : n ≤ 1000 := by have := (scans_few (scans_iff.1 hS)).1; omega
  have HN := Lib.hid hn
  obtain ⟨m, hm⟩ : ∃ m, m = l.length := ⟨_, rfl⟩
  have hsz : (strOf l).size = m := by rw [strOf_size, hm]
  have HM := Lib.hid (show m = l.length ∧ m ≤ 1000 from ⟨hm, by omega⟩)
  have HBY : Hid (∀ j (h : j < l.length) (W : World), (Instr.index 9 (.string (strOf l)) (.int .i64 (j : Int))).run Tryz.prog W = .ok (.int .u8 (l[j].toNat : Int)) W) := Lib.hid (fun j h W =>
    Lx.byte_at (P := Tryz.prog) (strOf l) j l[j] (l.drop (j + 1)) (by unfold from'; rw [strOf_toList]; exact List.drop_eq_getElem_cons h) 9 Tryz.underlying9 W)
  generalize hsA : strOf l = sA at *
  clear hl hS hR hn hm hsA
  go_enter Tryz.func21, Tryz.ntmps21
  go_wp2_with fail
  refine (S1.out w).mono ?_
  rintro e w1 ⟨v1, rfl, hr1⟩
  have HB1 := Lib.hid hr1.below
  have HTR := Lib.hid hr1.toks
  obtain ⟨p, c, rfl, hc, -⟩ := hr1.toks
  rw [← HN.out]
  clear hr1 hc S1
  go_wp2_with fail
  go_loopw [6, 7] (fun vd vi wr => ∃ i d : Nat, i ≤ n ∧ vi = .int .i64 (i : Int) ∧ vd = .int .i64 (d : Int) ∧ d ≤ i ∧ Hid (Below w.heap.size w wr) ∧ Hid (Below w1.heap.size w1 wr) ∧ Hid (loneF 0 S = loneF (d : Int) (S.drop i))) (fun _ vi _ => n - (intOf vi).toNat)
  case atStart => exact ⟨0, 0, Nat.zero_le _, rfl, rfl, Nat.le_refl _, HB1, Lib.hid (Below.refl _ _), Lib.hid rfl⟩
  case round =>
    obtain ⟨i, d, hi, rfl, rfl, hdi, hB, hB1, hF⟩ := hrel
    by_cases hlt : i < n
    · have hil : i < S.length := by rw [← HN.out]; exact hlt
      obtain ⟨q1, q0, q2, q3, q4 | ⟨g, o, hpp, hg, hr⟩⟩ := HTR.out
      · exfalso; subst q4; simp at hil
      cases q2
      subst hpp
      have hwsz := hB1.out.size
      have HR : Hid (wr.rangeAt g (o + i * 4) (S[i]).cells) := Lib.hid (by
        have h := rangeAt_block hr (hB1.out.block g hg)
        have e : tcells S = tcells (S.take i) ++ (tcells [S[i]] ++ tcells (S.drop (i + 1))) := by
          rw [← tcells_app, ← tcells_app]
          congr 1
          rw [List.singleton_append, List.getElem_cons_drop, List.take_append_drop]
        rw [e] at h
        have := rangeAt_left (rangeAt_right h (by rw [tcells_length, List.length_take, Nat.min_eq_left (by omega)]))
        simpa [tcells] using this)
      have hdr : S.drop i = S[i] :: S.drop (i + 1) := List.drop_eq_getElem_cons hil
      have HFN : Hid (stopT (d : Int) S[i] = true → loneF 0 S = none) := Lib.hid (fun h => by rw [hF.out, hdr, loneF_none h])
      have HFS : Hid (stopT (d : Int) S[i] = false → loneF 0 S = loneF (deepT (d : Int) S[i]) (S.drop (i + 1))) := Lib.hid (fun h => by rw [hF.out, hdr, loneF_some h])
      have z0 : (0 : Int) ≤ (i : Int) := by omega
      have z1 : (i : Int) < (n : Int) := by omega
      generalize hT : S[i] = T at *
      have HI := Lib.hid (t_info T)
      have HZ := Lib.hid (tb_zero wr)
      have HP := Lib.hid (tk_put wr T)
      have hst : (strOf T.text).toList = T.text := strOf_tl T.text
      clear hT hdr hr hg hwsz q3 hil hF
      by_cases hk : T.kind = 4
      case neg =>
        by_cases hd : d = 0
        · have e1 : (T.kind == 4) = false := by simpa using hk
          have hde : deepT (d : Int) T = (d : Int) := by unfold deepT; rw [if_neg hk]
          have hsp : stopT (d : Int) T = false := by unfold stopT; rw [hde]; simp [hk]
          have HF2 := Lib.hid (HFS.out hsp)
          rw [hde] at HF2
          have d1 : ((d : Int) == 0) = true := by rw [hd]; rfl
          have d2 : ¬(d : Int) < 0 := by omega
          clear hde hsp HFN HFS
          clear hk
          have HD := Lib.hid hd
          clear hd
          go_upto_region 9 with (first
          | (refine wpList_load_mid rfl 40 (.tmp 26) rfl g (o + i * 4) rfl T.cells _ HR.out Tryz.underlying40 rfl HI.out ?_)
          | (refine wpList_store_mid rfl 40 (.tmp 8) (.tmp 27) rfl wr.heap.size 0 T.cells.toArray rfl rfl HZ.out.room (t_infoA _) (t_all _) ?_; generalize World.setCells _ _ _ _ = W3 at HP ⊢; have HB3 := Lib.hid (chain2 hB.out HP.out.2); have HB31 := Lib.hid (chain2 hB1.out HP.out.2); have c0 : W3.cell? ⟨wr.heap.size, 0, none⟩ = some (.int .i64 T.kind) := HP.out.1.cells 0 _ rfl; have c1 : W3.cell? ⟨wr.heap.size, 1, none⟩ = some (.string (strOf T.text)) := HP.out.1.cells 1 _ rfl; clear HP))
          go_wp2
          go_roundw
          case rel => exact ⟨i + 1, d, by omega, by go_num, by rfl, by omega, HB3, HB31, HF2⟩
          case measure => simp [intOf]; omega
        · have e1 : (T.kind == 4) = false := by simpa using hk
          have hde : deepT (d : Int) T = (d : Int) := by unfold deepT; rw [if_neg hk]
          have hsp : stopT (d : Int) T = false := by unfold stopT; rw [hde]; simp [hk]
          have HF2 := Lib.hid (HFS.out hsp)
          rw [hde] at HF2
          have d1 : ((d : Int) == 0) = false := by rw [beq_eq_false_iff_ne]; omega
          have d2 : ¬(d : Int) < 0 := by omega
          clear hde hsp HFN HFS
          clear hk
          have HD := Lib.hid hd
          clear hd
          go_upto_region 9 with (first
          | (refine wpList_load_mid rfl 40 (.tmp 26) rfl g (o + i * 4) rfl T.cells _ HR.out Tryz.underlying40 rfl HI.out ?_)
          | (refine wpList_store_mid rfl 40 (.tmp 8) (.tmp 27) rfl wr.heap.size 0 T.cells.toArray rfl rfl HZ.out.room (t_infoA _) (t_all _) ?_; generalize World.setCells _ _ _ _ = W3 at HP ⊢; have HB3 := Lib.hid (chain2 hB.out HP.out.2); have HB31 := Lib.hid (chain2 hB1.out HP.out.2); have c0 : W3.cell? ⟨wr.heap.size, 0, none⟩ = some (.int .i64 T.kind) := HP.out.1.cells 0 _ rfl; have c1 : W3.cell? ⟨wr.heap.size, 1, none⟩ = some (.string (strOf T.text)) := HP.out.1.cells 1 _ rfl; clear HP))
          go_wp2
          go_roundw
          case rel => exact ⟨i + 1, d, by omega, by go_num, by rfl, by omega, HB3, HB31, HF2⟩
          case measure => simp [intOf]; omega
      by_cases h40 : T.text = [40]
      case pos =>
        have hs := h40
        clear h40
        have e1 : (T.kind == 4) = true := by simpa using hk
        have t40 : ((strOf T.text).toList == [40]) = true := by rw [hst, hs]; rfl
        have t123 : ((strOf T.text).toList == [123]) = false := by rw [hst, hs]; rfl
        have t91 : ((strOf T.text).toList == [91]) = false := by rw [hst, hs]; rfl
        have t41 : ((strOf T.text).toList == [41]) = false := by rw [hst, hs]; rfl
        have t125 : ((strOf T.text).toList == [125]) = false := by rw [hst, hs]; rfl
        have t93 : ((strOf T.text).toList == [93]) = false := by rw [hst, hs]; rfl
        have t59 : ((strOf T.text).toList == [59]) = false := by rw [hst, hs]; rfl
        have hde : deepT (d : Int) T = ((d + 1 : Nat) : Int) := by unfold deepT; rw [if_pos hk]; simp only [hs]; rw [if_pos (by decide)]; omega
        have hsp : stopT (d : Int) T = false := by unfold stopT; rw [hde]; simp [hs]; omega
        have HF2 := Lib.hid (HFS.out hsp)
        rw [hde] at HF2
        have d0 : IntKind.i64.wrap ((d : Int) + 1) = (d : Int) + 1 := IntWalk.i64_in _ (by omega)
        have d1 : ((d : Int) + 1 == 0) = false := by rw [beq_eq_false_iff_ne]; omega
        have d2 : ¬(d : Int) + 1 < 0 := by omega
        clear hde hsp HFN HFS
        clear hst hs
        clear hk
        go_upto_region 9 with (first
          | (refine wpList_load_mid rfl 40 (.tmp 26) rfl g (o + i * 4) rfl T.cells _ HR.out Tryz.underlying40 rfl HI.out ?_)
          | (refine wpList_store_mid rfl 40 (.tmp 8) (.tmp 27) rfl wr.heap.size 0 T.cells.toArray rfl rfl HZ.out.room (t_infoA _) (t_all _) ?_; generalize World.setCells _ _ _ _ = W3 at HP ⊢; have HB3 := Lib.hid (chain2 hB.out HP.out.2); have HB31 := Lib.hid (chain2 hB1.out HP.out.2); have c0 : W3.cell? ⟨wr.heap.size, 0, none⟩ = some (.int .i64 T.kind) := HP.out.1.cells 0 _ rfl; have c1 : W3.cell? ⟨wr.heap.size, 1, none⟩ = some (.string (strOf T.text)) := HP.out.1.cells 1 _ rfl; clear HP))
        go_wp2
        go_roundw
        case rel => exact ⟨i + 1, d + 1, by omega, by go_num, by go_num, by omega, HB3, HB31, HF2⟩
        case measure => simp [intOf]; omega
      by_cases h123 : T.text = [123]
      case pos =>
        have hs := h123
        clear h40 h123
        have e1 : (T.kind == 4) = true := by simpa using hk
        have t40 : ((strOf T.text).toList == [40]) = false := by rw [hst, hs]; rfl
        have t123 : ((strOf T.text).toList == [123]) = true := by rw [hst, hs]; rfl
        have t91 : ((strOf T.text).toList == [91]) = false := by rw [hst, hs]; rfl
        have t41 : ((strOf T.text).toList == [41]) = false := by rw [hst, hs]; rfl
        have t125 : ((strOf T.text).toList == [125]) = false := by rw [hst, hs]; rfl
        have t93 : ((strOf T.text).toList == [93]) = false := by rw [hst, hs]; rfl
        have t59 : ((strOf T.text).toList == [59]) = false := by rw [hst, hs]; rfl
        have hde : deepT (d : Int) T = ((d + 1 : Nat) : Int) := by unfold deepT; rw [if_pos hk]; simp only [hs]; rw [if_pos (by decide)]; omega
        have hsp : stopT (d : Int) T = false := by unfold stopT; rw [hde]; simp [hs]; omega
        have HF2 := Lib.hid (HFS.out hsp)
        rw [hde] at HF2
        have d0 : IntKind.i64.wrap ((d : Int) + 1) = (d : Int) + 1 := IntWalk.i64_in _ (by omega)
        have d1 : ((d : Int) + 1 == 0) = false := by rw [beq_eq_false_iff_ne]; omega
        have d2 : ¬(d : Int) + 1 < 0 := by omega
        clear hde hsp HFN HFS
        clear hst hs
        clear hk
        go_upto_region 9 with (first
          | (refine wpList_load_mid rfl 40 (.tmp 26) rfl g (o + i * 4) rfl T.cells _ HR.out Tryz.underlying40 rfl HI.out ?_)
          | (refine wpList_store_mid rfl 40 (.tmp 8) (.tmp 27) rfl wr.heap.size 0 T.cells.toArray rfl rfl HZ.out.room (t_infoA _) (t_all _) ?_; generalize World.setCells _ _ _ _ = W3 at HP ⊢; have HB3 := Lib.hid (chain2 hB.out HP.out.2); have HB31 := Lib.hid (chain2 hB1.out HP.out.2); have c0 : W3.cell? ⟨wr.heap.size, 0, none⟩ = some (.int .i64 T.kind) := HP.out.1.cells 0 _ rfl; have c1 : W3.cell? ⟨wr.heap.size, 1, none⟩ = some (.string (strOf T.text)) := HP.out.1.cells 1 _ rfl; clear HP))
        go_wp2
        go_roundw
        case rel => exact ⟨i + 1, d + 1, by omega, by go_num, by go_num, by omega, HB3, HB31, HF2⟩
        case measure => simp [intOf]; omega
      by_cases h91 : T.text = [91]
      case pos =>
        have hs := h91
        clear h40 h123 h91
        have e1 : (T.kind == 4) = true := by simpa using hk
        have t40 : ((strOf T.text).toList == [40]) = false := by rw [hst, hs]; rfl
        have t123 : ((strOf T.text).toList == [123]) = false := by rw [hst, hs]; rfl
        have t91 : ((strOf T.text).toList == [91]) = true := by rw [hst, hs]; rfl
        have t41 : ((strOf T.text).toList == [41]) = false := by rw [hst, hs]; rfl
        have t125 : ((strOf T.text).toList == [125]) = false := by rw [hst, hs]; rfl
        have t93 : ((strOf T.text).toList == [93]) = false := by rw [hst, hs]; rfl
        have t59 : ((strOf T.text).toList == [59]) = false := by rw [hst, hs]; rfl
        have hde : deepT (d : Int) T = ((d + 1 : Nat) : Int) := by unfold deepT; rw [if_pos hk]; simp only [hs]; rw [if_pos (by decide)]; omega
        have hsp : stopT (d : Int) T = false := by unfold stopT; rw [hde]; simp [hs]; omega
        have HF2 := Lib.hid (HFS.out hsp)
        rw [hde] at HF2
        have d0 : IntKind.i64.wrap ((d : Int) + 1) = (d : Int) + 1 := IntWalk.i64_in _ (by omega)
        have d1 : ((d : Int) + 1 == 0) = false := by rw [beq_eq_false_iff_ne]; omega
        have d2 : ¬(d : Int) + 1 < 0 := by omega
        clear hde hsp HFN HFS
        clear hst hs
        clear hk
        go_upto_region 9 with (first
          | (refine wpList_load_mid rfl 40 (.tmp 26) rfl g (o + i * 4) rfl T.cells _ HR.out Tryz.underlying40 rfl HI.out ?_)
          | (refine wpList_store_mid rfl 40 (.tmp 8) (.tmp 27) rfl wr.heap.size 0 T.cells.toArray rfl rfl HZ.out.room (t_infoA _) (t_all _) ?_; generalize World.setCells _ _ _ _ = W3 at HP ⊢; have HB3 := Lib.hid (chain2 hB.out HP.out.2); have HB31 := Lib.hid (chain2 hB1.out HP.out.2); have c0 : W3.cell? ⟨wr.heap.size, 0, none⟩ = some (.int .i64 T.kind) := HP.out.1.cells 0 _ rfl; have c1 : W3.cell? ⟨wr.heap.size, 1, none⟩ = some (.string (strOf T.text)) := HP.out.1.cells 1 _ rfl; clear HP))
        go_wp2
        go_roundw
        case rel => exact ⟨i + 1, d + 1, by omega, by go_num, by go_num, by omega, HB3, HB31, HF2⟩
        case measure => simp [intOf]; omega
      by_cases h41 : T.text = [41]
      case pos =>
        have hs := h41
        clear h40 h123 h91 h41
        by_cases hd : d = 0
        · have e1 : (T.kind == 4) = true := by simpa using hk
          have t40 : ((strOf T.text).toList == [40]) = false := by rw [hst, hs]; rfl
          have t123 : ((strOf T.text).toList == [123]) = false := by rw [hst, hs]; rfl
          have t91 : ((strOf T.text).toList == [91]) = false := by rw [hst, hs]; rfl
          have t41 : ((strOf T.text).toList == [41]) = true := by rw [hst, hs]; rfl
          have t125 : ((strOf T.text).toList == [125]) = false := by rw [hst, hs]; rfl
          have t93 : ((strOf T.text).toList == [93]) = false := by rw [hst, hs]; rfl
          have t59 : ((strOf T.text).toList == [59]) = false := by rw [hst, hs]; rfl
          have hde : deepT (d : Int) T = ((d : Int) - 1) := by unfold deepT; rw [if_pos hk]; simp only [hs]; rw [if_neg (by decide), if_pos (by decide)]
          have hsp : stopT (d : Int) T = true := by unfold stopT; rw [hde]; simp [hd]
          have HF2 := Lib.hid (HFN.out hsp)
          have d0 : IntKind.i64.wrap ((d : Int) - 1) = (d : Int) - 1 := IntWalk.i64_in _ (by omega)
          have d2 : (d : Int) - 1 < 0 := by omega
          clear hde hsp HFN HFS
          clear hst hs
          clear hk
          have HD := Lib.hid hd
          clear hd
          go_upto_region 9 with (first
          | (refine wpList_load_mid rfl 40 (.tmp 26) rfl g (o + i * 4) rfl T.cells _ HR.out Tryz.underlying40 rfl HI.out ?_)
          | (refine wpList_store_mid rfl 40 (.tmp 8) (.tmp 27) rfl wr.heap.size 0 T.cells.toArray rfl rfl HZ.out.room (t_infoA _) (t_all _) ?_; generalize World.setCells _ _ _ _ = W3 at HP ⊢; have HB3 := Lib.hid (chain2 hB.out HP.out.2); have HB31 := Lib.hid (chain2 hB1.out HP.out.2); have c0 : W3.cell? ⟨wr.heap.size, 0, none⟩ = some (.int .i64 T.kind) := HP.out.1.cells 0 _ rfl; have c1 : W3.cell? ⟨wr.heap.size, 1, none⟩ = some (.string (strOf T.text)) := HP.out.1.cells 1 _ rfl; clear HP))
          go_wp2
          go_ret
          exact ⟨by rw [HL0.out, HF2.out]; rfl, HB3.out⟩
        · by_cases hd1 : d = 1
          · have e1 : (T.kind == 4) = true := by simpa using hk
            have t40 : ((strOf T.text).toList == [40]) = false := by rw [hst, hs]; rfl
            have t123 : ((strOf T.text).toList == [123]) = false := by rw [hst, hs]; rfl
            have t91 : ((strOf T.text).toList == [91]) = false := by rw [hst, hs]; rfl
            have t41 : ((strOf T.text).toList == [41]) = true := by rw [hst, hs]; rfl
            have t125 : ((strOf T.text).toList == [125]) = false := by rw [hst, hs]; rfl
            have t93 : ((strOf T.text).toList == [93]) = false := by rw [hst, hs]; rfl
            have t59 : ((strOf T.text).toList == [59]) = false := by rw [hst, hs]; rfl
            have hde : deepT (d : Int) T = ((d : Int) - 1) := by unfold deepT; rw [if_pos hk]; simp only [hs]; rw [if_neg (by decide), if_pos (by decide)]
            have hsp : stopT (d : Int) T = false := by unfold stopT; rw [hde]; simp [hs]; omega
            have HF2 := Lib.hid (HFS.out hsp)
            rw [hde] at HF2
            have d0 : IntKind.i64.wrap ((d : Int) - 1) = (d : Int) - 1 := IntWalk.i64_in _ (by omega)
            have d2 : ¬(d : Int) - 1 < 0 := by omega
            have d1 : ((d : Int) - 1 == 0) = true := by rw [beq_iff_eq]; omega
            clear hde hsp HFN HFS
            clear hst hs
            clear hk
            have HD := Lib.hid hd
            clear hd
            have HD1 := Lib.hid hd1
            clear hd1
            go_upto_region 9 with (first
          | (refine wpList_load_mid rfl 40 (.tmp 26) rfl g (o + i * 4) rfl T.cells _ HR.out Tryz.underlying40 rfl HI.out ?_)
          | (refine wpList_store_mid rfl 40 (.tmp 8) (.tmp 27) rfl wr.heap.size 0 T.cells.toArray rfl rfl HZ.out.room (t_infoA _) (t_all _) ?_; generalize World.setCells _ _ _ _ = W3 at HP ⊢; have HB3 := Lib.hid (chain2 hB.out HP.out.2); have HB31 := Lib.hid (chain2 hB1.out HP.out.2); have c0 : W3.cell? ⟨wr.heap.size, 0, none⟩ = some (.int .i64 T.kind) := HP.out.1.cells 0 _ rfl; have c1 : W3.cell? ⟨wr.heap.size, 1, none⟩ = some (.string (strOf T.text)) := HP.out.1.cells 1 _ rfl; clear HP))
            go_wp2
            go_roundw
            case rel => exact ⟨i + 1, d - 1, by omega, by go_num, by rw [show ((d - 1 : Nat) : Int) = (d : Int) - 1 by have := HD.out; omega], by omega, HB3, HB31, Lib.hid (by rw [HF2.out, show ((d - 1 : Nat) : Int) = (d : Int) - 1 by have := HD.out; omega])⟩
            case measure => simp [intOf]; omega
          · have e1 : (T.kind == 4) = true := by simpa using hk
            have t40 : ((strOf T.text).toList == [40]) = false := by rw [hst, hs]; rfl
            have t123 : ((strOf T.text).toList == [123]) = false := by rw [hst, hs]; rfl
            have t91 : ((strOf T.text).toList == [91]) = false := by rw [hst, hs]; rfl
            have t41 : ((strOf T.text).toList == [41]) = true := by rw [hst, hs]; rfl
            have t125 : ((strOf T.text).toList == [125]) = false := by rw [hst, hs]; rfl
            have t93 : ((strOf T.text).toList == [93]) = false := by rw [hst, hs]; rfl
            have t59 : ((strOf T.text).toList == [59]) = false := by rw [hst, hs]; rfl
            have hde : deepT (d : Int) T = ((d : Int) - 1) := by unfold deepT; rw [if_pos hk]; simp only [hs]; rw [if_neg (by decide), if_pos (by decide)]
            have hsp : stopT (d : Int) T = false := by unfold stopT; rw [hde]; simp [hs]; omega
            have HF2 := Lib.hid (HFS.out hsp)
            rw [hde] at HF2
            have d0 : IntKind.i64.wrap ((d : Int) - 1) = (d : Int) - 1 := IntWalk.i64_in _ (by omega)
            have d2 : ¬(d : Int) - 1 < 0 := by omega
            have d1 : ((d : Int) - 1 == 0) = false := by rw [beq_eq_false_iff_ne]; omega
            clear hde hsp HFN HFS
            clear hst hs
            clear hk
            have HD := Lib.hid hd
            clear hd
            have HD1 := Lib.hid hd1
            clear hd1
            go_upto_region 9 with (first
          | (refine wpList_load_mid rfl 40 (.tmp 26) rfl g (o + i * 4) rfl T.cells _ HR.out Tryz.underlying40 rfl HI.out ?_)
          | (refine wpList_store_mid rfl 40 (.tmp 8) (.tmp 27) rfl wr.heap.size 0 T.cells.toArray rfl rfl HZ.out.room (t_infoA _) (t_all _) ?_; generalize World.setCells _ _ _ _ = W3 at HP ⊢; have HB3 := Lib.hid (chain2 hB.out HP.out.2); have HB31 := Lib.hid (chain2 hB1.out HP.out.2); have c0 : W3.cell? ⟨wr.heap.size, 0, none⟩ = some (.int .i64 T.kind) := HP.out.1.cells 0 _ rfl; have c1 : W3.cell? ⟨wr.heap.size, 1, none⟩ = some (.string (strOf T.text)) := HP.out.1.cells 1 _ rfl; clear HP))
            go_wp2
            go_roundw
            case rel => exact ⟨i + 1, d - 1, by omega, by go_num, by rw [show ((d - 1 : Nat) : Int) = (d : Int) - 1 by have := HD.out; omega], by omega, HB3, HB31, Lib.hid (by rw [HF2.out, show ((d - 1 : Nat) : Int) = (d : Int) - 1 by have := HD.out; omega])⟩
            case measure => simp [intOf]; omega
      by_cases h125 : T.text = [125]
      case pos =>
        have hs := h125
        clear h40 h123 h91 h41 h125
        by_cases hd : d = 0
        · have e1 : (T.kind == 4) = true := by simpa using hk
          have t40 : ((strOf T.text).toList == [40]) = false := by rw [hst, hs]; rfl
          have t123 : ((strOf T.text).toList == [123]) = false := by rw [hst, hs]; rfl
          have t91 : ((strOf T.text).toList == [91]) = false := by rw [hst, hs]; rfl
          have t41 : ((strOf T.text).toList == [41]) = false := by rw [hst, hs]; rfl
          have t125 : ((strOf T.text).toList == [125]) = true := by rw [hst, hs]; rfl
          have t93 : ((strOf T.text).toList == [93]) = false := by rw [hst, hs]; rfl
          have t59 : ((strOf T.text).toList == [59]) = false := by rw [hst, hs]; rfl
          have hde : deepT (d : Int) T = ((d : Int) - 1) := by unfold deepT; rw [if_pos hk]; simp only [hs]; rw [if_neg (by decide), if_pos (by decide)]
          have hsp : stopT (d : Int) T = true := by unfold stopT; rw [hde]; simp [hd]
          have HF2 := Lib.hid (HFN.out hsp)
          have d0 : IntKind.i64.wrap ((d : Int) - 1) = (d : Int) - 1 := IntWalk.i64_in _ (by omega)
          have d2 : (d : Int) - 1 < 0 := by omega
          clear hde hsp HFN HFS
          clear hst hs
          clear hk
          have HD := Lib.hid hd
          clear hd
          go_upto_region 9 with (first
          | (refine wpList_load_mid rfl 40 (.tmp 26) rfl g (o + i * 4) rfl T.cells _ HR.out Tryz.underlying40 rfl HI.out ?_)
          | (refine wpList_store_mid rfl 40 (.tmp 8) (.tmp 27) rfl wr.heap.size 0 T.cells.toArray rfl rfl HZ.out.room (t_infoA _) (t_all _) ?_; generalize World.setCells _ _ _ _ = W3 at HP ⊢; have HB3 := Lib.hid (chain2 hB.out HP.out.2); have HB31 := Lib.hid (chain2 hB1.out HP.out.2); have c0 : W3.cell? ⟨wr.heap.size, 0, none⟩ = some (.int .i64 T.kind) := HP.out.1.cells 0 _ rfl; have c1 : W3.cell? ⟨wr.heap.size, 1, none⟩ = some (.string (strOf T.text)) := HP.out.1.cells 1 _ rfl; clear HP))
          go_wp2
          go_ret
          exact ⟨by rw [HL0.out, HF2.out]; rfl, HB3.out⟩
        · by_cases hd1 : d = 1
          · have e1 : (T.kind == 4) = true := by simpa using hk
            have t40 : ((strOf T.text).toList == [40]) = false := by rw [hst, hs]; rfl
            have t123 : ((strOf T.text).toList == [123]) = false := by rw [hst, hs]; rfl
            have t91 : ((strOf T.text).toList == [91]) = false := by rw [hst, hs]; rfl
            have t41 : ((strOf T.text).toList == [41]) = false := by rw [hst, hs]; rfl
            have t125 : ((strOf T.text).toList == [125]) = true := by rw [hst, hs]; rfl
            have t93 : ((strOf T.text).toList == [93]) = false := by rw [hst, hs]; rfl
            have t59 : ((strOf T.text).toList == [59]) = false := by rw [hst, hs]; rfl
            have hde : deepT (d : Int) T = ((d : Int) - 1) := by unfold deepT; rw [if_pos hk]; simp only [hs]; rw [if_neg (by decide), if_pos (by decide)]
            have hsp : stopT (d : Int) T = false := by unfold stopT; rw [hde]; simp [hs]; omega
            have HF2 := Lib.hid (HFS.out hsp)
            rw [hde] at HF2
            have d0 : IntKind.i64.wrap ((d : Int) - 1) = (d : Int) - 1 := IntWalk.i64_in _ (by omega)
            have d2 : ¬(d : Int) - 1 < 0 := by omega
            have d1 : ((d : Int) - 1 == 0) = true := by rw [beq_iff_eq]; omega
            clear hde hsp HFN HFS
            clear hst hs
            clear hk
            have HD := Lib.hid hd
            clear hd
            have HD1 := Lib.hid hd1
            clear hd1
            go_upto_region 9 with (first
          | (refine wpList_load_mid rfl 40 (.tmp 26) rfl g (o + i * 4) rfl T.cells _ HR.out Tryz.underlying40 rfl HI.out ?_)
          | (refine wpList_store_mid rfl 40 (.tmp 8) (.tmp 27) rfl wr.heap.size 0 T.cells.toArray rfl rfl HZ.out.room (t_infoA _) (t_all _) ?_; generalize World.setCells _ _ _ _ = W3 at HP ⊢; have HB3 := Lib.hid (chain2 hB.out HP.out.2); have HB31 := Lib.hid (chain2 hB1.out HP.out.2); have c0 : W3.cell? ⟨wr.heap.size, 0, none⟩ = some (.int .i64 T.kind) := HP.out.1.cells 0 _ rfl; have c1 : W3.cell? ⟨wr.heap.size, 1, none⟩ = some (.string (strOf T.text)) := HP.out.1.cells 1 _ rfl; clear HP))
            go_wp2
            go_roundw
            case rel => exact ⟨i + 1, d - 1, by omega, by go_num, by rw [show ((d - 1 : Nat) : Int) = (d : Int) - 1 by have := HD.out; omega], by omega, HB3, HB31, Lib.hid (by rw [HF2.out, show ((d - 1 : Nat) : Int) = (d : Int) - 1 by have := HD.out; omega])⟩
            case measure => simp [intOf]; omega
          · have e1 : (T.kind == 4) = true := by simpa using hk
            have t40 : ((strOf T.text).toList == [40]) = false := by rw [hst, hs]; rfl
            have t123 : ((strOf T.text).toList == [123]) = false := by rw [hst, hs]; rfl
            have t91 : ((strOf T.text).toList == [91]) = false := by rw [hst, hs]; rfl
            have t41 : ((strOf T.text).toList == [41]) = false := by rw [hst, hs]; rfl
            have t125 : ((strOf T.text).toList == [125]) = true := by rw [hst, hs]; rfl
            have t93 : ((strOf T.text).toList == [93]) = false := by rw [hst, hs]; rfl
            have t59 : ((strOf T.text).toList == [59]) = false := by rw [hst, hs]; rfl
            have hde : deepT (d : Int) T = ((d : Int) - 1) := by unfold deepT; rw [if_pos hk]; simp only [hs]; rw [if_neg (by decide), if_pos (by decide)]
            have hsp : stopT (d : Int) T = false := by unfold stopT; rw [hde]; simp [hs]; omega
            have HF2 := Lib.hid (HFS.out hsp)
            rw [hde] at HF2
            have d0 : IntKind.i64.wrap ((d : Int) - 1) = (d : Int) - 1 := IntWalk.i64_in _ (by omega)
            have d2 : ¬(d : Int) - 1 < 0 := by omega
            have d1 : ((d : Int) - 1 == 0) = false := by rw [beq_eq_false_iff_ne]; omega
            clear hde hsp HFN HFS
            clear hst hs
            clear hk
            have HD := Lib.hid hd
            clear hd
            have HD1 := Lib.hid hd1
            clear hd1
            go_upto_region 9 with (first
          | (refine wpList_load_mid rfl 40 (.tmp 26) rfl g (o + i * 4) rfl T.cells _ HR.out Tryz.underlying40 rfl HI.out ?_)
          | (refine wpList_store_mid rfl 40 (.tmp 8) (.tmp 27) rfl wr.heap.size 0 T.cells.toArray rfl rfl HZ.out.room (t_infoA _) (t_all _) ?_; generalize World.setCells _ _ _ _ = W3 at HP ⊢; have HB3 := Lib.hid (chain2 hB.out HP.out.2); have HB31 := Lib.hid (chain2 hB1.out HP.out.2); have c0 : W3.cell? ⟨wr.heap.size, 0, none⟩ = some (.int .i64 T.kind) := HP.out.1.cells 0 _ rfl; have c1 : W3.cell? ⟨wr.heap.size, 1, none⟩ = some (.string (strOf T.text)) := HP.out.1.cells 1 _ rfl; clear HP))
            go_wp2
            go_roundw
            case rel => exact ⟨i + 1, d - 1, by omega, by go_num, by rw [show ((d - 1 : Nat) : Int) = (d : Int) - 1 by have := HD.out; omega], by omega, HB3, HB31, Lib.hid (by rw [HF2.out, show ((d - 1 : Nat) : Int) = (d : Int) - 1 by have := HD.out; omega])⟩
            case measure => simp [intOf]; omega
      by_cases h93 : T.text = [93]
      case pos =>
        have hs := h93
        clear h40 h123 h91 h41 h125 h93
        by_cases hd : d = 0
        · have e1 : (T.kind == 4) = true := by simpa using hk
          have t40 : ((strOf T.text).toList == [40]) = false := by rw [hst, hs]; rfl
          have t123 : ((strOf T.text).toList == [123]) = false := by rw [hst, hs]; rfl
          have t91 : ((strOf T.text).toList == [91]) = false := by rw [hst, hs]; rfl
          have t41 : ((strOf T.text).toList == [41]) = false := by rw [hst, hs]; rfl
          have t125 : ((strOf T.text).toList == [125]) = false := by rw [hst, hs]; rfl
          have t93 : ((strOf T.text).toList == [93]) = true := by rw [hst, hs]; rfl
          have t59 : ((strOf T.text).toList == [59]) = false := by rw [hst, hs]; rfl
          have hde : deepT (d : Int) T = ((d : Int) - 1) := by unfold deepT; rw [if_pos hk]; simp only [hs]; rw [if_neg (by decide), if_pos (by decide)]
          have hsp : stopT (d : Int) T = true := by unfold stopT; rw [hde]; simp [hd]
          have HF2 := Lib.hid (HFN.out hsp)
          have d0 : IntKind.i64.wrap ((d : Int) - 1) = (d : Int) - 1 := IntWalk.i64_in _ (by omega)
          have d2 : (d : Int) - 1 < 0 := by omega
          clear hde hsp HFN HFS
          clear hst hs
          clear hk
          have HD := Lib.hid hd
          clear hd
          go_upto_region 9 with (first
          | (refine wpList_load_mid rfl 40 (.tmp 26) rfl g (o + i * 4) rfl T.cells _ HR.out Tryz.underlying40 rfl HI.out ?_)
          | (refine wpList_store_mid rfl 40 (.tmp 8) (.tmp 27) rfl wr.heap.size 0 T.cells.toArray rfl rfl HZ.out.room (t_infoA _) (t_all _) ?_; generalize World.setCells _ _ _ _ = W3 at HP ⊢; have HB3 := Lib.hid (chain2 hB.out HP.out.2); have HB31 := Lib.hid (chain2 hB1.out HP.out.2); have c0 : W3.cell? ⟨wr.heap.size, 0, none⟩ = some (.int .i64 T.kind) := HP.out.1.cells 0 _ rfl; have c1 : W3.cell? ⟨wr.heap.size, 1, none⟩ = some (.string (strOf T.text)) := HP.out.1.cells 1 _ rfl; clear HP))
          go_wp2
          go_ret
          exact ⟨by rw [HL0.out, HF2.out]; rfl, HB3.out⟩
        · by_cases hd1 : d = 1
          · have e1 : (T.kind == 4) = true := by simpa using hk
            have t40 : ((strOf T.text).toList == [40]) = false := by rw [hst, hs]; rfl
            have t123 : ((strOf T.text).toList == [123]) = false := by rw [hst, hs]; rfl
            have t91 : ((strOf T.text).toList == [91]) = false := by rw [hst, hs]; rfl
            have t41 : ((strOf T.text).toList == [41]) = false := by rw [hst, hs]; rfl
            have t125 : ((strOf T.text).toList == [125]) = false := by rw [hst, hs]; rfl
            have t93 : ((strOf T.text).toList == [93]) = true := by rw [hst, hs]; rfl
            have t59 : ((strOf T.text).toList == [59]) = false := by rw [hst, hs]; rfl
            have hde : deepT (d : Int) T = ((d : Int) - 1) := by unfold deepT; rw [if_pos hk]; simp only [hs]; rw [if_neg (by decide), if_pos (by decide)]
            have hsp : stopT (d : Int) T = false := by unfold stopT; rw [hde]; simp [hs]; omega
            have HF2 := Lib.hid (HFS.out hsp)
            rw [hde] at HF2
            have d0 : IntKind.i64.wrap ((d : Int) - 1) = (d : Int) - 1 := IntWalk.i64_in _ (by omega)
            have d2 : ¬(d : Int) - 1 < 0 := by omega
            have d1 : ((d : Int) - 1 == 0) = true := by rw [beq_iff_eq]; omega
            clear hde hsp HFN HFS
            clear hst hs
            clear hk
            have HD := Lib.hid hd
            clear hd
            have HD1 := Lib.hid hd1
            clear hd1
            go_upto_region 9 with (first
          | (refine wpList_load_mid rfl 40 (.tmp 26) rfl g (o + i * 4) rfl T.cells _ HR.out Tryz.underlying40 rfl HI.out ?_)
          | (refine wpList_store_mid rfl 40 (.tmp 8) (.tmp 27) rfl wr.heap.size 0 T.cells.toArray rfl rfl HZ.out.room (t_infoA _) (t_all _) ?_; generalize World.setCells _ _ _ _ = W3 at HP ⊢; have HB3 := Lib.hid (chain2 hB.out HP.out.2); have HB31 := Lib.hid (chain2 hB1.out HP.out.2); have c0 : W3.cell? ⟨wr.heap.size, 0, none⟩ = some (.int .i64 T.kind) := HP.out.1.cells 0 _ rfl; have c1 : W3.cell? ⟨wr.heap.size, 1, none⟩ = some (.string (strOf T.text)) := HP.out.1.cells 1 _ rfl; clear HP))
            go_wp2
            go_roundw
            case rel => exact ⟨i + 1, d - 1, by omega, by go_num, by rw [show ((d - 1 : Nat) : Int) = (d : Int) - 1 by have := HD.out; omega], by omega, HB3, HB31, Lib.hid (by rw [HF2.out, show ((d - 1 : Nat) : Int) = (d : Int) - 1 by have := HD.out; omega])⟩
            case measure => simp [intOf]; omega
          · have e1 : (T.kind == 4) = true := by simpa using hk
            have t40 : ((strOf T.text).toList == [40]) = false := by rw [hst, hs]; rfl
            have t123 : ((strOf T.text).toList == [123]) = false := by rw [hst, hs]; rfl
            have t91 : ((strOf T.text).toList == [91]) = false := by rw [hst, hs]; rfl
            have t41 : ((strOf T.text).toList == [41]) = false := by rw [hst, hs]; rfl
            have t125 : ((strOf T.text).toList == [125]) = false := by rw [hst, hs]; rfl
            have t93 : ((strOf T.text).toList == [93]) = true := by rw [hst, hs]; rfl
            have t59 : ((strOf T.text).toList == [59]) = false := by rw [hst, hs]; rfl
            have hde : deepT (d : Int) T = ((d : Int) - 1) := by unfold deepT; rw [if_pos hk]; simp only [hs]; rw [if_neg (by decide), if_pos (by decide)]
            have hsp : stopT (d : Int) T = false := by unfold stopT; rw [hde]; simp [hs]; omega
            have HF2 := Lib.hid (HFS.out hsp)
            rw [hde] at HF2
            have d0 : IntKind.i64.wrap ((d : Int) - 1) = (d : Int) - 1 := IntWalk.i64_in _ (by omega)
            have d2 : ¬(d : Int) - 1 < 0 := by omega
            have d1 : ((d : Int) - 1 == 0) = false := by rw [beq_eq_false_iff_ne]; omega
            clear hde hsp HFN HFS
            clear hst hs
            clear hk
            have HD := Lib.hid hd
            clear hd
            have HD1 := Lib.hid hd1
            clear hd1
            go_upto_region 9 with (first
          | (refine wpList_load_mid rfl 40 (.tmp 26) rfl g (o + i * 4) rfl T.cells _ HR.out Tryz.underlying40 rfl HI.out ?_)
          | (refine wpList_store_mid rfl 40 (.tmp 8) (.tmp 27) rfl wr.heap.size 0 T.cells.toArray rfl rfl HZ.out.room (t_infoA _) (t_all _) ?_; generalize World.setCells _ _ _ _ = W3 at HP ⊢; have HB3 := Lib.hid (chain2 hB.out HP.out.2); have HB31 := Lib.hid (chain2 hB1.out HP.out.2); have c0 : W3.cell? ⟨wr.heap.size, 0, none⟩ = some (.int .i64 T.kind) := HP.out.1.cells 0 _ rfl; have c1 : W3.cell? ⟨wr.heap.size, 1, none⟩ = some (.string (strOf T.text)) := HP.out.1.cells 1 _ rfl; clear HP))
            go_wp2
            go_roundw
            case rel => exact ⟨i + 1, d - 1, by omega, by go_num, by rw [show ((d - 1 : Nat) : Int) = (d : Int) - 1 by have := HD.out; omega], by omega, HB3, HB31, Lib.hid (by rw [HF2.out, show ((d - 1 : Nat) : Int) = (d : Int) - 1 by have := HD.out; omega])⟩
            case measure => simp [intOf]; omega
      by_cases h59 : T.text = [59]
      case pos =>
        have hs := h59
        clear h40 h123 h91 h41 h125 h93 h59
        by_cases hd : d = 0
        · have e1 : (T.kind == 4) = true := by simpa using hk
          have t40 : ((strOf T.text).toList == [40]) = false := by rw [hst, hs]; rfl
          have t123 : ((strOf T.text).toList == [123]) = false := by rw [hst, hs]; rfl
          have t91 : ((strOf T.text).toList == [91]) = false := by rw [hst, hs]; rfl
          have t41 : ((strOf T.text).toList == [41]) = false := by rw [hst, hs]; rfl
          have t125 : ((strOf T.text).toList == [125]) = false := by rw [hst, hs]; rfl
          have t93 : ((strOf T.text).toList == [93]) = false := by rw [hst, hs]; rfl
          have t59 : ((strOf T.text).toList == [59]) = true := by rw [hst, hs]; rfl
          have hde : deepT (d : Int) T = (d : Int) := by unfold deepT; rw [if_pos hk]; simp only [hs]; rw [if_neg (by decide), if_neg (by decide)]
          have hsp : stopT (d : Int) T = true := by unfold stopT; rw [hde]; simp [hd, hk, hs]
          have HF2 := Lib.hid (HFN.out hsp)
          have d1 : ((d : Int) == 0) = true := by rw [hd]; rfl
          have d2 : ¬(d : Int) < 0 := by omega
          clear hde hsp HFN HFS
          clear hst hs
          clear hk
          have HD := Lib.hid hd
          clear hd
          go_upto_region 9 with (first
          | (refine wpList_load_mid rfl 40 (.tmp 26) rfl g (o + i * 4) rfl T.cells _ HR.out Tryz.underlying40 rfl HI.out ?_)
          | (refine wpList_store_mid rfl 40 (.tmp 8) (.tmp 27) rfl wr.heap.size 0 T.cells.toArray rfl rfl HZ.out.room (t_infoA _) (t_all _) ?_; generalize World.setCells _ _ _ _ = W3 at HP ⊢; have HB3 := Lib.hid (chain2 hB.out HP.out.2); have HB31 := Lib.hid (chain2 hB1.out HP.out.2); have c0 : W3.cell? ⟨wr.heap.size, 0, none⟩ = some (.int .i64 T.kind) := HP.out.1.cells 0 _ rfl; have c1 : W3.cell? ⟨wr.heap.size, 1, none⟩ = some (.string (strOf T.text)) := HP.out.1.cells 1 _ rfl; clear HP))
          go_wp2
          go_ret
          exact ⟨by rw [HL0.out, HF2.out]; rfl, HB3.out⟩
        · have e1 : (T.kind == 4) = true := by simpa using hk
          have t40 : ((strOf T.text).toList == [40]) = false := by rw [hst, hs]; rfl
          have t123 : ((strOf T.text).toList == [123]) = false := by rw [hst, hs]; rfl
          have t91 : ((strOf T.text).toList == [91]) = false := by rw [hst, hs]; rfl
          have t41 : ((strOf T.text).toList == [41]) = false := by rw [hst, hs]; rfl
          have t125 : ((strOf T.text).toList == [125]) = false := by rw [hst, hs]; rfl
          have t93 : ((strOf T.text).toList == [93]) = false := by rw [hst, hs]; rfl
          have t59 : ((strOf T.text).toList == [59]) = true := by rw [hst, hs]; rfl
          have hde : deepT (d : Int) T = (d : Int) := by unfold deepT; rw [if_pos hk]; simp only [hs]; rw [if_neg (by decide), if_neg (by decide)]
          have hsp : stopT (d : Int) T = false := by unfold stopT; rw [hde]; simp; omega
          have HF2 := Lib.hid (HFS.out hsp)
          rw [hde] at HF2
          have d1 : ((d : Int) == 0) = false := by rw [beq_eq_false_iff_ne]; omega
          have d2 : ¬(d : Int) < 0 := by omega
          clear hde hsp HFN HFS
          clear hst hs
          clear hk
          have HD := Lib.hid hd
          clear hd
          go_upto_region 9 with (first
          | (refine wpList_load_mid rfl 40 (.tmp 26) rfl g (o + i * 4) rfl T.cells _ HR.out Tryz.underlying40 rfl HI.out ?_)
          | (refine wpList_store_mid rfl 40 (.tmp 8) (.tmp 27) rfl wr.heap.size 0 T.cells.toArray rfl rfl HZ.out.room (t_infoA _) (t_all _) ?_; generalize World.setCells _ _ _ _ = W3 at HP ⊢; have HB3 := Lib.hid (chain2 hB.out HP.out.2); have HB31 := Lib.hid (chain2 hB1.out HP.out.2); have c0 : W3.cell? ⟨wr.heap.size, 0, none⟩ = some (.int .i64 T.kind) := HP.out.1.cells 0 _ rfl; have c1 : W3.cell? ⟨wr.heap.size, 1, none⟩ = some (.string (strOf T.text)) := HP.out.1.cells 1 _ rfl; clear HP))
          go_wp2
          go_roundw
          case rel => exact ⟨i + 1, d, by omega, by go_num, by rfl, by omega, HB3, HB31, HF2⟩
          case measure => simp [intOf]; omega
      by_cases hd : d = 0
      · have e1 : (T.kind == 4) = true := by simpa using hk
        have t40 : ((strOf T.text).toList == [40]) = false := by rw [hst]; simpa using h40
        have t123 : ((strOf T.text).toList == [123]) = false := by rw [hst]; simpa using h123
        have t91 : ((strOf T.text).toList == [91]) = false := by rw [hst]; simpa using h91
        have t41 : ((strOf T.text).toList == [41]) = false := by rw [hst]; simpa using h41
        have t125 : ((strOf T.text).toList == [125]) = false := by rw [hst]; simpa using h125
        have t93 : ((strOf T.text).toList == [93]) = false := by rw [hst]; simpa using h93
        have t59 : ((strOf T.text).toList == [59]) = false := by rw [hst]; simpa using h59
        have hde : deepT (d : Int) T = (d : Int) := by unfold deepT; rw [if_pos hk]; rw [if_neg (by simp [isOpen, h40, h123, h91]), if_neg (by simp [isShut, h41, h125, h93])]
        have hsp : stopT (d : Int) T = false := by unfold stopT; rw [hde]; simp [h59]
        have HF2 := Lib.hid (HFS.out hsp)
        rw [hde] at HF2
        have d1 : ((d : Int) == 0) = true := by rw [hd]; rfl
        have d2 : ¬(d : Int) < 0 := by omega
        clear hde hsp HFN HFS
        clear hst h40 h123 h91 h41 h125 h93 h59
        clear hk
        have HD := Lib.hid hd
        clear hd
        go_upto_region 9 with (first
          | (refine wpList_load_mid rfl 40 (.tmp 26) rfl g (o + i * 4) rfl T.cells _ HR.out Tryz.underlying40 rfl HI.out ?_)
          | (refine wpList_store_mid rfl 40 (.tmp 8) (.tmp 27) rfl wr.heap.size 0 T.cells.toArray rfl rfl HZ.out.room (t_infoA _) (t_all _) ?_; generalize World.setCells _ _ _ _ = W3 at HP ⊢; have HB3 := Lib.hid (chain2 hB.out HP.out.2); have HB31 := Lib.hid (chain2 hB1.out HP.out.2); have c0 : W3.cell? ⟨wr.heap.size, 0, none⟩ = some (.int .i64 T.kind) := HP.out.1.cells 0 _ rfl; have c1 : W3.cell? ⟨wr.heap.size, 1, none⟩ = some (.string (strOf T.text)) := HP.out.1.cells 1 _ rfl; clear HP))
        go_wp2
        go_roundw
        case rel => exact ⟨i + 1, d, by omega, by go_num, by rfl, by omega, HB3, HB31, HF2⟩
        case measure => simp [intOf]; omega
      · have e1 : (T.kind == 4) = true := by simpa using hk
        have t40 : ((strOf T.text).toList == [40]) = false := by rw [hst]; simpa using h40
        have t123 : ((strOf T.text).toList == [123]) = false := by rw [hst]; simpa using h123
        have t91 : ((strOf T.text).toList == [91]) = false := by rw [hst]; simpa using h91
        have t41 : ((strOf T.text).toList == [41]) = false := by rw [hst]; simpa using h41
        have t125 : ((strOf T.text).toList == [125]) = false := by rw [hst]; simpa using h125
        have t93 : ((strOf T.text).toList == [93]) = false := by rw [hst]; simpa using h93
        have t59 : ((strOf T.text).toList == [59]) = false := by rw [hst]; simpa using h59
        have hde : deepT (d : Int) T = (d : Int) := by unfold deepT; rw [if_pos hk]; rw [if_neg (by simp [isOpen, h40, h123, h91]), if_neg (by simp [isShut, h41, h125, h93])]
        have hsp : stopT (d : Int) T = false := by unfold stopT; rw [hde]; simp [h59]
        have HF2 := Lib.hid (HFS.out hsp)
        rw [hde] at HF2
        have d1 : ((d : Int) == 0) = false := by rw [beq_eq_false_iff_ne]; omega
        have d2 : ¬(d : Int) < 0 := by omega
        clear hde hsp HFN HFS
        clear hst h40 h123 h91 h41 h125 h93 h59
        clear hk
        have HD := Lib.hid hd
        clear hd
        go_upto_region 9 with (first
          | (refine wpList_load_mid rfl 40 (.tmp 26) rfl g (o + i * 4) rfl T.cells _ HR.out Tryz.underlying40 rfl HI.out ?_)
          | (refine wpList_store_mid rfl 40 (.tmp 8) (.tmp 27) rfl wr.heap.size 0 T.cells.toArray rfl rfl HZ.out.room (t_infoA _) (t_all _) ?_; generalize World.setCells _ _ _ _ = W3 at HP ⊢; have HB3 := Lib.hid (chain2 hB.out HP.out.2); have HB31 := Lib.hid (chain2 hB1.out HP.out.2); have c0 : W3.cell? ⟨wr.heap.size, 0, none⟩ = some (.int .i64 T.kind) := HP.out.1.cells 0 _ rfl; have c1 : W3.cell? ⟨wr.heap.size, 1, none⟩ = some (.string (strOf T.text)) := HP.out.1.cells 1 _ rfl; clear HP))
        go_wp2
        go_roundw
        case rel => exact ⟨i + 1, d, by omega, by go_num, by rfl, by omega, HB3, HB31, HF2⟩
        case measure => simp [intOf]; omega
    · obtain rfl : n = i := by omega
      have hF2 : loneF 0 S = some (d : Int) := by rw [hF.out, List.drop_of_length_le (by rw [← HN.out]; exact Nat.le_refl _)]; rfl
      have HL1 : Hid (R = (l.all (fun c => !(c == 35)) && decide ((d : Int) = 0))) := Lib.hid (by rw [HL0.out, hF2])
      clear hF2 hF hlt hi HL0
      go_wp2
      clear HTR HB1 hB1
      go_loopw [9] (fun vi w9 => ∃ j : Nat, j ≤ m ∧ vi = .int .i64 (j : Int) ∧ w9 = wr ∧ Hid (∀ u (h : u < l.length), u < j → l[u] ≠ 35)) (fun vi _ => m - (intOf vi).toNat)
      case atStart => exact ⟨0, Nat.zero_le _, rfl, rfl, Lib.hid (fun u _ h => by omega)⟩
      case round =>
        obtain ⟨j, hj, rfl, rfl, hA⟩ := hrel
        by_cases hjm : j < m
        · have hjl : j < l.length := by rw [← HM.out.1]; exact hjm
          have hix := HBY.out j hjl
          have z0 : (0 : Int) ≤ (j : Int) := by omega
          have z1 : (j : Int) < (m : Int) := by omega
          have z2 : m ≤ 1000 := HM.out.2
          have HE : Hid (l[j] = 35 → R = false) := Lib.hid (fun h => by
            rw [HL1.out]
            have : l.all (fun c => !(c == 35)) = false := by
              rw [List.all_eq_false]
              exact ⟨l[j], List.getElem_mem hjl, by rw [h]; decide⟩
            rw [this]; rfl)
          have HO : Hid (l[j] ≠ 35 → ∀ u (h : u < l.length), u < j + 1 → l[u] ≠ 35) := Lib.hid (fun h u hu hlt => by
            by_cases e : u = j
            · subst e; exact h
            · exact hA.out u hu (by omega))
          generalize l[j] = cb at *
          clear hA hjl
          by_cases hc : cb = 35
          · have e1 : ((cb.toNat : Int) == 35) = true := by rw [hc]; rfl
            have HE2 := Lib.hid (HE.out hc)
            clear HE HO hc
            go_wp2
            go_ret
            exact ⟨by rw [HE2.out]; rfl, hB.out⟩
          · have e1 : ((cb.toNat : Int) == 35) = false := by
              rw [beq_eq_false_iff_ne]
              intro h
              exact hc (byte_eq (n := 35) (by omega) (by decide))
            have HO2 := Lib.hid (HO.out hc)
            clear HE HO hc
            go_wp2
            go_roundw
            case rel => exact ⟨j + 1, by omega, by go_num, by first | rfl | trivial, HO2⟩
            case measure => simp [intOf]; omega
        · obtain rfl : m = j := by omega
          have HR2 : Hid (R = ((d : Int) == 0)) := Lib.hid (by
            rw [HL1.out]
            have : l.all (fun c => !(c == 35)) = true := by
              rw [List.all_eq_true]
              intro c hc
              obtain ⟨u, hu, rfl⟩ := List.getElem_of_mem hc
              have := hA.out u hu (by rw [HM.out.1]; exact hu)
              simpa using this
            rw [this, Bool.true_and]
            rw [Bool.eq_iff_iff]
            simp)
          clear hA hj hjm
          go_wp2
          go_ret
          exact ⟨by rw [HR2.out]; rfl, hB.out⟩

/-- Whether a text is one expression, as the law asks it. -/
theorem lone_any (l : List UInt8) (hl : l.length ≤ 1000) (w : World) : Calls Tryz.prog 21 #[.string (strOf l)] w fun e w' => e = .returned (.bool (loneL l)) ∧ Below w.heap.size w w' := by
  cases hS : scanL 0 l with
  | toks S => exact lone_toks l hl S hS w
  | bad k a =>
    have hka := scan_bad_at _ 0 _ k a (Nat.lt_succ_self _) hS
    have S1 : Hid (∀ W, Calls Tryz.prog 31 #[.string (strOf l)] W fun x w' => x = .returned (.tuple #[.slice none 0 0, .int .i64 (k : Int), .int .i64 (a : Int)]) ∧ Below W.heap.size W w') := Lib.hid (fun W => (rscan_any (strOf l) W).mono fun x w' h => ⟨h.bad k a (by rw [strOf_toList]; omega) (by rw [strOf_toList]; exact hS), h.below⟩)
    have HF : Hid (loneL l = false) := Lib.hid (by unfold loneL; rw [hS])
    rw [HF.out]
    have e1 : ((k : Int) != 0) = true := by rw [bne_iff_ne]; omega
    generalize strOf l = sA at *
    clear hka hl hS
    go_enter Tryz.func21, Tryz.ntmps21
    go_wp2_with (go_at_call 31; refine (S1.out _).mono ?_; rintro e w1 ⟨rfl, hb1⟩; have HB1 := Lib.hid hb1; clear hb1)
    go_ret
    exact ⟨rfl, HB1.out⟩


end Go.Proofs.YtbbkogjkpehmjaaGreatDoor.Pa

