/- The walk of the document's Kids: its contract. No condition but those that each states. -/
import Derived.Test.YtcfgngaabledpaaTrK
namespace Go.Proofs.Ytcfgngaabledpaa.Tr
open Go.RowKit Dk Lx

set_option maxHeartbeats 1000000 in
set_option maxRecDepth 100000 in
theorem rkids_some (ts : List Nd) (p : Option Addr) (m c i n : Nat) (w : World) (hm : m = ts.length) (h : Nds w (.slice p m c) ts) (hl : ts.length ≤ 2100) (hn : endW 1 ((kidsOf ts).drop i) = some n) :
    Calls Try.prog 18 #[.slice p m c, .int .i64 (i : Int)] w fun e w' => KidsOk ts (i : Int) w e w' := by
  have hle := endW_le _ _ _ hn
  rw [List.length_drop, kidsOf_len] at hle
  have hi : i < ts.length := by omega
  obtain ⟨k, hk, hk0, hF, hn1⟩ := endW_node hn
  have hkk : ts[i].kids = k := by rw [kidsOf_at hi] at hk; exact Option.some.inj hk
  obtain ⟨q, rfl⟩ : ∃ q : Nat, k = (q : Int) := ⟨k.toNat, by omega⟩
  rw [Int.toNat_natCast] at hF
  have hq := endW_le _ _ _ hF
  have CE : Hid (∀ (a : Int) W, Below w.heap.size w W → Calls Try.prog 15 #[.slice p m c, .int .i64 a] W fun e w' => e = .returned (.int .i64 (endI (kidsOf ts) a)) ∧ W = w') :=
    Lib.hid (fun a W hb => rend_any ts _ a W (h.later hb) (by omega))
  have HR : Hid (kidsZ (kidsOf ts) (i : Int) = posZ (kidsOf ts) (i + 1) q) := Lib.hid (by rw [kidsZ_some hn hk, Int.toNat_natCast])
  have C0 := Lib.hid (CE.out (i : Int) w (Below.refl _ _))
  rw [endI_some hn] at C0
  obtain ⟨g, o, rfl, hgs, -, c1, -⟩ := h.node i hi
  rw [hkk] at c1
  have HC : Hid (∀ W, Below w.heap.size w W → W.cell? ⟨g, o + i * 5 + 1, none⟩ = some (.int .i64 (q : Int))) := Lib.hid (fun W hb => by rw [World.cell?_of_block (hb.block g hgs)]; exact c1)
  clear hgs
  have HP : Hid (∀ j, j < q → pos (kidsOf ts) (i + 1) j < i + n ∧ endI (kidsOf ts) ((pos (kidsOf ts) (i + 1) j : Nat) : Int) = ((pos (kidsOf ts) (i + 1) (j + 1) : Nat) : Int)) := Lib.hid (fun j hj => by
    obtain ⟨x, t1, t2, t3, t4⟩ := pos_tree hF hj
    exact ⟨by omega, by rw [endI_some t1, t3]; omega⟩)
  have HPE : Hid (pos (kidsOf ts) (i + 1) q = i + n) := Lib.hid (by rw [pos_end hF]; omega)
  have HPL : Hid (∀ j, j ≤ q → pos (kidsOf ts) (i + 1) j ≤ i + n) := Lib.hid (fun j hj => by have := (pos_at hF j hj).1; omega)
  have hP0 : pos (kidsOf ts) (i + 1) 0 = i + 1 := rfl
  have HINC : Hid (∀ j, j < q → pos (kidsOf ts) (i + 1) j < pos (kidsOf ts) (i + 1) (j + 1) ∧ pos (kidsOf ts) (i + 1) (j + 1) ≤ i + n) := Lib.hid (fun j hj => by
    obtain ⟨x, t1, t2, t3, t4⟩ := pos_tree hF hj
    omega)
  have H0 : Hid (IR w w (.slice none 0 0) (posZ (kidsOf ts) (i + 1) 0)) := Lib.hid (IR.first w)
  obtain ⟨i0, hi0, hy0, hy1, hy2⟩ := info_parts int_info3
  have hin : i + n ≤ 4000 := by omega
  have hm4 : m ≤ 4000 := by omega
  have him : i < m := by omega
  have hq4 : q ≤ 4000 := by omega
  have z0 : (0 : Int) ≤ (i : Int) := by omega
  have z1 : (i : Int) < (m : Int) := by omega
  have e1 : IntKind.i64.wrap ((i : Int) + 1) = ((i + 1 : Nat) : Int) := by rw [wrap_in _ (by omega)]; omega
  have v0 : ¬(i : Int) + (n : Int) < 0 := by omega
  obtain ⟨P, hP⟩ : ∃ P, P = pos (kidsOf ts) (i + 1) := ⟨_, rfl⟩
  rw [← hP] at HP HPE HPL hP0 HINC
  have HPZ : Hid (∀ j, posZ (kidsOf ts) (i + 1) (j + 1) = posZ (kidsOf ts) (i + 1) j ++ [((P j : Nat) : Int)]) := Lib.hid (fun j => by rw [hP]; exact posZ_succ _ _ _)
  rw [← hP0] at e1
  have HZL : Hid (∀ j, (posZ (kidsOf ts) (i + 1) j).length = j) := Lib.hid (fun j => posZ_len _ _ _)
  generalize hE : (i : Int) + (n : Int) = E at *
  have HE := Lib.hid hE
  generalize posZ (kidsOf ts) (i + 1) = Z at *
  clear hE hP hF hq hn hle hi hk hkk hl h hm hk0 hn1
  go_enter Try.func18, Try.ntmps18
  go_wp2_with (go_at_call 15; refine C0.out.mono ?_; rintro e w1 ⟨rfl, rfl⟩)
  clear C0 e1 v0
  go_loopw [5, 6, 7] (fun vk va vj wr => ∃ j : Nat, j ≤ q ∧ va = .int .i64 ((P j : Nat) : Int) ∧ vj = .int .i64 (j : Int) ∧ Hid (IR w wr vk (Z j))) (fun _ _ vj _ => q - (intOf vj).toNat)
  case atStart => exact ⟨0, Nat.zero_le _, by rw [hP0]; go_num, rfl, H0⟩
  case round =>
    clear H0
    obtain ⟨j, hj, rfl, rfl, hI⟩ := hrel
    by_cases hlt : j < q
    · obtain ⟨hp1, hp2⟩ := HP.out j hlt
      have hp3 := HPL.out (j + 1) hlt
      have CJ := Lib.hid (fun W hb => CE.out ((P j : Nat) : Int) W hb)
      rw [hp2] at CJ
      have v1 : (j : Int) < (q : Int) := by omega
      have cq : wr.cell? ⟨g, o + i * 5 + 1, none⟩ = some (.int .i64 (q : Int)) := HC.out wr hI.out.below
      have HN : Hid (Z (j + 1) = Z j ++ [((P j : Nat) : Int)]) := Lib.hid (HPZ.out j)
      have HL := Lib.hid (HZL.out j)
      have HMS : Hid (i + n - P (j + 1) < i + n - P j) := Lib.hid (by
        have := HINC.out j hlt
        omega)
      generalize P j = a at *
      generalize hb : P (j + 1) = b at *
      have HBQ := Lib.hid hb
      clear hb
      have N1 := Lib.hid (news_at wr #[.int .i64 (a : Int)] 3)
      clear hp1 hp2 hp3
      go_wp2_with (first
        | (refine wpList_append_lies _ rfl (.tmp 24) (.tmp 26) 31 rfl w.heap.size 3 i0 (.int .i64 0) 1 8 Try.underlying31 hi0 hy0 hy1 hy2 rfl (by decide) _ (Z j).length (iv (Z j)) rfl (hI.out.row.alloc _) ⟨wr.heap.size, 0, none⟩ 1 1 [.int .i64 (a : Int)] rfl rfl N1.out (by simp [Value.oneCell']) (by decide) (by rw [HL.out]; unfold maxLen; omega) (by rw [HL.out]; omega) (by have := hI.out.below.size; simp; omega) (wr.heap.size + 1) (by simp) ?_; intro g' cap W7 hrow hgr hgl hlt7; have HX2 := Lib.hid (hI.out.push hrow hgr); clear hrow hgr hgl hlt7)
        | (go_at_call 15; refine (CJ.out _ HX2.out.below).mono ?_; rintro e w2 ⟨rfl, rfl⟩))
      go_roundw
      case rel => exact ⟨j + 1, hlt, by rw [HBQ.out], by go_num, by rw [HN.out]; exact HX2⟩
      case measure => simp [intOf]; omega
    · obtain rfl : j = q := by omega
      have cq : wr.cell? ⟨g, o + i * 5 + 1, none⟩ = some (.int .i64 (j : Int)) := HC.out wr hI.out.below
      generalize P j = a at *
      go_wp2
      go_ret
      exact ⟨_, rfl, by rw [HR.out]; exact hI.out⟩

set_option maxHeartbeats 400000 in
theorem rkids_none (ts : List Nd) (v : Value) (i : Int) (w : World) (h : Nds w v ts) (hl : ts.length ≤ 2100) (hn : endI (kidsOf ts) i = -1) :
    Calls Try.prog 18 #[v, .int .i64 i] w fun e w' => KidsOk ts i w e w' := by
  have CE := Lib.hid (rend_any ts v i w h (by omega))
  have HR : Hid (kidsZ (kidsOf ts) i = []) := Lib.hid (kidsZ_none (by rw [hn]; decide))
  rw [hn] at CE
  clear hn h
  go_enter Try.func18, Try.ntmps18
  go_wp2_with (go_at_call 15; refine CE.out.mono ?_; rintro e w1 ⟨rfl, rfl⟩)
  go_ret
  exact ⟨_, rfl, by rw [HR.out]; exact IR.first w⟩

theorem rkids_any (ts : List Nd) (v : Value) (i : Int) (w : World) (h : Nds w v ts) (hl : ts.length ≤ 2100) :
    Calls Try.prog 18 #[v, .int .i64 i] w fun e w' => KidsOk ts i w e w' := by
  rcases endI_cases (kidsOf ts) i with h1 | ⟨k, n, rfl, h1, -, -, -⟩
  · exact rkids_none ts v i w h hl h1
  · obtain ⟨p, c, rfl, -⟩ := id h
    exact rkids_some ts p _ c k n w rfl h hl h1

end Go.Proofs.Ytcfgngaabledpaa.Tr
