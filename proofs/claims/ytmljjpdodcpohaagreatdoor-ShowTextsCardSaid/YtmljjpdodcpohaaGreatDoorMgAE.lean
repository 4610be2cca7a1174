/- The walks of tree; The walk of the document's Kids; Facts on builtin calls; Whether nodes are alike, as the program and the document ask it; The walks of lex. No condition but those that each states. -/
import Derived.Test.YtmljjpdodcpohaaGreatDoorMgAD
import Derived.Deep.AppendLies
import Derived.Laws.StructEq
import Derived.Test.YtmljjpdodcpohaaGreatDoorMgAC
namespace Go.Proofs.YtmljjpdodcpohaaGreatDoor.Tr
open Lib (hid)
set_option maxRecDepth 100000
set_option maxHeartbeats 1000000
open Go.RowKit Dk Lx
def kidsZ (ks : List Int) (i : Int) : List Int := (kidsL ks i).map fun (x : Nat) => (x : Int)
def posZ (ks : List Int) (p j : Nat) : List Int := ((List.range j).map (pos ks p)).map fun (x : Nat) => (x : Int)
theorem posZ_succ (ks : List Int) (p j : Nat) : posZ ks p (j + 1) = posZ ks p j ++ [((pos ks p j : Nat) : Int)] := by unfold posZ; rw [List.range_succ]; simp
theorem posZ_len (ks : List Int) (p j : Nat) : (posZ ks p j).length = j := by unfold posZ; simp
theorem kidsZ_some {ks : List Int} {i n : Nat} {k : Int} (h : endW 1 (ks.drop i) = some n) (hk : ks[i]? = some k) : kidsZ ks (i : Int) = posZ ks (i + 1) k.toNat := by unfold kidsZ posZ; rw [kidsL_some h hk]
theorem kidsZ_none {ks : List Int} {i : Int} (h : endI ks i < 0) : kidsZ ks i = [] := by unfold kidsZ; rw [kidsL_none h]; rfl
def KidsOk (ts : List Nd) (i : Int) (w : World) (e : Ending) (w' : World) : Prop := ∃ v, e = .returned v ∧ IR w w' v (kidsZ (kidsOf ts) i)
theorem run_make0 (k : Nat) (hk : k ≤ 100000) (W : World) : ∃ cur : Array Value, cur.size = k * 1 ∧ (Instr.makeSlice 55 (.int .i64 0) (.int .i64 (k : Int))).run Tryz.prog W = .ok (.slice (some ⟨W.heap.size, 0, none⟩) 0 k) (W.alloc (.cells cur 3)) := by
  obtain ⟨i0, hi0, hy0, hy1, hy2⟩ := info_parts int_info3
  refine ⟨_, ?_, by
    have := run_make (P := Tryz.prog) W 55 3 i0 (.int .i64 0) Tryz.underlying55 hi0 hy0 .i64 .i64 0 (k : Int) (by omega) (by omega) (by rw [hy2]; omega) (by omega)
    simpa using this⟩
  rw [hy1]; simp [size_madeCells]
theorem kids_some (ts : List Nd) (p : Option Addr) (m c i n : Nat) (w : World) (hm : m = ts.length) (h : Nds w (.slice p m c) ts) (hl : ts.length ≤ 4000) (hn : endW 1 ((kidsOf ts).drop i) = some n) :
    Calls Tryz.prog 74 #[.slice p m c, .int .i64 (i : Int)] w fun e w' => KidsOk ts (i : Int) w e w' := by
  have hle := endW_le _ _ _ hn; rw [List.length_drop, kidsOf_len] at hle; have hi : i < ts.length := by omega
  obtain ⟨k, hk, hk0, hF, hn1⟩ := endW_node hn; have hkk : ts[i].kids = k := by rw [kidsOf_at hi] at hk; exact Option.some.inj hk
  obtain ⟨q, rfl⟩ : ∃ q : Nat, k = (q : Int) := ⟨k.toNat, by omega⟩; rw [Int.toNat_natCast] at hF; have hq := endW_le _ _ _ hF
  have CE : Hid (∀ (a : Int) W, Below w.heap.size w W → Calls Tryz.prog 51 #[.slice p m c, .int .i64 a] W fun e w' => e = .returned (.int .i64 (endI (kidsOf ts) a)) ∧ W = w') :=
    hid (fun a W hb => end_any ts _ a W (h.later hb) (by omega))
  have HR : Hid (kidsZ (kidsOf ts) (i : Int) = posZ (kidsOf ts) (i + 1) q) := hid (by rw [kidsZ_some hn hk, Int.toNat_natCast]); have C0 := hid (CE.out (i : Int) w (Below.refl _ _)); rw [endI_some hn] at C0; obtain ⟨g, o, rfl, -, -, c1, -⟩ := h.node i hi; rw [hkk] at c1
  have HP : Hid (∀ j, j < q → pos (kidsOf ts) (i + 1) j < i + n ∧ endI (kidsOf ts) ((pos (kidsOf ts) (i + 1) j : Nat) : Int) = ((pos (kidsOf ts) (i + 1) (j + 1) : Nat) : Int)) := hid (fun j hj => by
    obtain ⟨x, t1, t2, t3, t4⟩ := pos_tree hF hj
    exact ⟨by omega, by rw [endI_some t1, t3]; omega⟩)
  have HPE : Hid (pos (kidsOf ts) (i + 1) q = i + n) := hid (by rw [pos_end hF]; omega)
  have HPL : Hid (∀ j, j ≤ q → pos (kidsOf ts) (i + 1) j ≤ i + n) := hid (fun j hj => by have := (pos_at hF j hj).1; omega)
  have hP0 : pos (kidsOf ts) (i + 1) 0 = i + 1 := rfl
  have HINC : Hid (∀ j, j < q → pos (kidsOf ts) (i + 1) j < pos (kidsOf ts) (i + 1) (j + 1) ∧ pos (kidsOf ts) (i + 1) (j + 1) ≤ i + n) := hid (fun j hj => by
    obtain ⟨x, t1, t2, t3, t4⟩ := pos_tree hF hj
    omega)
  obtain ⟨cur, hcur, hmk⟩ : ∃ cur : World → Array Value, (∀ W, (cur W).size = q * 1) ∧ ∀ W, (Instr.makeSlice 55 (.int .i64 0) (.int .i64 (q : Int))).run Tryz.prog W = .ok (.slice (some ⟨W.heap.size, 0, none⟩) 0 q) (W.alloc (.cells (cur W) 3)) :=
    ⟨fun W => (run_make0 q (by omega) W).choose, fun W => (run_make0 q (by omega) W).choose_spec.1, fun W => (run_make0 q (by omega) W).choose_spec.2⟩
  have H0 : Hid (IR w (w.alloc (.cells (cur w) 3)) (.slice (some ⟨w.heap.size, 0, none⟩) 0 q) (posZ (kidsOf ts) (i + 1) 0)) :=
    hid ⟨World.ownsRow_made w _ q (Nat.le_refl _) (by unfold maxLen; omega) (hcur w), (Below.refl _ _).alloc (Nat.le_refl _) _⟩
  obtain ⟨i0, hi0, hy0, hy1, hy2⟩ := info_parts int_info3; have hin : i + n ≤ 4000 := by omega
  have hm4 : m ≤ 4000 := by omega
  have him : i < m := by omega
  have hq4 : q ≤ 4000 := by omega
  have z0 : (0 : Int) ≤ (i : Int) := by omega
  have z1 : (i : Int) < (m : Int) := by omega
  have e1 : IntKind.i64.wrap ((i : Int) + 1) = ((i + 1 : Nat) : Int) := by rw [wrap_in _ (by omega)]; omega
  have v0 : ¬(i : Int) + (n : Int) < 0 := by omega
  obtain ⟨P, hP⟩ : ∃ P, P = pos (kidsOf ts) (i + 1) := ⟨_, rfl⟩; rw [← hP] at HP HPE HPL hP0 HINC; have HPZ : Hid (∀ j, posZ (kidsOf ts) (i + 1) (j + 1) = posZ (kidsOf ts) (i + 1) j ++ [((P j : Nat) : Int)]) := hid (fun j => by rw [hP]; exact posZ_succ _ _ _)
  rw [← hP0] at e1; have HZL : Hid (∀ j, (posZ (kidsOf ts) (i + 1) j).length = j) := hid (fun j => posZ_len _ _ _); generalize hE : (i : Int) + (n : Int) = E at *; have HE := hid hE; generalize posZ (kidsOf ts) (i + 1) = Z at *; clear hE hP hF hq hn hle hi hk hkk hl h hm hk0 hn1 hcur; go_enter Tryz.func74, Tryz.ntmps74
  go_wp2_with (go_at_call 51; refine C0.out.mono ?_; rintro e w1 ⟨rfl, rfl⟩)
  clear C0 e1 v0; generalize hw1 : w.alloc (.cells (cur w) 3) = w1 at *; clear hw1; go_loopw [6, 7] (fun vk va wr => ∃ j : Nat, j ≤ q ∧ va = .int .i64 ((P j : Nat) : Int) ∧ Hid (IR w wr vk (Z j))) (fun _ va _ => i + n - (intOf va).toNat)
  case atStart => exact ⟨0, Nat.zero_le _, by rw [hP0]; go_num, H0⟩
  case round =>
    clear H0; obtain ⟨j, hj, rfl, hI⟩ := hrel; by_cases hlt : j < q
    · obtain ⟨hp1, hp2⟩ := HP.out j hlt
      have hp3 := HPL.out (j + 1) hlt; have CJ := hid (fun W hb => CE.out ((P j : Nat) : Int) W hb); rw [hp2] at CJ; have v1 : ((P j : Nat) : Int) < E := by have := HE.out; omega
      have HN : Hid (Z (j + 1) = Z j ++ [((P j : Nat) : Int)]) := hid (HPZ.out j); have HL := hid (HZL.out j)
      have HMS : Hid (i + n - P (j + 1) < i + n - P j) := hid (by
        have := HINC.out j hlt
        omega)
      generalize P j = a at *; generalize hb : P (j + 1) = b at *; have HBQ := hid hb; clear hb; have N1 := hid (news_at wr #[.int .i64 (a : Int)] 3); clear hp1 hp2 hp3
      go_wp2_with (first
        | (refine wpList_append_lies _ rfl (.tmp 27) (.tmp 29) 55 rfl w.heap.size 3 i0 (.int .i64 0) 1 8 Tryz.underlying55 hi0 hy0 hy1 hy2 rfl (by decide) _ (Z j).length (iv (Z j)) rfl (hI.out.row.alloc _) ⟨wr.heap.size, 0, none⟩ 1 1 [.int .i64 (a : Int)] rfl rfl N1.out (by simp [Value.oneCell']) (by decide) (by rw [HL.out]; unfold maxLen; omega) (by rw [HL.out]; omega) (by have := hI.out.below.size; simp; omega) (wr.heap.size + 1) (by simp) ?_; intro g' cap W7 hrow hgr hgl hlt7; have HX2 := hid (hI.out.push hrow hgr); clear hrow hgr hgl hlt7)
        | (go_at_call 51; refine (CJ.out _ HX2.out.below).mono ?_; rintro e w2 ⟨rfl, rfl⟩))
      go_roundw
      case rel => exact ⟨j + 1, hlt, by rw [HBQ.out], by rw [HN.out]; exact HX2⟩
      case measure => simpa [intOf] using HMS.out
    · obtain rfl : j = q := by omega
      have v1 : ¬((P j : Nat) : Int) < E := by have := HE.out; have := HPE.out; omega
      generalize P j = a at *; go_wp2; go_ret; exact ⟨_, rfl, by rw [HR.out]; exact hI.out⟩
theorem kids_none (ts : List Nd) (v : Value) (i : Int) (w : World) (h : Nds w v ts) (hl : ts.length ≤ 4000) (hn : endI (kidsOf ts) i = -1) :
    Calls Tryz.prog 74 #[v, .int .i64 i] w fun e w' => KidsOk ts i w e w' := by
  have CE := hid (end_any ts v i w h (by omega)); have HR : Hid (kidsZ (kidsOf ts) i = []) := hid (kidsZ_none (by rw [hn]; decide))
  rw [hn] at CE; clear hn h; go_enter Tryz.func74, Tryz.ntmps74
  go_wp2_with (go_at_call 51; refine CE.out.mono ?_; rintro e w1 ⟨rfl, rfl⟩)
  go_ret; exact ⟨_, rfl, by rw [HR.out]; exact IR.first w⟩
theorem kids_any (ts : List Nd) (v : Value) (i : Int) (w : World) (h : Nds w v ts) (hl : ts.length ≤ 4000) :
    Calls Tryz.prog 74 #[v, .int .i64 i] w fun e w' => KidsOk ts i w e w' := by
  rcases endI_cases (kidsOf ts) i with h1 | ⟨k, n, rfl, h1, -, -, -⟩
  · exact kids_none ts v i w h hl h1
  · obtain ⟨p, c, rfl, -⟩ := id h
    exact kids_some ts p _ c k n w rfl h hl h1
end Go.Proofs.YtmljjpdodcpohaaGreatDoor.Tr

namespace Go.Proofs.YtmljjpdodcpohaaGreatDoor.Tr
open Lib (hid)
set_option maxRecDepth 100000
set_option maxHeartbeats 1000000
open Go.RowKit Dk Lx
theorem rkids_some (ts : List Nd) (p : Option Addr) (m c i n : Nat) (w : World) (hm : m = ts.length) (h : Nds w (.slice p m c) ts) (hl : ts.length ≤ 4000) (hn : endW 1 ((kidsOf ts).drop i) = some n) :
    Calls Tryz.prog 62 #[.slice p m c, .int .i64 (i : Int)] w fun e w' => KidsOk ts (i : Int) w e w' := by
  have hle := endW_le _ _ _ hn; rw [List.length_drop, kidsOf_len] at hle; have hi : i < ts.length := by omega
  obtain ⟨k, hk, hk0, hF, hn1⟩ := endW_node hn; have hkk : ts[i].kids = k := by rw [kidsOf_at hi] at hk; exact Option.some.inj hk
  obtain ⟨q, rfl⟩ : ∃ q : Nat, k = (q : Int) := ⟨k.toNat, by omega⟩; rw [Int.toNat_natCast] at hF; have hq := endW_le _ _ _ hF
  have CE : Hid (∀ (a : Int) W, Below w.heap.size w W → Calls Tryz.prog 45 #[.slice p m c, .int .i64 a] W fun e w' => e = .returned (.int .i64 (endI (kidsOf ts) a)) ∧ W = w') :=
    hid (fun a W hb => rend_any ts _ a W (h.later hb) (by omega))
  have HR : Hid (kidsZ (kidsOf ts) (i : Int) = posZ (kidsOf ts) (i + 1) q) := hid (by rw [kidsZ_some hn hk, Int.toNat_natCast]); have C0 := hid (CE.out (i : Int) w (Below.refl _ _)); rw [endI_some hn] at C0; obtain ⟨g, o, rfl, hgs, -, c1, -⟩ := h.node i hi; rw [hkk] at c1; have HC : Hid (∀ W, Below w.heap.size w W → W.cell? ⟨g, o + i * 5 + 1, none⟩ = some (.int .i64 (q : Int))) := hid (fun W hb => by rw [World.cell?_of_block (hb.block g hgs)]; exact c1)
  clear hgs
  have HP : Hid (∀ j, j < q → pos (kidsOf ts) (i + 1) j < i + n ∧ endI (kidsOf ts) ((pos (kidsOf ts) (i + 1) j : Nat) : Int) = ((pos (kidsOf ts) (i + 1) (j + 1) : Nat) : Int)) := hid (fun j hj => by
    obtain ⟨x, t1, t2, t3, t4⟩ := pos_tree hF hj
    exact ⟨by omega, by rw [endI_some t1, t3]; omega⟩)
  have HPE : Hid (pos (kidsOf ts) (i + 1) q = i + n) := hid (by rw [pos_end hF]; omega)
  have HPL : Hid (∀ j, j ≤ q → pos (kidsOf ts) (i + 1) j ≤ i + n) := hid (fun j hj => by have := (pos_at hF j hj).1; omega)
  have hP0 : pos (kidsOf ts) (i + 1) 0 = i + 1 := rfl
  have HINC : Hid (∀ j, j < q → pos (kidsOf ts) (i + 1) j < pos (kidsOf ts) (i + 1) (j + 1) ∧ pos (kidsOf ts) (i + 1) (j + 1) ≤ i + n) := hid (fun j hj => by
    obtain ⟨x, t1, t2, t3, t4⟩ := pos_tree hF hj
    omega)
  have H0 : Hid (IR w w (.slice none 0 0) (posZ (kidsOf ts) (i + 1) 0)) := hid (IR.first w); obtain ⟨i0, hi0, hy0, hy1, hy2⟩ := info_parts int_info3; have hin : i + n ≤ 4000 := by omega
  have hm4 : m ≤ 4000 := by omega
  have him : i < m := by omega
  have hq4 : q ≤ 4000 := by omega
  have z0 : (0 : Int) ≤ (i : Int) := by omega
  have z1 : (i : Int) < (m : Int) := by omega
  have e1 : IntKind.i64.wrap ((i : Int) + 1) = ((i + 1 : Nat) : Int) := by rw [wrap_in _ (by omega)]; omega
  have v0 : ¬(i : Int) + (n : Int) < 0 := by omega
  obtain ⟨P, hP⟩ : ∃ P, P = pos (kidsOf ts) (i + 1) := ⟨_, rfl⟩; rw [← hP] at HP HPE HPL hP0 HINC; have HPZ : Hid (∀ j, posZ (kidsOf ts) (i + 1) (j + 1) = posZ (kidsOf ts) (i + 1) j ++ [((P j : Nat) : Int)]) := hid (fun j => by rw [hP]; exact posZ_succ _ _ _)
  rw [← hP0] at e1; have HZL : Hid (∀ j, (posZ (kidsOf ts) (i + 1) j).length = j) := hid (fun j => posZ_len _ _ _); generalize hE : (i : Int) + (n : Int) = E at *; have HE := hid hE; generalize posZ (kidsOf ts) (i + 1) = Z at *; clear hE hP hF hq hn hle hi hk hkk hl h hm hk0 hn1; go_enter Tryz.func62, Tryz.ntmps62
  go_wp2_with (go_at_call 45; refine C0.out.mono ?_; rintro e w1 ⟨rfl, rfl⟩)
  clear C0 e1 v0; go_loopw [5, 6, 7] (fun vk va vj wr => ∃ j : Nat, j ≤ q ∧ va = .int .i64 ((P j : Nat) : Int) ∧ vj = .int .i64 (j : Int) ∧ Hid (IR w wr vk (Z j))) (fun _ _ vj _ => q - (intOf vj).toNat)
  case atStart => exact ⟨0, Nat.zero_le _, by rw [hP0]; go_num, rfl, H0⟩
  case round =>
    clear H0; obtain ⟨j, hj, rfl, rfl, hI⟩ := hrel; by_cases hlt : j < q
    · obtain ⟨hp1, hp2⟩ := HP.out j hlt
      have hp3 := HPL.out (j + 1) hlt; have CJ := hid (fun W hb => CE.out ((P j : Nat) : Int) W hb); rw [hp2] at CJ; have v1 : (j : Int) < (q : Int) := by omega
      have cq : wr.cell? ⟨g, o + i * 5 + 1, none⟩ = some (.int .i64 (q : Int)) := HC.out wr hI.out.below; have HN : Hid (Z (j + 1) = Z j ++ [((P j : Nat) : Int)]) := hid (HPZ.out j); have HL := hid (HZL.out j)
      have HMS : Hid (i + n - P (j + 1) < i + n - P j) := hid (by
        have := HINC.out j hlt
        omega)
      generalize P j = a at *; generalize hb : P (j + 1) = b at *; have HBQ := hid hb; clear hb; have N1 := hid (news_at wr #[.int .i64 (a : Int)] 3); clear hp1 hp2 hp3
      go_wp2_with (first
        | (refine wpList_append_lies _ rfl (.tmp 24) (.tmp 26) 55 rfl w.heap.size 3 i0 (.int .i64 0) 1 8 Tryz.underlying55 hi0 hy0 hy1 hy2 rfl (by decide) _ (Z j).length (iv (Z j)) rfl (hI.out.row.alloc _) ⟨wr.heap.size, 0, none⟩ 1 1 [.int .i64 (a : Int)] rfl rfl N1.out (by simp [Value.oneCell']) (by decide) (by rw [HL.out]; unfold maxLen; omega) (by rw [HL.out]; omega) (by have := hI.out.below.size; simp; omega) (wr.heap.size + 1) (by simp) ?_; intro g' cap W7 hrow hgr hgl hlt7; have HX2 := hid (hI.out.push hrow hgr); clear hrow hgr hgl hlt7)
        | (go_at_call 45; refine (CJ.out _ HX2.out.below).mono ?_; rintro e w2 ⟨rfl, rfl⟩))
      go_roundw
      case rel => exact ⟨j + 1, hlt, by rw [HBQ.out], by go_num, by rw [HN.out]; exact HX2⟩
      case measure => simp [intOf]; omega
    · obtain rfl : j = q := by omega
      have cq : wr.cell? ⟨g, o + i * 5 + 1, none⟩ = some (.int .i64 (j : Int)) := HC.out wr hI.out.below; generalize P j = a at *; go_wp2; go_ret; exact ⟨_, rfl, by rw [HR.out]; exact hI.out⟩
theorem rkids_none (ts : List Nd) (v : Value) (i : Int) (w : World) (h : Nds w v ts) (hl : ts.length ≤ 4000) (hn : endI (kidsOf ts) i = -1) :
    Calls Tryz.prog 62 #[v, .int .i64 i] w fun e w' => KidsOk ts i w e w' := by
  have CE := hid (rend_any ts v i w h (by omega)); have HR : Hid (kidsZ (kidsOf ts) i = []) := hid (kidsZ_none (by rw [hn]; decide))
  rw [hn] at CE; clear hn h; go_enter Tryz.func62, Tryz.ntmps62
  go_wp2_with (go_at_call 45; refine CE.out.mono ?_; rintro e w1 ⟨rfl, rfl⟩)
  go_ret; exact ⟨_, rfl, by rw [HR.out]; exact IR.first w⟩
theorem rkids_any (ts : List Nd) (v : Value) (i : Int) (w : World) (h : Nds w v ts) (hl : ts.length ≤ 4000) :
    Calls Tryz.prog 62 #[v, .int .i64 i] w fun e w' => KidsOk ts i w e w' := by
  rcases endI_cases (kidsOf ts) i with h1 | ⟨k, n, rfl, h1, -, -, -⟩
  · exact rkids_none ts v i w h hl h1
  · obtain ⟨p, c, rfl, -⟩ := id h
    exact rkids_some ts p _ c k n w rfl h hl h1
end Go.Proofs.YtmljjpdodcpohaaGreatDoor.Tr

namespace Go.Proofs.YtmljjpdodcpohaaGreatDoor.Dk
open Go.RowKit
theorem eql_slice_nil {P : Program} (t e : TypeId) (a : Option Addr) (l c : Nat) (h : P.underlying t = some (.slice e)) (w : World) : (binOp .eql t (.slice a l c) (.slice none 0 0)).run P w = .ok (.bool a.isNone) w := by
  have h1 : ∀ d, (Op.equalIn (d + 1) t (.slice a l c) (.slice none 0 0)).run P w = .ok a.isNone w := fun d => by
    cases a <;> simp [Op.equalIn, run_underlying h]
  simp only [binOp]; simp [show Op.equal t (.slice a l c) (.slice none 0 0) = Op.equalIn (9999 + 1) t (.slice a l c) (.slice none 0 0) from rfl, h1 9999]
theorem build_none {P : Program} (t e : TypeId) (z : Value) (size bytes : Nat) (hu : P.underlying t = some (.slice e)) (hinfo : (P.info? e).map (fun i => (i.zero, i.size, i.bytes)) = some (some z, size, bytes)) (_hz : z.cells.size = size) (h0 : 0 < size) (h1 : size ≤ 16777216) (W : World) :
    (Instr.buildSlice t 0 #[]).run P W = .ok (.slice (some ⟨W.heap.size, 0, none⟩) 0 0) (W.alloc (.cells #[] e)) := by
  obtain ⟨i, hi, hz0, hs, hb⟩ := info_parts hinfo; have hn0 : ¬ size = 0 := by omega
  have hne : ¬ (16777216 < size) := by omega
  simp [Instr.buildSlice, run_underlying hu, sizeOf, typeInfo, hi, Instr.fill, newRow, go_sem]
end Go.Proofs.YtmljjpdodcpohaaGreatDoor.Dk

namespace Go.Proofs.YtmljjpdodcpohaaGreatDoor.Tr
set_option maxRecDepth 100000
open Go.RowKit Dk Lx
section
variable {Pr : Program} {ops : Array Oper} {Q : Act → Prop} {a : Act} {w : World} {o : Oper} {rest : List Oper}
end
structure NR (w w' : World) (v : Value) (l : List Nd) : Prop where
  row : w'.ownsRow w.heap.size 58 5 v l.length (ncells l)
  below : Below w.heap.size w w'
theorem NR.first (w : World) : NR w w (.slice none 0 0) [] := ⟨World.ownsRow_nil _ _ _ _, Below.refl _ _⟩
theorem NR.nds {w W : World} {v : Value} {l : List Nd} (h : NR w W v l) (hf : Fit l) : Nds W v l := by
  rcases h.row.2 with ⟨hv, h0⟩ | ⟨g, cap, cur, hv, hbg, hg, h3, h4, h5, h6⟩
  · exact ⟨none, 0, by rw [hv, h0], by omega, hf, .inl (List.eq_nil_of_length_eq_zero h0)⟩
  · have hrow := h.row
    rw [hv] at hrow; refine ⟨_, cap, hv, h3, hf, .inr ⟨g, 0, rfl, ?_, ?_⟩⟩
    · rcases Nat.lt_or_ge g W.heap.size with h | h
      · exact h
      · rw [Array.getElem?_eq_none h] at hg; cases hg
    · exact ownsRow_range hrow
def subL (ts : List Nd) (i : Int) : List Nd := match endW 1 ((kidsOf ts).drop i.toNat) with
  | some n => if i < 0 then [] else (ts.drop i.toNat).take n
  | none => []
theorem subL_none {ts : List Nd} {i : Int} (h : endI (kidsOf ts) i = -1) : subL ts i = [] := by
  unfold subL; rcases endI_cases (kidsOf ts) i with h1 | ⟨k, n, rfl, h1, -, -, h2⟩
  · by_cases hi : i < 0
    · split
      · rw [if_pos hi]
      · rfl
    · obtain ⟨k, rfl⟩ : ∃ k : Nat, i = (k : Int) := ⟨i.toNat, by omega⟩
      cases hn : endW 1 ((kidsOf ts).drop k) with
      | none => rw [Int.toNat_natCast, hn]
      | some n => rw [endI_some hn] at h; omega
  · rw [h2] at h; omega
theorem subL_some {ts : List Nd} {k n : Nat} (h : endW 1 ((kidsOf ts).drop k) = some n) : subL ts (k : Int) = (ts.drop k).take n := by
  unfold subL; rw [Int.toNat_natCast, h]; exact if_neg (by omega)
def SubOk (ts : List Nd) (i : Int) (w : World) (e : Ending) (w' : World) : Prop := ∃ v, e = .returned v ∧ NR w w' v (subL ts i)
theorem run_slice_mid (g o m c i n : Nat) (h1 : i + n ≤ m) (h2 : m ≤ c) (hn : 1 ≤ n) (W : World) :
    (Instr.slice 22 (.slice (some ⟨g, o, none⟩) m c) (some (.int .i64 (i : Int))) (some (.int .i64 ((i : Int) + (n : Int)))) none).run Tryz.prog W = .ok (.slice (some ⟨g, o + i * 5, none⟩) n (c - i)) W := by
  rw [run_slice_lh W 22 _ m c (by kernel_rfl) .i64 .i64 (i : Int) _ (by omega) (by omega) (by omega), nd_size]; show Result.ok (sliced _ (i : Int).toNat ((i : Int) + (n : Int)).toNat c 5) W = _
  rw [show ((i : Int) + (n : Int)).toNat = i + n by omega, Int.toNat_natCast]; unfold sliced; simp [Addr.add_mid, Nat.add_sub_cancel_left]
  omega
theorem ncells_part {ts : List Nd} {i n : Nat} (h : i + n ≤ ts.length) {W : World} {g o : Nat} (hr : W.rangeAt g o (ncells ts)) : W.rangeAt g (o + i * 5) (ncells ((ts.drop i).take n)) := by
  have e1 : ncells ts = ncells (ts.take i) ++ (ncells ((ts.drop i).take n) ++ ncells ((ts.drop i).drop n)) := by
    rw [← ncells_app, ← ncells_app, List.take_append_drop, List.take_append_drop]
  rw [e1] at hr; exact rangeAt_left (rangeAt_right hr (by rw [ncells_length, List.length_take, Nat.min_eq_left (by omega)]))
end Go.Proofs.YtmljjpdodcpohaaGreatDoor.Tr

namespace Go.Proofs.YtmljjpdodcpohaaGreatDoor.Lx
open Lib (hid)
set_option maxHeartbeats 2000000
open Go.RowKit Dk
def oneV (p : Nat) : One → Value
  | .bad e => .tuple #[.agg Tk.zero.cells.toArray, .int .i64 0, .int .i64 (e : Int)]
  | .tok k t n len => .tuple #[.agg (Tk.mk k t n p).cells.toArray, .int .i64 ((p : Int) + (len : Int)), .int .i64 0]
theorem extract_mid (s : ByteArray) (a n : Nat) : s.extract a (a + n) = strOf ((from' s a).take n) := by
  have : (s.extract a (a + n)).data.toList = (from' s a).take n := by
    rw [Lib.extract_data]; unfold from'
    simp
  rw [← strOf_self (s.extract a (a + n)), this]
theorem run_mid {P : Program} (s : ByteArray) (a n : Nat) (h : a + n ≤ s.size) (t : TypeId) (ht : P.underlying t = some .string) (W : World) : (Instr.slice t (.string s) (some (.int .i64 (a : Int))) (some (.int .i64 ((a : Int) + (n : Int)))) none).run P W = .ok (.string (strOf ((from' s a).take n))) W := by
  rw [run_slice_string W t s .i64 .i64 _ _ ht (by omega) (by omega) (by omega), ← extract_mid]; have e1 : ((a : Int)).toNat = a := by omega
  have e2 : ((a : Int) + (n : Int)).toNat = a + n := by omega
  rw [e1, e2]
def TW (w W : World) (t : Tk) : Prop := TB W w.heap.size t ∧ Below w.heap.size w W
theorem tw_new (w : World) : TW w (w.alloc (.cells #[.int .i64 0, .string ⟨#[]⟩, .int .i64 0, .int .i64 0] 73)) Tk.zero := ⟨tb_new w Tk.zero _, (Below.refl _ _).alloc (Nat.le_refl _) _⟩
theorem TW.later {w W W' : World} {t : Tk} (h : TW w W t) (hb : Below W.heap.size W W') : TW w W' t := ⟨h.1.later hb, chain2 h.2 hb⟩
theorem TW.put {w W : World} {t : Tk} (h : TW w W t) (t' : Tk) : TW w (W.setCells w.heap.size 0 t'.cells.toArray.toList) t' := ⟨h.1.set t', below_setCells h.2 _ (Nat.le_refl _) _ _ _ h.2⟩
theorem nextMark_any (s : ByteArray) (a : Nat) (c : UInt8) (r : List UInt8) (w : World) (hl : from' s a = c :: r) (hs : s.size ≤ 2 ^ 40) :
    Calls Tryz.prog 143 #[.string s, .int .i64 (a : Int)] w fun e w' => e = .returned (oneV a (markOne (from' s a))) ∧ Below w.heap.size w w' := by
  have hlen := from_length s a; rw [hl] at hlen; simp at hlen
  have hle := markN_le (c :: r); simp at hle
  have hsl := fun W => run_from (P := Tryz.prog) s a (by omega) 9 Tryz.underlying9 W
  have hex : s.extract a s.size = strOf (c :: r) := by rw [← hl, ← extract_list s a]; exact (strOf_self _).symm
  rw [hex] at hsl; have C := hid (fun W => markSize_any c r W); have hmid := fun W => run_mid (P := Tryz.prog) s a (markN (c :: r)) (by omega) 9 Tryz.underlying9 W
  rw [hl] at hmid ⊢; unfold markOne; generalize hT : (c :: r).take (markN (c :: r)) = T at hmid ⊢; generalize markN (c :: r) = n at *; generalize strOf (c :: r) = x at *; clear hex hl hT; have HZ := hid (tw_new w); go_enter Tryz.func143, Tryz.ntmps143
  go_wp2_with fail
  generalize w.alloc _ = W1 at HZ ⊢; refine (C.out _).mono ?_; rintro e W2 ⟨rfl, hb⟩; have HY := hid (HZ.out.later hb); clear hb HZ C; by_cases h0 : n = 0
  · subst h0
    go_wp2_with (refine wpList_store_mid rfl 73 _ _ rfl w.heap.size 0 Tk.zero.cells.toArray rfl rfl HY.out.1.room (t_infoA _) (t_all _) ?_; have HR := hid (HY.out.put Tk.zero); generalize World.setCells _ _ _ _ = W8 at HR ⊢)
    refine bodyPost_ret (results_cell3 rfl _ _ rfl HR.out.1.cells Tryz.underlying73 rfl (t_info _)) rfl ?_; exact ⟨rfl, HR.out.2⟩
  · have e1 : IntKind.i64.wrap ((a : Int) + (n : Int)) = (a : Int) + (n : Int) := IntWalk.i64_in _ (by omega)
    have h2 : ((n : Int) == 0) = false := by simpa using h0
    go_wp2_with (refine wpList_store_mid rfl 73 _ _ rfl w.heap.size 0 (Tk.mk 4 T 0 a).cells.toArray rfl rfl HY.out.1.room (t_infoA _) (t_all _) ?_; have HR := hid (HY.out.put (Tk.mk 4 T 0 a)); generalize World.setCells _ _ _ _ = W8 at HR ⊢)
    refine bodyPost_ret (results_cell3 rfl _ _ rfl HR.out.1.cells Tryz.underlying73 rfl (t_info _)) rfl ?_; exact ⟨by first | rfl | (rw [if_neg h0]; rfl), HR.out.2⟩
theorem nextWord_any (s : ByteArray) (a : Nat) (w : World) (ha : a ≤ s.size) (hs : s.size ≤ 2 ^ 40) :
    Calls Tryz.prog 139 #[.string s, .int .i64 (a : Int)] w fun e w' => e = .returned (oneV a (wordOf (from' s a) (spanN isW (from' s a)))) ∧ Below w.heap.size w w' := by
  have hlen := from_length s a; have hle := spanN_le isW (from' s a); have C := hid (fun W => wordEnd_any s a W ha hs); have hmid := fun W => run_mid (P := Tryz.prog) s a (spanN isW (from' s a)) (by omega) 9 Tryz.underlying9 W
  have K := hid (fun W => key_any ((from' s a).take (spanN isW (from' s a))) W); have hsz := strOf_size ((from' s a).take (spanN isW (from' s a))); rw [List.length_take, Nat.min_eq_left hle] at hsz; unfold wordOf; generalize (from' s a).take (spanN isW (from' s a)) = T at *; generalize spanN isW (from' s a) = n at *; rw [Int.natCast_add] at C; have HZ := hid (tw_new w); go_enter Tryz.func139, Tryz.ntmps139
  go_wp2_with fail
  generalize w.alloc _ = W1 at HZ ⊢; refine (C.out _).mono ?_; rintro e W2 ⟨rfl, hb⟩; have HY := hid (HZ.out.later hb); clear hb HZ C; cases hk : isKey T with
  | true =>
    rw [hk] at K; have HK := hid hk; clear hk
    go_wp2_with (first
      | (go_at_call 99; refine (K.out _).mono ?_; rintro e w' ⟨rfl, rfl⟩)
      | (refine wpList_store_mid rfl 73 _ _ rfl w.heap.size 0 (Tk.mk 5 T 0 a).cells.toArray rfl rfl HY.out.1.room (t_infoA _) (t_all _) ?_; have HR := hid (HY.out.put (Tk.mk 5 T 0 a)); generalize World.setCells _ _ _ _ = W8 at HR ⊢))
    refine bodyPost_ret (results_cell3 rfl _ _ rfl HR.out.1.cells Tryz.underlying73 rfl (t_info _)) rfl ?_; exact ⟨by first | rfl | (rw [if_pos HK.out]; rfl), HR.out.2⟩
  | false =>
    rw [hk] at K; have HK : Hid (¬isKey T = true) := hid (by rw [hk]; exact Bool.false_ne_true)
    clear hk; by_cases h16 : 16 < n
    · have h2 : ((strOf T).size : Int) > 16 := by omega
      go_wp2_with (first
        | (go_at_call 99; refine (K.out _).mono ?_; rintro e w' ⟨rfl, rfl⟩)
        | (refine wpList_store_mid rfl 73 _ _ rfl w.heap.size 0 Tk.zero.cells.toArray rfl rfl HY.out.1.room (t_infoA _) (t_all _) ?_; have HR := hid (HY.out.put Tk.zero); generalize World.setCells _ _ _ _ = W8 at HR ⊢))
      refine bodyPost_ret (results_cell3 rfl _ _ rfl HR.out.1.cells Tryz.underlying73 rfl (t_info _)) rfl ?_; exact ⟨by first | rfl | (rw [if_pos h16]; rfl) | (rw [if_neg HK.out, if_pos h16]; rfl), HR.out.2⟩
    · have h2 : ¬((strOf T).size : Int) > 16 := by omega
      go_wp2_with (first
        | (go_at_call 99; refine (K.out _).mono ?_; rintro e w' ⟨rfl, rfl⟩)
        | (refine wpList_store_mid rfl 73 _ _ rfl w.heap.size 0 (Tk.mk 1 T 0 a).cells.toArray rfl rfl HY.out.1.room (t_infoA _) (t_all _) ?_; have HR := hid (HY.out.put (Tk.mk 1 T 0 a)); generalize World.setCells _ _ _ _ = W8 at HR ⊢))
      refine bodyPost_ret (results_cell3 rfl _ _ rfl HR.out.1.cells Tryz.underlying73 rfl (t_info _)) rfl ?_; exact ⟨by first | rfl | (rw [if_neg h16]; rfl) | (rw [if_neg HK.out, if_neg h16]; rfl), HR.out.2⟩
end Go.Proofs.YtmljjpdodcpohaaGreatDoor.Lx

