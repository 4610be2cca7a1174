/- The walks of tree.Kids and of the document's Kids: their contracts. The walk of the document's Kids: its contract. Whether nodes are alike, as the program and the document ask it: the walks of slices.Equal, tree.Same and of the document's Same; rows of nodes that a call owns; the walks of both Sub: their contracts. No condition but those that each states. -/
import Derived.Test.YtemlceicmpcboaaGreatDoorMgC
import Derived.Deep.AppendLies
import Derived.Laws.StructEq
namespace Go.Proofs.YtemlceicmpcboaaGreatDoor.Tr
open Go.RowKit Dk Lx

/-- The places of kids as ints. -/
def kidsZ (ks : List Int) (i : Int) : List Int := (kidsL ks i).map fun (x : Nat) => (x : Int)

def posZ (ks : List Int) (p j : Nat) : List Int := ((List.range j).map (pos ks p)).map fun (x : Nat) => (x : Int)
theorem posZ_succ (ks : List Int) (p j : Nat) : posZ ks p (j + 1) = posZ ks p j ++ [((pos ks p j : Nat) : Int)] := by unfold posZ; rw [List.range_succ]; simp
theorem posZ_len (ks : List Int) (p j : Nat) : (posZ ks p j).length = j := by unfold posZ; simp
theorem kidsZ_some {ks : List Int} {i n : Nat} {k : Int} (h : endW 1 (ks.drop i) = some n) (hk : ks[i]? = some k) : kidsZ ks (i : Int) = posZ ks (i + 1) k.toNat := by unfold kidsZ posZ; rw [kidsL_some h hk]
theorem kidsZ_none {ks : List Int} {i : Int} (h : endI ks i < 0) : kidsZ ks i = [] := by unfold kidsZ; rw [kidsL_none h]; rfl

/-- What Kids answers: a row of its own. -/
def KidsOk (ts : List Nd) (i : Int) (w : World) (e : Ending) (w' : World) : Prop := ∃ v, e = .returned v ∧ IR w w' v (kidsZ (kidsOf ts) i)

theorem run_make0 (k : Nat) (hk : k ≤ 100000) (W : World) : ∃ cur : Array Value, cur.size = k * 1 ∧ (Instr.makeSlice 63 (.int .i64 0) (.int .i64 (k : Int))).run Tryz.prog W = .ok (.slice (some ⟨W.heap.size, 0, none⟩) 0 k) (W.alloc (.cells cur 3)) := by
  obtain ⟨i0, hi0, hy0, hy1, hy2⟩ := info_parts int_info3
  refine ⟨_, ?_, by
    have := run_make (P := Tryz.prog) W 63 3 i0 (.int .i64 0) Tryz.underlying63 hi0 hy0 .i64 .i64 0 (k : Int) (by omega) (by omega) (by rw [hy2]; omega) (by omega)
    simpa using this⟩
  rw [hy1]; simp [size_madeCells]

set_option maxHeartbeats 1000000 in
set_option maxRecDepth 100000 in
theorem kids_some (ts : List Nd) (p : Option Addr) (m c i n : Nat) (w : World) (hm : m = ts.length) (h : Nds w (.slice p m c) ts) (hl : ts.length ≤ 4000) (hn : endW 1 ((kidsOf ts).drop i) = some n) :
    Calls Tryz.prog 105 #[.slice p m c, .int .i64 (i : Int)] w fun e w' => KidsOk ts (i : Int) w e w' := by
  have hle := endW_le _ _ _ hn
  rw [List.length_drop, kidsOf_len] at hle
  have hi : i < ts.length := by omega
  obtain ⟨k, hk, hk0, hF, hn1⟩ := endW_node hn
  have hkk : ts[i].kids = k := by rw [kidsOf_at hi] at hk; exact Option.some.inj hk
  obtain ⟨q, rfl⟩ : ∃ q : Nat, k = (q : Int) := ⟨k.toNat, by omega⟩
  rw [Int.toNat_natCast] at hF
  have hq := endW_le _ _ _ hF
  have CE : Hid (∀ (a : Int) W, Below w.heap.size w W → Calls Tryz.prog 48 #[.slice p m c, .int .i64 a] W fun e w' => e = .returned (.int .i64 (endI (kidsOf ts) a)) ∧ W = w') :=
    Lib.hid (fun a W hb => end_any ts _ a W (h.later hb) (by omega))
  have HR : Hid (kidsZ (kidsOf ts) (i : Int) = posZ (kidsOf ts) (i + 1) q) := Lib.hid (by rw [kidsZ_some hn hk, Int.toNat_natCast])
  have C0 := Lib.hid (CE.out (i : Int) w (Below.refl _ _))
  rw [endI_some hn] at C0
  obtain ⟨g, o, rfl, -, -, c1, -⟩ := h.node i hi
  rw [hkk] at c1
  have HP : Hid (∀ j, j < q → pos (kidsOf ts) (i + 1) j < i + n ∧ endI (kidsOf ts) ((pos (kidsOf ts) (i + 1) j : Nat) : Int) = ((pos (kidsOf ts) (i + 1) (j + 1) : Nat) : Int)) := Lib.hid (fun j hj => by
    obtain ⟨x, t1, t2, t3, t4⟩ := pos_tree hF hj
    exact ⟨by omega, by rw [endI_some t1, t3]; omega⟩)
  have HPE : Hid (pos (kidsOf ts) (i + 1) q = i + n) := Lib.hid (by rw [pos_end hF]; omega)
  have HPL : Hid (∀ j, j ≤ q → pos (kidsOf ts) (i + 1) j ≤ i + n) := Lib.hid (fun j hj => by have := (pos_at hF j hj).1; omega)
  have hP0 : pos (kidsOf ts) (i + 1) 0 = i + 1 := rfl
  have HINC : Hid (∀ j, j < q → pos (kidsOf ts) (i + 1) j < pos (kidsOf ts) (i + 1) (j + 1) ∧ pos (kidsOf ts) (i + 1) (j + 1) ≤ i + n) := Lib.hid (fun j hj => by
    obtain ⟨x, t1, t2, t3, t4⟩ := pos_tree hF hj
    omega)
  obtain ⟨cur, hcur, hmk⟩ : ∃ cur : World → Array Value, (∀ W, (cur W).size = q * 1) ∧ ∀ W, (Instr.makeSlice 63 (.int .i64 0) (.int .i64 (q : Int))).run Tryz.prog W = .ok (.slice (some ⟨W.heap.size, 0, none⟩) 0 q) (W.alloc (.cells (cur W) 3)) :=
    ⟨fun W => (run_make0 q (by omega) W).choose, fun W => (run_make0 q (by omega) W).choose_spec.1, fun W => (run_make0 q (by omega) W).choose_spec.2⟩
  have H0 : Hid (IR w (w.alloc (.cells (cur w) 3)) (.slice (some ⟨w.heap.size, 0, none⟩) 0 q) (posZ (kidsOf ts) (i + 1) 0)) :=
    Lib.hid ⟨World.ownsRow_made w _ q (Nat.le_refl _) (by unfold maxLen; omega) (hcur w), (Below.refl _ _).alloc (Nat.le_refl _) _⟩
  obtain ⟨i0, hi0, hy0, hy1, hy2⟩ := info_parts int_info3
  have hin : i + n ≤ 4000 := by omega
  have hm4 : m ≤ 4000 := by omega
  have him : i < m := by omega
  have hq4 : q ≤ 4000 := by omega
  have z0 : (0 : Int) ≤ (i : Int) := by omega
  have z1 : (i : Int) < (m : Int) := by omega
  have e1 : IntKind.i64.wrap ((i : Int) + 1) = ((i + 1 : Nat) : Int) := by rw [wrap_in _ (by omega)]; omega
  have v0 : ¬(i : Int) + (n : Int) < 0 := by omega
  obtain ⟨P, hP⟩ : ∃ P, P = pos (kidsOf ts) (i + 1) := ⟨_, rfl⟩
  rw [← hP] at HP HPE HPL hP0 HINC
  have HPZ : Hid (∀ j, posZ (kidsOf ts) (i + 1) (j + 1) = posZ (kidsOf ts) (i + 1) j ++ [((P j : Nat) : Int)]) := Lib.hid (fun j => by rw [hP]; exact posZ_succ _ _ _)
  rw [← hP0] at e1
  have HZL : Hid (∀ j, (posZ (kidsOf ts) (i + 1) j).length = j) := Lib.hid (fun j => posZ_len _ _ _)
  generalize hE : (i : Int) + (n : Int) = E at *
  have HE := Lib.hid hE
  generalize posZ (kidsOf ts) (i + 1) = Z at *
  clear hE hP hF hq hn hle hi hk hkk hl h hm hk0 hn1 hcur
  go_enter Tryz.func105, Tryz.ntmps105
  go_wp2_with (go_at_call 48; refine C0.out.mono ?_; rintro e w1 ⟨rfl, rfl⟩)
  clear C0 e1 v0
  generalize hw1 : w.alloc (.cells (cur w) 3) = w1 at *
  clear hw1
  go_loopw [6, 7] (fun vk va wr => ∃ j : Nat, j ≤ q ∧ va = .int .i64 ((P j : Nat) : Int) ∧ Hid (IR w wr vk (Z j))) (fun _ va _ => i + n - (intOf va).toNat)
  case atStart => exact ⟨0, Nat.zero_le _, by rw [hP0]; go_num, H0⟩
  case round =>
    clear H0
    obtain ⟨j, hj, rfl, hI⟩ := hrel
    by_cases hlt : j < q
    · obtain ⟨hp1, hp2⟩ := HP.out j hlt
      have hp3 := HPL.out (j + 1) hlt
      have CJ := Lib.hid (fun W hb => CE.out ((P j : Nat) : Int) W hb)
      rw [hp2] at CJ
      have v1 : ((P j : Nat) : Int) < E := by have := HE.out; omega
      have HN : Hid (Z (j + 1) = Z j ++ [((P j : Nat) : Int)]) := Lib.hid (HPZ.out j)
      have HL := Lib.hid (HZL.out j)
      have HMS : Hid (i + n - P (j + 1) < i + n - P j) := Lib.hid (by
        have := HINC.out j hlt
        omega)
      generalize P j = a at *
      generalize hb : P (j + 1) = b at *
      have HBQ := Lib.hid hb
      clear hb
      have N1 := Lib.hid (news_at wr #[.int .i64 (a : Int)] 3)
      clear hp1 hp2 hp3
      go_wp2_with (first
        | (refine wpList_append_lies _ rfl (.tmp 27) (.tmp 29) 63 rfl w.heap.size 3 i0 (.int .i64 0) 1 8 Tryz.underlying63 hi0 hy0 hy1 hy2 rfl (by decide) _ (Z j).length (iv (Z j)) rfl (hI.out.row.alloc _) ⟨wr.heap.size, 0, none⟩ 1 1 [.int .i64 (a : Int)] rfl rfl N1.out (by simp [Value.oneCell']) (by decide) (by rw [HL.out]; unfold maxLen; omega) (by rw [HL.out]; omega) (by have := hI.out.below.size; simp; omega) (wr.heap.size + 1) (by simp) ?_; intro g' cap W7 hrow hgr hgl hlt7; have HX2 := Lib.hid (hI.out.push hrow hgr); clear hrow hgr hgl hlt7)
        | (go_at_call 48; refine (CJ.out _ HX2.out.below).mono ?_; rintro e w2 ⟨rfl, rfl⟩))
      go_roundw
      case rel => exact ⟨j + 1, hlt, by rw [HBQ.out], by rw [HN.out]; exact HX2⟩
      case measure => simpa [intOf] using HMS.out
    · obtain rfl : j = q := by omega
      have v1 : ¬((P j : Nat) : Int) < E := by have := HE.out; have := HPE.out; omega
      generalize P j = a at *
      go_wp2
      go_ret
      exact ⟨_, rfl, by rw [HR.out]; exact hI.out⟩

set_option maxHeartbeats 400000 in
theorem kids_none (ts : List Nd) (v : Value) (i : Int) (w : World) (h : Nds w v ts) (hl : ts.length ≤ 4000) (hn : endI (kidsOf ts) i = -1) :
    Calls Tryz.prog 105 #[v, .int .i64 i] w fun e w' => KidsOk ts i w e w' := by
  have CE := Lib.hid (end_any ts v i w h (by omega))
  have HR : Hid (kidsZ (kidsOf ts) i = []) := Lib.hid (kidsZ_none (by rw [hn]; decide))
  rw [hn] at CE
  clear hn h
  go_enter Tryz.func105, Tryz.ntmps105
  go_wp2_with (go_at_call 48; refine CE.out.mono ?_; rintro e w1 ⟨rfl, rfl⟩)
  go_ret
  exact ⟨_, rfl, by rw [HR.out]; exact IR.first w⟩

theorem kids_any (ts : List Nd) (v : Value) (i : Int) (w : World) (h : Nds w v ts) (hl : ts.length ≤ 4000) :
    Calls Tryz.prog 105 #[v, .int .i64 i] w fun e w' => KidsOk ts i w e w' := by
  rcases endI_cases (kidsOf ts) i with h1 | ⟨k, n, rfl, h1, -, -, -⟩
  · exact kids_none ts v i w h hl h1
  · obtain ⟨p, c, rfl, -⟩ := id h
    exact kids_some ts p _ c k n w rfl h hl h1

end Go.Proofs.YtemlceicmpcboaaGreatDoor.Tr
namespace Go.Proofs.YtemlceicmpcboaaGreatDoor.Tr
open Go.RowKit Dk Lx

set_option maxHeartbeats 1000000 in
set_option maxRecDepth 100000 in
theorem rkids_some (ts : List Nd) (p : Option Addr) (m c i n : Nat) (w : World) (hm : m = ts.length) (h : Nds w (.slice p m c) ts) (hl : ts.length ≤ 4000) (hn : endW 1 ((kidsOf ts).drop i) = some n) :
    Calls Tryz.prog 81 #[.slice p m c, .int .i64 (i : Int)] w fun e w' => KidsOk ts (i : Int) w e w' := by
  have hle := endW_le _ _ _ hn
  rw [List.length_drop, kidsOf_len] at hle
  have hi : i < ts.length := by omega
  obtain ⟨k, hk, hk0, hF, hn1⟩ := endW_node hn
  have hkk : ts[i].kids = k := by rw [kidsOf_at hi] at hk; exact Option.some.inj hk
  obtain ⟨q, rfl⟩ : ∃ q : Nat, k = (q : Int) := ⟨k.toNat, by omega⟩
  rw [Int.toNat_natCast] at hF
  have hq := endW_le _ _ _ hF
  have CE : Hid (∀ (a : Int) W, Below w.heap.size w W → Calls Tryz.prog 63 #[.slice p m c, .int .i64 a] W fun e w' => e = .returned (.int .i64 (endI (kidsOf ts) a)) ∧ W = w') :=
    Lib.hid (fun a W hb => rend_any ts _ a W (h.later hb) (by omega))
  have HR : Hid (kidsZ (kidsOf ts) (i : Int) = posZ (kidsOf ts) (i + 1) q) := Lib.hid (by rw [kidsZ_some hn hk, Int.toNat_natCast])
  have C0 := Lib.hid (CE.out (i : Int) w (Below.refl _ _))
  rw [endI_some hn] at C0
  obtain ⟨g, o, rfl, hgs, -, c1, -⟩ := h.node i hi
  rw [hkk] at c1
  have HC : Hid (∀ W, Below w.heap.size w W → W.cell? ⟨g, o + i * 5 + 1, none⟩ = some (.int .i64 (q : Int))) := Lib.hid (fun W hb => by rw [World.cell?_of_block (hb.block g hgs)]; exact c1)
  clear hgs
  have HP : Hid (∀ j, j < q → pos (kidsOf ts) (i + 1) j < i + n ∧ endI (kidsOf ts) ((pos (kidsOf ts) (i + 1) j : Nat) : Int) = ((pos (kidsOf ts) (i + 1) (j + 1) : Nat) : Int)) := Lib.hid (fun j hj => by
    obtain ⟨x, t1, t2, t3, t4⟩ := pos_tree hF hj
    exact ⟨by omega, by rw [endI_some t1, t3]; omega⟩)
  have HPE : Hid (pos (kidsOf ts) (i + 1) q = i + n) := Lib.hid (by rw [pos_end hF]; omega)
  have HPL : Hid (∀ j, j ≤ q → pos (kidsOf ts) (i + 1) j ≤ i + n) := Lib.hid (fun j hj => by have := (pos_at hF j hj).1; omega)
  have hP0 : pos (kidsOf ts) (i + 1) 0 = i + 1 := rfl
  have HINC : Hid (∀ j, j < q → pos (kidsOf ts) (i + 1) j < pos (kidsOf ts) (i + 1) (j + 1) ∧ pos (kidsOf ts) (i + 1) (j + 1) ≤ i + n) := Lib.hid (fun j hj => by
    obtain ⟨x, t1, t2, t3, t4⟩ := pos_tree hF hj
    omega)
  have H0 : Hid (IR w w (.slice none 0 0) (posZ (kidsOf ts) (i + 1) 0)) := Lib.hid (IR.first w)
  obtain ⟨i0, hi0, hy0, hy1, hy2⟩ := info_parts int_info3
  have hin : i + n ≤ 4000 := by omega
  have hm4 : m ≤ 4000 := by omega
  have him : i < m := by omega
  have hq4 : q ≤ 4000 := by omega
  have z0 : (0 : Int) ≤ (i : Int) := by omega
  have z1 : (i : Int) < (m : Int) := by omega
  have e1 : IntKind.i64.wrap ((i : Int) + 1) = ((i + 1 : Nat) : Int) := by rw [wrap_in _ (by omega)]; omega
  have v0 : ¬(i : Int) + (n : Int) < 0 := by omega
  obtain ⟨P, hP⟩ : ∃ P, P = pos (kidsOf ts) (i + 1) := ⟨_, rfl⟩
  rw [← hP] at HP HPE HPL hP0 HINC
  have HPZ : Hid (∀ j, posZ (kidsOf ts) (i + 1) (j + 1) = posZ (kidsOf ts) (i + 1) j ++ [((P j : Nat) : Int)]) := Lib.hid (fun j => by rw [hP]; exact posZ_succ _ _ _)
  rw [← hP0] at e1
  have HZL : Hid (∀ j, (posZ (kidsOf ts) (i + 1) j).length = j) := Lib.hid (fun j => posZ_len _ _ _)
  generalize hE : (i : Int) + (n : Int) = E at *
  have HE := Lib.hid hE
  generalize posZ (kidsOf ts) (i + 1) = Z at *
  clear hE hP hF hq hn hle hi hk hkk hl h hm hk0 hn1
  go_enter Tryz.func81, Tryz.ntmps81
  go_wp2_with (go_at_call 63; refine C0.out.mono ?_; rintro e w1 ⟨rfl, rfl⟩)
  clear C0 e1 v0
  go_loopw [5, 6, 7] (fun vk va vj wr => ∃ j : Nat, j ≤ q ∧ va = .int .i64 ((P j : Nat) : Int) ∧ vj = .int .i64 (j : Int) ∧ Hid (IR w wr vk (Z j))) (fun _ _ vj _ => q - (intOf vj).toNat)
  case atStart => exact ⟨0, Nat.zero_le _, by rw [hP0]; go_num, rfl, H0⟩
  case round =>
    clear H0
    obtain ⟨j, hj, rfl, rfl, hI⟩ := hrel
    by_cases hlt : j < q
    · obtain ⟨hp1, hp2⟩ := HP.out j hlt
      have hp3 := HPL.out (j + 1) hlt
      have CJ := Lib.hid (fun W hb => CE.out ((P j : Nat) : Int) W hb)
      rw [hp2] at CJ
      have v1 : (j : Int) < (q : Int) := by omega
      have cq : wr.cell? ⟨g, o + i * 5 + 1, none⟩ = some (.int .i64 (q : Int)) := HC.out wr hI.out.below
      have HN : Hid (Z (j + 1) = Z j ++ [((P j : Nat) : Int)]) := Lib.hid (HPZ.out j)
      have HL := Lib.hid (HZL.out j)
      have HMS : Hid (i + n - P (j + 1) < i + n - P j) := Lib.hid (by
        have := HINC.out j hlt
        omega)
      generalize P j = a at *
      generalize hb : P (j + 1) = b at *
      have HBQ := Lib.hid hb
      clear hb
      have N1 := Lib.hid (news_at wr #[.int .i64 (a : Int)] 3)
      clear hp1 hp2 hp3
      go_wp2_with (first
        | (refine wpList_append_lies _ rfl (.tmp 24) (.tmp 26) 63 rfl w.heap.size 3 i0 (.int .i64 0) 1 8 Tryz.underlying63 hi0 hy0 hy1 hy2 rfl (by decide) _ (Z j).length (iv (Z j)) rfl (hI.out.row.alloc _) ⟨wr.heap.size, 0, none⟩ 1 1 [.int .i64 (a : Int)] rfl rfl N1.out (by simp [Value.oneCell']) (by decide) (by rw [HL.out]; unfold maxLen; omega) (by rw [HL.out]; omega) (by have := hI.out.below.size; simp; omega) (wr.heap.size + 1) (by simp) ?_; intro g' cap W7 hrow hgr hgl hlt7; have HX2 := Lib.hid (hI.out.push hrow hgr); clear hrow hgr hgl hlt7)
        | (go_at_call 63; refine (CJ.out _ HX2.out.below).mono ?_; rintro e w2 ⟨rfl, rfl⟩))
      go_roundw
      case rel => exact ⟨j + 1, hlt, by rw [HBQ.out], by go_num, by rw [HN.out]; exact HX2⟩
      case measure => simp [intOf]; omega
    · obtain rfl : j = q := by omega
      have cq : wr.cell? ⟨g, o + i * 5 + 1, none⟩ = some (.int .i64 (j : Int)) := HC.out wr hI.out.below
      generalize P j = a at *
      go_wp2
      go_ret
      exact ⟨_, rfl, by rw [HR.out]; exact hI.out⟩

set_option maxHeartbeats 400000 in
theorem rkids_none (ts : List Nd) (v : Value) (i : Int) (w : World) (h : Nds w v ts) (hl : ts.length ≤ 4000) (hn : endI (kidsOf ts) i = -1) :
    Calls Tryz.prog 81 #[v, .int .i64 i] w fun e w' => KidsOk ts i w e w' := by
  have CE := Lib.hid (rend_any ts v i w h (by omega))
  have HR : Hid (kidsZ (kidsOf ts) i = []) := Lib.hid (kidsZ_none (by rw [hn]; decide))
  rw [hn] at CE
  clear hn h
  go_enter Tryz.func81, Tryz.ntmps81
  go_wp2_with (go_at_call 63; refine CE.out.mono ?_; rintro e w1 ⟨rfl, rfl⟩)
  go_ret
  exact ⟨_, rfl, by rw [HR.out]; exact IR.first w⟩

theorem rkids_any (ts : List Nd) (v : Value) (i : Int) (w : World) (h : Nds w v ts) (hl : ts.length ≤ 4000) :
    Calls Tryz.prog 81 #[v, .int .i64 i] w fun e w' => KidsOk ts i w e w' := by
  rcases endI_cases (kidsOf ts) i with h1 | ⟨k, n, rfl, h1, -, -, -⟩
  · exact rkids_none ts v i w h hl h1
  · obtain ⟨p, c, rfl, -⟩ := id h
    exact rkids_some ts p _ c k n w rfl h hl h1

end Go.Proofs.YtemlceicmpcboaaGreatDoor.Tr
namespace Go.Proofs.YtemlceicmpcboaaGreatDoor.Tr
open Go.RowKit Dk Lx

section
variable {Pr : Program} {ops : Array Oper} {Q : Act → Prop} {a : Act} {w : World} {o : Oper} {rest : List Oper}
set_option maxRecDepth 100000 in
theorem still_run (hw : Region.wanted o (yielded ops a.tmps) = true) {v : Value} (hr : (execOp a.eval o).run Pr w = .ok (.value v) w) (h : wpStill Pr ops w Q rest (a.put o.dst v)) : wpStill Pr ops w Q (o :: rest) a :=
  wpStill_step fun K hK => by
    rw [if_pos hw]
    unfold Oper.still
    simp only [hr, Oper.stillUpon]
    exact ⟨trivial, hK _ h⟩

set_option maxRecDepth 100000 in
theorem exec_load_mid {P : Program} {o : Oper} {a : Act} {W : World} (ty : TypeId) (x : Operand) (ho : o.op = .load ty x) (b p : Nat) (hx : a.eval x = .pointer (some ⟨b, p, none⟩)) (cs : List Value) (d : TypeDesc) (hc : W.rangeAt b p cs)
    (hu : P.underlying ty = some d) (hd : d.isRow = true) (hi : (P.info? ty).map (·.size) = some cs.length) : (execOp a.eval o).run P W = .ok (.value (.agg cs.toArray)) W := by
  have hl := run_loadVar_mid (P := P) W b p ty cs d hc hu hd hi
  unfold execOp
  simp only [ho, hx, Instr.loadAt, Instr.sureAddr, Sem.run_bind, Sem.run_pure, Result.andThen_ok, hl]
end

set_option maxRecDepth 100000 in
theorem node_parts (k d : Int) (q : ByteArray) (z : Int) (s : ByteArray) (k' d' : Int) (q' : ByteArray) (z' : Int) (s' : ByteArray) (W : World) : (Op.equalIn 10000 29 (.agg #[.int .i64 k, .int .i64 d, .string q, .int .i64 z, .string s]) (.agg #[.int .i64 k', .int .i64 d', .string q', .int .i64 z', .string s'])).run Tryz.prog W =
    (if k = k' then if d = d' then if q.toList = q'.toList then if z = z' then if s.toList = s'.toList then Result.ok true W else Result.ok false W else Result.ok false W else Result.ok false W else Result.ok false W else Result.ok false W) := by
  rw [run_equalIn_struct W 9999 29 _ _ (by kernel_rfl) (by kernel_rfl)]
  go_simp

set_option maxRecDepth 100000 in
theorem node_eq (e f : Nd) (W : World) : (Op.equalIn 10000 29 (.agg e.cells.toArray) (.agg f.cells.toArray)).run Tryz.prog W = .ok (decide (e = f)) W := by
  refine (node_parts _ _ _ _ _ _ _ _ _ _ W).trans ?_
  obtain ⟨k, d, q, z, s⟩ := e
  obtain ⟨k', d', q', z', s'⟩ := f
  rw [strOf_tl, strOf_tl, strOf_tl, strOf_tl]
  by_cases h1 : k = k'
  · by_cases h2 : d = d'
    · by_cases h3 : q = q'
      · by_cases h4 : z = z'
        · by_cases h5 : s = s'
          · simp [h1, h2, h3, h4, h5]
          · simp [h1, h2, h3, h4, h5]
        · simp [h1, h2, h3, h4]
      · simp [h1, h2, h3]
    · simp [h1, h2]
  · simp [h1]

set_option maxRecDepth 100000 in
theorem exec_neq {e f : Nd} {ρ : Operand → Value} {o : Oper} {x y : Operand} {u : TypeId} {W : World} (ho : o.op = .binOp .neq 29 x y u) (hx : ρ x = .agg e.cells.toArray) (hy : ρ y = .agg f.cells.toArray) :
    (execOp ρ o).run Tryz.prog W = .ok (.value (.bool (!decide (e = f)))) W := by
  have hm : Tryz.prog.eqGuardType Tryz.prog.depth 29 = false := by kernel_rfl
  unfold execOp
  simp only [ho, Sem.run_bind, hx, hy, run_eqGuard_agg _ _ _ _ _ _ _ hm, Result.andThen_ok, run_neq_struct, node_eq, Sem.run_pure]

set_option maxRecDepth 100000 in
theorem take_more {a b : List Nd} {i : Nat} (ha : i < a.length) (hb : i < b.length) (h : a.take i = b.take i) (he : a[i] = b[i]) : a.take (i + 1) = b.take (i + 1) := by
  rw [List.take_succ_eq_append_getElem ha, List.take_succ_eq_append_getElem hb, h, he]

set_option maxHeartbeats 2000000 in
set_option maxRecDepth 100000 in
theorem rsame_any (a b : List Nd) (v u : Value) (w : World) (ha : Nds w v a) (hb : Nds w u b) (hl : a.length ≤ 4000) (hlb : b.length ≤ 4000) :
    Calls Tryz.prog 16 #[v, u] w fun e w' => e = .returned (.bool (decide (a = b))) ∧ Below w.heap.size w w' := by
  obtain ⟨p, c, rfl, -⟩ := id ha
  obtain ⟨q, d, rfl, -⟩ := id hb
  have HA := Lib.hid ha
  have HB := Lib.hid hb
  have HI := Lib.hid n_info
  obtain ⟨n, hn⟩ : ∃ n, n = a.length := ⟨_, rfl⟩
  obtain ⟨m, hm⟩ : ∃ m, m = b.length := ⟨_, rfl⟩
  rw [← hn] at HA hl ⊢
  rw [← hm] at HB hlb ⊢
  have HN := Lib.hid hn
  have HM := Lib.hid hm
  clear ha hb
  by_cases hlen : n = m
  · subst hlen
    have v0 : ((n : Int) == (n : Int)) = true := by simp
    have v1 : ((n : Int) != (n : Int)) = false := by simp
    clear hn hm
    go_enter Tryz.func16, Tryz.ntmps16
    go_wp2
    go_loopw [5] (fun vi wr => ∃ i : Nat, i ≤ n ∧ vi = .int .i64 (i : Int) ∧ Hid (Below w.heap.size w wr) ∧ Hid (a.take i = b.take i)) (fun vi _ => n - (intOf vi).toNat)
    case atStart => exact ⟨0, Nat.zero_le _, rfl, Lib.hid (Below.refl _ _), Lib.hid (by simp)⟩
    case round =>
      obtain ⟨i, hi, rfl, hB, hT⟩ := hrel
      by_cases hlt : i < n
      · have h1 : i < a.length := by rw [← HN.out]; exact hlt
        have h2 : i < b.length := by rw [← HM.out]; exact hlt
        obtain ⟨g1, o1, rfl, -, -, -, -, -, -, r1⟩ := (HA.out.later hB.out).node i h1
        obtain ⟨g2, o2, rfl, -, -, -, -, -, -, r2⟩ := (HB.out.later hB.out).node i h2
        have HTT : Hid (a[i] = b[i] → a.take (i + 1) = b.take (i + 1)) := Lib.hid (take_more h1 h2 hT.out)
        have HNE : Hid (a[i] ≠ b[i] → decide (a = b) = false) := Lib.hid (fun h => decide_eq_false (fun e => h (by subst e; rfl)))
        have z0 : (0 : Int) ≤ (i : Int) := by omega
        have z1 : (i : Int) < (n : Int) := by omega
        generalize a[i] = x at *
        generalize b[i] = y at *
        have R1 := Lib.hid r1
        have R2 := Lib.hid r2
        clear r1 r2 h1 h2 hT
        go_wp2_with fail
        obtain ⟨W1, hW1⟩ : ∃ W1, wr.drew = W1 := ⟨_, rfl⟩
        have HW1 := Lib.hid hW1
        have HD : Hid (Below w.heap.size w W1) := Lib.hid (by rw [← hW1]; exact hB.out.drew)
        have Q1 : Hid (W1.rangeAt g1 (o1 + i * 5) x.cells) := Lib.hid (by rw [← hW1]; exact rangeAt_block R1.out rfl)
        have Q2 : Hid (W1.rangeAt g2 (o2 + i * 5) y.cells) := Lib.hid (by rw [← hW1]; exact rangeAt_block R2.out rfl)
        clear hW1 hB R1 R2
        refine region_still (by kernel_rfl) (by kernel_rfl) W1 HW1.out ?_
        iterate 3 still_step
        refine still_run (by rfl) (exec_load_mid 29 (.tmp 19) rfl g1 (o1 + i * 5) rfl x.cells _ Q1.out Tryz.underlying29 rfl (HI.out x)) ?_
        iterate 3 still_step
        refine still_run (by rfl) (exec_load_mid 29 (.tmp 23) rfl g2 (o2 + i * 5) rfl y.cells _ Q2.out Tryz.underlying29 rfl (HI.out y)) ?_
        obtain ⟨dd, hd⟩ : ∃ dd, (!decide (x = y)) = dd := ⟨_, rfl⟩
        refine still_run (v := .bool dd) (by rfl) (by rw [← hd]; exact exec_neq rfl rfl rfl) ?_
        refine wpStill_nil ?_
        simp only [Act.put, List.setIfInBounds_toArray, List.set_cons_zero, List.set_cons_succ]
        clear Q1 Q2 HW1
        cases dd with
        | true =>
          have HF := Lib.hid (HNE.out (by simpa using hd))
          clear hd
          go_wp2
          go_ret
          exact ⟨by rw [HF.out]; rfl, HD.out⟩
        | false =>
          have HT2 := Lib.hid (HTT.out (by simpa using hd))
          clear hd
          go_wp2
          go_roundw
          case rel => exact ⟨i + 1, by omega, by go_num, HD, HT2⟩
          case measure => simp [intOf]; omega
      · obtain rfl : i = n := by omega
        have HF : Hid (decide (a = b) = true) := Lib.hid (decide_eq_true (by have := hT.out; rwa [List.take_of_length_le (by rw [← HN.out]; exact Nat.le_refl _), List.take_of_length_le (by rw [← HM.out]; exact Nat.le_refl _)] at this))
        clear hT
        go_wp2
        go_ret
        exact ⟨by rw [HF.out]; rfl, hB.out⟩
  · have v0 : ((n : Int) == (m : Int)) = false := by simp; omega
    have v1 : ((n : Int) != (m : Int)) = true := by simp; omega
    have HF : Hid (decide (a = b) = false) := Lib.hid (decide_eq_false (fun e => hlen (by rw [hn, hm, e])))
    clear hn hm
    go_enter Tryz.func16, Tryz.ntmps16
    go_wp2
    go_ret
    exact ⟨by rw [HF.out]; rfl, Below.refl _ _⟩

/-! rows of nodes of a call's own -/
/-- A row of its own that holds these nodes. -/
structure NR (w w' : World) (v : Value) (l : List Nd) : Prop where
  row : w'.ownsRow w.heap.size 29 5 v l.length (ncells l)
  below : Below w.heap.size w w'

set_option maxRecDepth 100000 in
theorem NR.later {w wr W : World} {v : Value} {l : List Nd} (h : NR w wr v l) (hb : Below wr.heap.size wr W) : NR w W v l :=
  ⟨ownsRow_block h.row (fun b hb' => hb.block b (own_lo h.row b hb').2), chain2 h.below hb⟩
set_option maxRecDepth 100000 in
theorem NR.first (w : World) : NR w w (.slice none 0 0) [] := ⟨World.ownsRow_nil _ _ _ _, Below.refl _ _⟩

set_option maxRecDepth 100000 in
theorem NR.nds {w W : World} {v : Value} {l : List Nd} (h : NR w W v l) (hf : Fit l) : Nds W v l := by
  rcases h.row.2 with ⟨hv, h0⟩ | ⟨g, cap, cur, hv, hbg, hg, h3, h4, h5, h6⟩
  · exact ⟨none, 0, by rw [hv, h0], by omega, hf, .inl (List.eq_nil_of_length_eq_zero h0)⟩
  · have hrow := h.row
    rw [hv] at hrow
    refine ⟨_, cap, hv, h3, hf, .inr ⟨g, 0, rfl, ?_, ?_⟩⟩
    · rcases Nat.lt_or_ge g W.heap.size with h | h
      · exact h
      · rw [Array.getElem?_eq_none h] at hg; cases hg
    · exact ownsRow_range hrow

/-- The nodes of the tree at a place. -/
def subL (ts : List Nd) (i : Int) : List Nd := match endW 1 ((kidsOf ts).drop i.toNat) with
  | some n => if i < 0 then [] else (ts.drop i.toNat).take n
  | none => []
set_option maxRecDepth 100000 in
theorem subL_none {ts : List Nd} {i : Int} (h : endI (kidsOf ts) i = -1) : subL ts i = [] := by
  unfold subL
  rcases endI_cases (kidsOf ts) i with h1 | ⟨k, n, rfl, h1, -, -, h2⟩
  · by_cases hi : i < 0
    · split
      · rw [if_pos hi]
      · rfl
    · obtain ⟨k, rfl⟩ : ∃ k : Nat, i = (k : Int) := ⟨i.toNat, by omega⟩
      cases hn : endW 1 ((kidsOf ts).drop k) with
      | none => rw [Int.toNat_natCast, hn]
      | some n => rw [endI_some hn] at h; omega
  · rw [h2] at h; omega
set_option maxRecDepth 100000 in
theorem subL_some {ts : List Nd} {k n : Nat} (h : endW 1 ((kidsOf ts).drop k) = some n) : subL ts (k : Int) = (ts.drop k).take n := by
  unfold subL; rw [Int.toNat_natCast, h]; exact if_neg (by omega)
set_option maxRecDepth 100000 in
theorem subL_fit {ts : List Nd} {i : Int} (h : Fit ts) : Fit (subL ts i) := by
  unfold subL
  split
  · split
    · exact fun _ h => by cases h
    · exact fun x hx => h x (List.mem_of_mem_drop (List.mem_of_mem_take hx))
  · exact fun _ h => by cases h

/-- What Sub answers: a row of its own. -/
def SubOk (ts : List Nd) (i : Int) (w : World) (e : Ending) (w' : World) : Prop := ∃ v, e = .returned v ∧ NR w w' v (subL ts i)

set_option maxRecDepth 100000 in
theorem run_slice_mid (g o m c i n : Nat) (h1 : i + n ≤ m) (h2 : m ≤ c) (hn : 1 ≤ n) (W : World) :
    (Instr.slice 23 (.slice (some ⟨g, o, none⟩) m c) (some (.int .i64 (i : Int))) (some (.int .i64 ((i : Int) + (n : Int)))) none).run Tryz.prog W = .ok (.slice (some ⟨g, o + i * 5, none⟩) n (c - i)) W := by
  rw [run_slice_lh W 23 _ m c (by kernel_rfl) .i64 .i64 (i : Int) _ (by omega) (by omega) (by omega), nd_size]
  show Result.ok (sliced _ (i : Int).toNat ((i : Int) + (n : Int)).toNat c 5) W = _
  rw [show ((i : Int) + (n : Int)).toNat = i + n by omega, Int.toNat_natCast]
  unfold sliced
  simp [Addr.add_mid, Nat.add_sub_cancel_left]
  omega

set_option maxRecDepth 100000 in
theorem ncells_part {ts : List Nd} {i n : Nat} (h : i + n ≤ ts.length) {W : World} {g o : Nat} (hr : W.rangeAt g o (ncells ts)) : W.rangeAt g (o + i * 5) (ncells ((ts.drop i).take n)) := by
  have e1 : ncells ts = ncells (ts.take i) ++ (ncells ((ts.drop i).take n) ++ ncells ((ts.drop i).drop n)) := by
    rw [← ncells_app, ← ncells_app, List.take_append_drop, List.take_append_drop]
  rw [e1] at hr
  exact rangeAt_left (rangeAt_right hr (by rw [ncells_length, List.length_take, Nat.min_eq_left (by omega)]))

set_option maxRecDepth 100000 in
set_option maxHeartbeats 1000000 in
theorem rsub_some (ts : List Nd) (p : Option Addr) (m c i n : Nat) (w : World) (hm : m = ts.length) (h : Nds w (.slice p m c) ts) (hl : ts.length ≤ 4000) (hn : endW 1 ((kidsOf ts).drop i) = some n) :
    Calls Tryz.prog 206 #[.slice p m c, .int .i64 (i : Int)] w fun e w' => SubOk ts (i : Int) w e w' := by
  have hle := endW_le _ _ _ hn
  rw [List.length_drop, kidsOf_len] at hle
  obtain ⟨p', c', e, hc, -, h0 | ⟨g, o, hp, hg, hr⟩⟩ := id h
  · subst h0; simp at hle; omega
  · simp only [Value.slice.injEq] at e
    obtain ⟨rfl, -, rfl⟩ := e
    subst hp
    have CE := Lib.hid (rend_any ts (.slice (some ⟨g, o, none⟩) m c) (i : Int) w h hl)
    rw [endI_some hn] at CE
    have hsl := fun W => run_slice_mid g o m c i n (by omega) (by omega) (by omega) W
    obtain ⟨l, hll⟩ : ∃ l, l = (ts.drop i).take n := ⟨_, rfl⟩
    have hlen : l.length = n := by rw [hll, List.length_take, List.length_drop]; omega
    have HL : Hid ((ncells l).length = n * 5) := Lib.hid (by rw [ncells_length, hlen])
    have HLN := Lib.hid hlen
    have H1 := Lib.hid (ncells_ones l)
    have HNW : Hid (∀ j u, (ncells l)[j]? = some u → w.cell? ((⟨g, o + i * 5, none⟩ : Addr).add j) = some u) := Lib.hid (fun j u hu => by
      rw [WideShapes.add_plain]
      rw [hll] at hu
      exact ncells_part (by omega) hr j u hu)
    obtain ⟨i0, hi0, hz0, hz1, hz2⟩ := info_parts n_info3
    have hn0 : 0 < n := by omega
    have hn4 : n ≤ 4000 := by omega
    have HOWN : Hid (w.ownsRow w.heap.size 29 5 (.slice none 0 0) 0 []) := Lib.hid (World.ownsRow_nil _ _ _ _)
    have HR := Lib.hid (subL_some hn)
    rw [← hll] at HR
    have v0 : ¬(i : Int) + (n : Int) < 0 := by omega
    clear hn hr h hle hll hlen hm
    generalize (i : Int) + (n : Int) = E at *
    go_enter Tryz.func206, Tryz.ntmps206
    go_wp2_with (first
      | (go_at_call 63; refine CE.out.mono ?_; rintro e w1 ⟨rfl, rfl⟩)
      | (refine wpList_append_lies _ rfl _ _ 23 rfl w.heap.size 29 i0 _ 5 56 Tryz.underlying23 hi0 hz0 hz1 hz2 rfl (by decide) _ 0 [] rfl HOWN.out ⟨g, o + i * 5, none⟩ n (c - i) (ncells l) rfl HL.out HNW.out H1.out hn0 (by unfold maxLen; omega) (by omega) (Nat.le_refl _) w.heap.size rfl ?_; intro g' cap W7 hrow hgr hgl hlt7))
    have hgr' : w.grownBy W7 none := hgr
    have hbel : Below w.heap.size w W7 := below_grown hgr' (Below.refl _ _) (fun k e => by cases e) (Nat.le_refl _) (Nat.le_refl _)
    rw [Nat.zero_add, List.nil_append] at hrow
    have HF : Hid (NR w W7 (.slice (some ⟨g', 0, none⟩) n cap) l) := Lib.hid ⟨by rw [HLN.out]; exact hrow, hbel⟩
    clear hrow hgr hgl hgr' hlt7 hbel
    go_ret
    exact ⟨_, rfl, by rw [HR.out]; exact HF.out⟩

set_option maxRecDepth 100000 in
set_option maxHeartbeats 400000 in
theorem rsub_none (ts : List Nd) (v : Value) (i : Int) (w : World) (h : Nds w v ts) (hl : ts.length ≤ 4000) (hn : endI (kidsOf ts) i = -1) :
    Calls Tryz.prog 206 #[v, .int .i64 i] w fun e w' => SubOk ts i w e w' := by
  have CE := Lib.hid (rend_any ts v i w h hl)
  have HR := Lib.hid (subL_none hn)
  rw [hn] at CE
  clear hn h
  go_enter Tryz.func206, Tryz.ntmps206
  go_wp2_with (go_at_call 63; refine CE.out.mono ?_; rintro e w1 ⟨rfl, rfl⟩)
  go_ret
  exact ⟨_, rfl, by rw [HR.out]; exact NR.first w⟩

set_option maxRecDepth 100000 in
theorem rsub_any (ts : List Nd) (v : Value) (i : Int) (w : World) (h : Nds w v ts) (hl : ts.length ≤ 4000) :
    Calls Tryz.prog 206 #[v, .int .i64 i] w fun e w' => SubOk ts i w e w' := by
  rcases endI_cases (kidsOf ts) i with h1 | ⟨k, n, rfl, h1, -, -, -⟩
  · exact rsub_none ts v i w h hl h1
  · obtain ⟨p, c, rfl, -⟩ := id h
    exact rsub_some ts p _ c k n w rfl h hl h1

end Go.Proofs.YtemlceicmpcboaaGreatDoor.Tr
