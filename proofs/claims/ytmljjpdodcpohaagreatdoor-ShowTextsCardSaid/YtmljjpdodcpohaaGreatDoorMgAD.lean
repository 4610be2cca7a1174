/- Nodes in rows, as they were read; in blocks; parts of rows; The walk of tree; The walk of the document's End; Rows of ints. No condition but those that each states. -/
import Derived.Test.YtmljjpdodcpohaaGreatDoorMgAA
import Derived.Test.YtmljjpdodcpohaaGreatDoorMgAC
import Derived.ChangeSlices
import Derived.Deep.Slices
import Derived.Deep.Fields
import Derived.ChangeSame
import Derived.IntWalk
import Derived.WalkSmall
namespace Go.Proofs.YtmljjpdodcpohaaGreatDoor.Tr
set_option maxRecDepth 100000
open Go.RowKit Dk Lx
structure Nd where
  kind : Int
  kids : Int
  name : List UInt8
  n : Int
  text : List UInt8
deriving DecidableEq
def Nd.cells (x : Nd) : List Value := [.int .i64 x.kind, .int .i64 x.kids, .string (strOf x.name), .int .i64 x.n, .string (strOf x.text)]
def Nd.zero : Nd := ⟨0, 0, [], 0, []⟩
theorem n_one (x : Nd) : ∀ u ∈ x.cells, u.oneCell' = true := by
  intro u hu; simp [Nd.cells] at hu
  rcases hu with rfl | rfl | rfl | rfl | rfl <;> rfl
theorem n_all (x : Nd) : x.cells.toArray.all (·.oneCell') = true := all_oneCell_toArray (n_one x)
theorem n_info (x : Nd) : (Tryz.prog.info? 58).map (·.size) = some x.cells.length := by kernel_rfl
theorem n_infoA (x : Nd) : (Tryz.prog.info? 58).map (·.size) = some x.cells.toArray.size := n_info x
theorem n_info3 : (Tryz.prog.info? 58).map (fun i => (i.zero, i.size, i.bytes)) = some (some (.agg Nd.zero.cells.toArray), 5, 56) := by kernel_rfl
structure NB (W : World) (B : Nat) (x : Nd) : Prop where
  cells : W.rangeAt B 0 x.cells
  room : W.there B 0 5
  lt : B < W.heap.size
theorem NB.of_block {W W' : World} {B : Nat} {x : Nd} (h : NB W B x) (hb : W'.heap[B]? = W.heap[B]?) (hs : W.heap.size ≤ W'.heap.size) : NB W' B x := ⟨rangeAt_block h.cells hb, there_block h.room hb, Nat.lt_of_lt_of_le h.lt hs⟩
theorem NB.later {W W' : World} {B : Nat} {x : Nd} (h : NB W B x) (hb : Below W.heap.size W W') : NB W' B x := h.of_block (hb.block B h.lt) hb.size
theorem nb_new (w : World) (x : Nd) (ty : TypeId) : NB (w.alloc (.cells x.cells.toArray ty)) w.heap.size x := ⟨range_new w x.cells ty, there_new w x.cells.toArray ty, by simp⟩
theorem NB.set {W : World} {B : Nat} {x : Nd} (h : NB W B x) (x' : Nd) : NB (W.setCells B 0 x'.cells) B x' :=
  ⟨World.rangeAt_setCells_same W B 0 x'.cells h.room, World.there_setCells h.room _ _ _, by rw [Dk.size_setCells]; exact h.lt⟩
theorem NB.at {W : World} {B : Nat} {x : Nd} (h : NB W B x) : W.cell? ⟨B, 0, none⟩ = some (.int .i64 x.kind) ∧ W.cell? ⟨B, 1, none⟩ = some (.int .i64 x.kids) ∧ W.cell? ⟨B, 2, none⟩ = some (.string (strOf x.name)) ∧ W.cell? ⟨B, 3, none⟩ = some (.int .i64 x.n) ∧ W.cell? ⟨B, 4, none⟩ = some (.string (strOf x.text)) :=
  ⟨h.cells 0 _ rfl, h.cells 1 _ rfl, h.cells 2 _ rfl, h.cells 3 _ rfl, h.cells 4 _ rfl⟩
theorem nb_zero (W : World) : NB (W.alloc (.cells #[.int .i64 0, .int .i64 0, .string ⟨#[]⟩, .int .i64 0, .string ⟨#[]⟩] 58)) W.heap.size Nd.zero := nb_new W Nd.zero _
theorem nb_put (W : World) (x : Nd) : NB ((W.alloc (.cells #[.int .i64 0, .int .i64 0, .string ⟨#[]⟩, .int .i64 0, .string ⟨#[]⟩] 58)).setCells W.heap.size 0 x.cells.toArray.toList) W.heap.size x ∧
    Below W.heap.size W ((W.alloc (.cells #[.int .i64 0, .int .i64 0, .string ⟨#[]⟩, .int .i64 0, .string ⟨#[]⟩] 58)).setCells W.heap.size 0 x.cells.toArray.toList) :=
  ⟨(nb_zero W).set x, below_setCells (Below.refl _ _) _ (Nat.le_refl _) _ _ _ ((Below.refl _ _).alloc (Nat.le_refl _) _)⟩
def ncells (l : List Nd) : List Value := l.flatMap Nd.cells
theorem ncells_app (a b : List Nd) : ncells (a ++ b) = ncells a ++ ncells b := by unfold ncells; rw [List.flatMap_append]
theorem ncells_cons (e : Nd) (l : List Nd) : ncells (e :: l) = e.cells ++ ncells l := rfl
theorem ncells_length (l : List Nd) : (ncells l).length = l.length * 5 := by
  induction l with
  | nil => rfl
  | cons a l ih => rw [ncells_cons, List.length_append, ih, List.length_cons]; show 5 + _ = _; omega
theorem ncells_ones (l : List Nd) : ∀ u ∈ ncells l, u.oneCell' = true := by
  intro u hu; obtain ⟨e, _, he⟩ := List.mem_flatMap.1 hu; exact n_one e u he
theorem ncells_at {ts : List Nd} {i : Nat} (h : i < ts.length) (j : Nat) (hj : j < 5) : (ncells ts)[i * 5 + j]? = (ts[i]).cells[j]? := by
  induction ts generalizing i with
  | nil => simp at h
  | cons t ts ih =>
    rw [ncells_cons]; cases i with
    | zero => rw [Nat.zero_mul, Nat.zero_add, List.getElem?_append_left (by show j < 5; exact hj)]; rfl
    | succ i =>
      rw [List.getElem?_append_right (by show 5 ≤ _; omega)]
      rw [show (i + 1) * 5 + j - t.cells.length = i * 5 + j by show (i + 1) * 5 + j - 5 = _; omega]
      exact ih (by simpa using h)
def Fit (ts : List Nd) : Prop := ∀ x ∈ ts, x.kids ≤ 9223372036854775807
def Nds (W : World) (v : Value) (ts : List Nd) : Prop := ∃ p c, v = .slice p ts.length c ∧ ts.length ≤ c ∧ Fit ts ∧ (ts = [] ∨ ∃ g o, p = some ⟨g, o, none⟩ ∧ g < W.heap.size ∧ W.rangeAt g o (ncells ts))
theorem Nds.later {W W' : World} {v : Value} {ts : List Nd} (h : Nds W v ts) (hb : Below W.heap.size W W') : Nds W' v ts := by
  obtain ⟨p, c, rfl, hc, hf, h | ⟨g, o, rfl, hg, hr⟩⟩ := h
  · exact ⟨p, c, rfl, hc, hf, .inl h⟩
  · exact ⟨_, c, rfl, hc, hf, .inr ⟨g, o, rfl, Nat.lt_of_lt_of_le hg hb.size, rangeAt_block hr (hb.block g hg)⟩⟩
theorem Nds.node {W : World} {p : Option Addr} {m c : Nat} {ts : List Nd} (h : Nds W (.slice p m c) ts) (i : Nat) (hi : i < ts.length) :
    ∃ g o, p = some ⟨g, o, none⟩ ∧ g < W.heap.size ∧ W.cell? ⟨g, o + i * 5, none⟩ = some (.int .i64 ts[i].kind) ∧ W.cell? ⟨g, o + i * 5 + 1, none⟩ = some (.int .i64 ts[i].kids) ∧ W.cell? ⟨g, o + i * 5 + 2, none⟩ = some (.string (strOf ts[i].name)) ∧ W.cell? ⟨g, o + i * 5 + 3, none⟩ = some (.int .i64 ts[i].n) ∧ W.cell? ⟨g, o + i * 5 + 4, none⟩ = some (.string (strOf ts[i].text)) ∧ W.rangeAt g (o + i * 5) (ts[i]).cells := by
  obtain ⟨p', c', e, hc, hfit, h0 | ⟨g, o, hp, hg, hr⟩⟩ := h
  · subst h0; simp at hi
  · cases e
    have q : ∀ j (hj : j < 5) u, (ts[i]).cells[j]? = some u → W.cell? ⟨g, o + i * 5 + j, none⟩ = some u := fun j hj u hu => by
      have := hr (i * 5 + j) u (by rw [ncells_at hi j hj]; exact hu)
      rwa [← Nat.add_assoc] at this
    refine ⟨g, o, hp, hg, q 0 (by decide) _ rfl, q 1 (by decide) _ rfl, q 2 (by decide) _ rfl, q 3 (by decide) _ rfl, q 4 (by decide) _ rfl, fun j u hu => ?_⟩; exact q j (by have := (List.getElem?_eq_some_iff.1 hu).1; exact this) u hu
theorem strOf_self' (s : ByteArray) : strOf s.data.toList = s := by unfold strOf; simp
section
open Go.ChangeShapes Go.WideShapes Go.Deep
theorem Nds.fit {W : World} {v : Value} {ts : List Nd} (h : Nds W v ts) : Fit ts := by obtain ⟨_, _, _, _, hf, _⟩ := h; exact hf
theorem nd_one : ∃ fs, Tryz.prog.underlying 58 = some (.struct fs) ∧ fs.size = 5 ∧ oneCellFields Tryz.prog fs = true ∧ Tryz.prog.cellsOf 58 = 5 ∧ (fs.map (·.type)) = #[3, 3, 9, 2, 9] :=
  ⟨_, Tryz.underlying58, rfl, by kernel_rfl, by kernel_rfl, by simp⟩
end
theorem nd_size (W : World) : (sizeOf (Tryz.prog.elem 22)).run Tryz.prog W = .ok 5 W := by kernel_rfl
def kidsOf (ts : List Nd) : List Int := ts.map (·.kids)
theorem kidsOf_len (ts : List Nd) : (kidsOf ts).length = ts.length := by simp [kidsOf]
theorem kidsOf_at {ts : List Nd} {i : Nat} (h : i < ts.length) : (kidsOf ts)[i]? = some ts[i].kids := by simp [kidsOf, h]
end Go.Proofs.YtmljjpdodcpohaaGreatDoor.Tr

namespace Go.Proofs.YtmljjpdodcpohaaGreatDoor.Tr
open Lib (hid)
set_option maxHeartbeats 1000000
open Go.RowKit Dk Lx
theorem wrap_in (x : Int) (h : -9223372036854775808 ≤ x ∧ x ≤ 9223372036854775807) : IntKind.i64.wrap x = x := IntWalk.i64_in _ (by omega)
theorem end_nat (ts : List Nd) (p : Option Addr) (n c k : Nat) (w : World) (hn : n = ts.length) (h : Nds w (.slice p n c) ts) (hl : n ≤ 2 ^ 40) :
    Calls Tryz.prog 51 #[.slice p n c, .int .i64 (k : Int)] w fun e w' => e = .returned (.int .i64 (endI (kidsOf ts) (k : Int))) ∧ w = w' := by
  have HL := hid hl; have HN := hid hn
  have HND : Hid (∀ i (hi : i < ts.length), ∃ g o, p = some ⟨g, o, none⟩ ∧ w.cell? ⟨g, o + i * 5 + 1, none⟩ = some (.int .i64 ts[i].kids)) := hid (fun i hi => by
    obtain ⟨g, o, hp, -, -, h1, -⟩ := h.node i hi
    exact ⟨g, o, hp, h1⟩)
  have H0 : Hid (endW 1 ((kidsOf ts).drop k) = (endW 1 ((kidsOf ts).drop k)).map (k - k + ·)) := hid (by cases endW 1 ((kidsOf ts).drop k) <;> simp); have z0 : ¬(k : Int) < 0 := by omega
  clear h hn hl; go_enter Tryz.func51, Tryz.ntmps51
  go_wp2; clear z0; go_loopw [5, 6] (fun vm va wr => ∃ m a : Nat, vm = .int .i64 (m : Int) ∧ va = .int .i64 (a : Int) ∧ wr = w ∧ k ≤ a ∧ 1 ≤ m ∧ (m = 1 ∨ m + a ≤ n) ∧ Hid (endW 1 ((kidsOf ts).drop k) = (endW m ((kidsOf ts).drop a)).map (a - k + ·))) (fun _ va _ => n - (intOf va).toNat)
  case atStart => exact ⟨1, k, rfl, rfl, rfl, Nat.le_refl _, Nat.le_refl _, .inl rfl, H0⟩
  case round =>
    clear H0; obtain ⟨m, a, rfl, rfl, rfl, hka, hm1, hmn, hE⟩ := hrel; have hl := HL.out; by_cases hlt : a < n
    · have hi : a < ts.length := by rw [← HN.out]; exact hlt
      obtain ⟨g, o, rfl, c1⟩ := HND.out a hi
      have hd : (kidsOf ts).drop a = ts[a].kids :: (kidsOf ts).drop (a + 1) := by
        rw [List.drop_eq_getElem_cons (by rw [kidsOf_len]; exact hi)]; simp [kidsOf]
      have hdl : ((kidsOf ts).drop (a + 1)).length = n - (a + 1) := by rw [List.length_drop, kidsOf_len, HN.out]
      obtain ⟨q, rfl⟩ : ∃ q, m = q + 1 := ⟨m - 1, by omega⟩; have z0 : (0 : Int) ≤ (a : Int) := by omega
      have z1 : (a : Int) < (n : Int) := by omega
      have e1 : IntKind.i64.wrap (((q + 1 : Nat) : Int) - 1) = (q : Int) := by rw [wrap_in _ (by omega)]; omega
      have e2 : IntKind.i64.wrap ((n : Int) - (a : Int)) = (n : Int) - (a : Int) := wrap_in _ (by omega); have e3 : IntKind.i64.wrap ((n : Int) - (a : Int) - 1) = (n : Int) - (a : Int) - 1 := wrap_in _ (by omega); have e4 : IntKind.i64.wrap ((n : Int) - (a : Int) - 1 - (q : Int)) = (n : Int) - (a : Int) - 1 - (q : Int) := wrap_in _ (by omega); have hE' := hE.out; rw [hd, endW_cons] at hE'; generalize ts[a].kids = kd at *; have hr1 : ∀ x : Int, x = -1 ∨ True := fun _ => .inr trivial
      by_cases hneg : kd < 0
      · have HR : Hid (endI (kidsOf ts) (k : Int) = -1) := hid (endI_none (by rw [hE', if_pos hneg]; rfl))
        clear hE hE' hd hdl hi HND hr1; go_wp2; go_ret; exact ⟨by rw [HR.out]; rfl, rfl⟩
      · rw [if_neg hneg] at hE'
        by_cases hbig : kd > (n : Int) - (a : Int) - 1 - (q : Int)
        · have HR : Hid (endI (kidsOf ts) (k : Int) = -1) := hid (endI_none (by
            rw [hE']; cases he : endW (q + kd.toNat) ((kidsOf ts).drop (a + 1)) with
            | none => rfl
            | some x => have := endW_le _ _ _ he; omega))
          clear hE hE' hd hdl hi HND hr1; go_wp2; go_ret; exact ⟨by rw [HR.out]; rfl, rfl⟩
        · have hk0 : 0 ≤ kd := by omega
          have hk1 : kd ≤ (n : Int) - (a : Int) - 1 - (q : Int) := by omega
          have e5 : IntKind.i64.wrap ((q : Int) + kd) = (q : Int) + kd := wrap_in _ (by omega); by_cases hz : (q : Int) + kd = 0
          · have HR : Hid (endI (kidsOf ts) (k : Int) = (a : Int) + 1) := hid (by
              rw [show q + kd.toNat = 0 by omega, endW_zero] at hE'; rw [endI_some (n := a - k + 1) hE']
              omega)
            have e6 : ((q : Int) + kd == 0) = true := by simpa using hz
            clear hE hE' hd hdl hi HND hr1 hz; go_wp2; go_ret; exact ⟨by rw [HR.out]; rfl, rfl⟩
          · obtain ⟨m', hm'⟩ : ∃ m' : Nat, (q : Int) + kd = (m' : Int) := ⟨((q : Int) + kd).toNat, by omega⟩
            have HR : Hid (endW 1 ((kidsOf ts).drop k) = (endW m' ((kidsOf ts).drop (a + 1))).map (a + 1 - k + ·)) := hid (by
              rw [hE', show q + kd.toNat = m' by omega]; cases endW m' ((kidsOf ts).drop (a + 1)) with
              | none => rfl
              | some x => simp; omega)
            have e6 : ((q : Int) + kd == 0) = false := by simpa using hz
            have hb : 1 ≤ m' ∧ m' + (a + 1) ≤ n := by omega
            have HM := hid hm'; clear hE hE' hd hdl hi HND hr1 hz hm'; go_wp2; go_roundw
            case rel => exact ⟨m', a + 1, by rw [HM.out], by go_num, by trivial, by omega, hb.1, .inr hb.2, HR⟩
            case measure => simp [intOf]; omega
    · have HR : Hid (endI (kidsOf ts) (k : Int) = -1) := hid (endI_none (by
        rw [hE.out, List.drop_eq_nil_of_le (by rw [kidsOf_len, ← HN.out]; omega)]
        obtain ⟨q, rfl⟩ : ∃ q, m = q + 1 := ⟨m - 1, by omega⟩
        rfl))
      have z1 : ¬(a : Int) < (n : Int) := by omega
      clear hE HND; go_wp2; go_ret; exact ⟨by rw [HR.out]; rfl, rfl⟩
theorem end_neg (v : Value) (i : Int) (ks : List Int) (w : World) (hi : i < 0) :
    Calls Tryz.prog 51 #[v, .int .i64 i] w fun e w' => e = .returned (.int .i64 (endI ks i)) ∧ w = w' := by
  have HR := hid (endI_neg (ks := ks) hi); go_enter Tryz.func51, Tryz.ntmps51
  go_wp2; go_ret; exact ⟨by rw [HR.out]; rfl, rfl⟩
theorem end_any (ts : List Nd) (v : Value) (i : Int) (w : World) (h : Nds w v ts) (hl : ts.length ≤ 2 ^ 40) :
    Calls Tryz.prog 51 #[v, .int .i64 i] w fun e w' => e = .returned (.int .i64 (endI (kidsOf ts) i)) ∧ w = w' := by
  by_cases hi : i < 0
  · exact end_neg v i _ w hi
  · obtain ⟨p, c, rfl, -⟩ := id h
    obtain ⟨k, rfl⟩ : ∃ k : Nat, i = (k : Int) := ⟨i.toNat, by omega⟩; exact end_nat ts p _ c k w rfl h hl
end Go.Proofs.YtmljjpdodcpohaaGreatDoor.Tr

namespace Go.Proofs.YtmljjpdodcpohaaGreatDoor.Tr
open Lib (hid)
set_option maxHeartbeats 1000000
open Go.RowKit Dk Lx
theorem rend_nat (ts : List Nd) (p : Option Addr) (n c k : Nat) (w : World) (hn : n = ts.length) (h : Nds w (.slice p n c) ts) (hl : n ≤ 4000) :
    Calls Tryz.prog 45 #[.slice p n c, .int .i64 (k : Int)] w fun e w' => e = .returned (.int .i64 (endI (kidsOf ts) (k : Int))) ∧ w = w' := by
  have HL := hid hl; have HN := hid hn
  have HND : Hid (∀ i (hi : i < ts.length), ∃ g o, p = some ⟨g, o, none⟩ ∧ w.cell? ⟨g, o + i * 5 + 1, none⟩ = some (.int .i64 ts[i].kids)) := hid (fun i hi => by
    obtain ⟨g, o, hp, -, -, h1, -⟩ := h.node i hi
    exact ⟨g, o, hp, h1⟩)
  have H0 : Hid (endW 1 ((kidsOf ts).drop k) = (endW 1 ((kidsOf ts).drop k)).map (k - k + ·)) := hid (by cases endW 1 ((kidsOf ts).drop k) <;> simp); have z0 : ¬(k : Int) < 0 := by omega
  clear h hn hl; go_enter Tryz.func45, Tryz.ntmps45
  go_wp2; clear z0; go_loopw [5, 6] (fun vm va wr => ∃ m a : Nat, vm = .int .i64 (m : Int) ∧ va = .int .i64 (a : Int) ∧ wr = w ∧ k ≤ a ∧ 1 ≤ m ∧ m ≤ 1 + 4000 * a ∧ Hid (endW 1 ((kidsOf ts).drop k) = (endW m ((kidsOf ts).drop a)).map (a - k + ·))) (fun _ va _ => n - (intOf va).toNat)
  case atStart => exact ⟨1, k, rfl, rfl, rfl, Nat.le_refl _, Nat.le_refl _, by omega, H0⟩
  case round =>
    clear H0; obtain ⟨m, a, rfl, rfl, rfl, hka, hm1, hmn, hE⟩ := hrel; have hl := HL.out; by_cases hlt : a < n
    · have hi : a < ts.length := by rw [← HN.out]; exact hlt
      obtain ⟨g, o, rfl, c1⟩ := HND.out a hi
      have hd : (kidsOf ts).drop a = ts[a].kids :: (kidsOf ts).drop (a + 1) := by
        rw [List.drop_eq_getElem_cons (by rw [kidsOf_len]; exact hi)]; simp [kidsOf]
      have hdl : ((kidsOf ts).drop (a + 1)).length = n - (a + 1) := by rw [List.length_drop, kidsOf_len, HN.out]
      obtain ⟨q, rfl⟩ : ∃ q, m = q + 1 := ⟨m - 1, by omega⟩; have z0 : (0 : Int) ≤ (a : Int) := by omega
      have z1 : (a : Int) < (n : Int) := by omega
      have e1 : IntKind.i64.wrap (((q + 1 : Nat) : Int) - 1) = (q : Int) := by rw [wrap_in _ (by omega)]; omega
      have hE' := hE.out; rw [hd, endW_cons] at hE'; generalize ts[a].kids = kd at *; by_cases hneg : kd < 0
      · have HR : Hid (endI (kidsOf ts) (k : Int) = -1) := hid (endI_none (by rw [hE', if_pos hneg]; rfl))
        clear hE hE' hd hdl hi HND; go_wp2; go_ret; exact ⟨by rw [HR.out]; rfl, rfl⟩
      · rw [if_neg hneg] at hE'
        by_cases hbig : kd > (n : Int)
        · have HR : Hid (endI (kidsOf ts) (k : Int) = -1) := hid (endI_none (by
            rw [hE']; cases he : endW (q + kd.toNat) ((kidsOf ts).drop (a + 1)) with
            | none => rfl
            | some x => have := endW_le _ _ _ he; omega))
          clear hE hE' hd hdl hi HND; go_wp2; go_ret; exact ⟨by rw [HR.out]; rfl, rfl⟩
        · have hk0 : 0 ≤ kd := by omega
          have hk1 : kd ≤ (n : Int) := by omega
          have e5 : IntKind.i64.wrap ((q : Int) + kd) = (q : Int) + kd := wrap_in _ (by omega); by_cases hz : (q : Int) + kd = 0
          · have HR : Hid (endI (kidsOf ts) (k : Int) = (a : Int) + 1) := hid (by
              rw [show q + kd.toNat = 0 by omega, endW_zero] at hE'; rw [endI_some (n := a - k + 1) hE']
              omega)
            have e6 : ((q : Int) + kd == 0) = true := by simpa using hz
            clear hE hE' hd hdl hi HND hz; go_wp2; go_ret; exact ⟨by rw [HR.out]; rfl, rfl⟩
          · obtain ⟨m', hm'⟩ : ∃ m' : Nat, (q : Int) + kd = (m' : Int) := ⟨((q : Int) + kd).toNat, by omega⟩
            have HR : Hid (endW 1 ((kidsOf ts).drop k) = (endW m' ((kidsOf ts).drop (a + 1))).map (a + 1 - k + ·)) := hid (by
              rw [hE', show q + kd.toNat = m' by omega]; cases endW m' ((kidsOf ts).drop (a + 1)) with
              | none => rfl
              | some x => simp; omega)
            have e6 : ((q : Int) + kd == 0) = false := by simpa using hz
            have hb : 1 ≤ m' ∧ m' ≤ 1 + 4000 * (a + 1) := by omega
            have HM := hid hm'; clear hE hE' hd hdl hi HND hz hm'; go_wp2; go_roundw
            case rel => exact ⟨m', a + 1, by rw [HM.out], by go_num, by trivial, by omega, hb.1, hb.2, HR⟩
            case measure => simp [intOf]; omega
    · have HR : Hid (endI (kidsOf ts) (k : Int) = -1) := hid (endI_none (by
        rw [hE.out, List.drop_eq_nil_of_le (by rw [kidsOf_len, ← HN.out]; omega)]
        obtain ⟨q, rfl⟩ : ∃ q, m = q + 1 := ⟨m - 1, by omega⟩
        rfl))
      have z1 : ¬(a : Int) < (n : Int) := by omega
      clear hE HND; go_wp2; go_ret; exact ⟨by rw [HR.out]; rfl, rfl⟩
theorem rend_neg (v : Value) (i : Int) (ks : List Int) (w : World) (hi : i < 0) :
    Calls Tryz.prog 45 #[v, .int .i64 i] w fun e w' => e = .returned (.int .i64 (endI ks i)) ∧ w = w' := by
  have HR := hid (endI_neg (ks := ks) hi); go_enter Tryz.func45, Tryz.ntmps45
  go_wp2; go_ret; exact ⟨by rw [HR.out]; rfl, rfl⟩
theorem rend_any (ts : List Nd) (v : Value) (i : Int) (w : World) (h : Nds w v ts) (hl : ts.length ≤ 4000) :
    Calls Tryz.prog 45 #[v, .int .i64 i] w fun e w' => e = .returned (.int .i64 (endI (kidsOf ts) i)) ∧ w = w' := by
  by_cases hi : i < 0
  · exact rend_neg v i _ w hi
  · obtain ⟨p, c, rfl, -⟩ := id h
    obtain ⟨k, rfl⟩ : ∃ k : Nat, i = (k : Int) := ⟨i.toNat, by omega⟩; exact rend_nat ts p _ c k w rfl h hl
end Go.Proofs.YtmljjpdodcpohaaGreatDoor.Tr

namespace Go.Proofs.YtmljjpdodcpohaaGreatDoor.Tr
open Go.RowKit Dk Lx
def iv (l : List Int) : List Value := l.map fun x => .int .i64 x
theorem iv_app (a b : List Int) : iv (a ++ b) = iv a ++ iv b := by simp [iv]
theorem iv_len (l : List Int) : (iv l).length = l.length := by simp [iv]
theorem own_lo {w : World} {base : Nat} {e : TypeId} {size n : Nat} {v : Value} {xs : List Value} (h : w.ownsRow base e size v n xs) : ∀ b, v.ownBlock = some b → base ≤ b ∧ b < w.heap.size := by
  intro b hb; rcases h.2 with ⟨rfl, _⟩ | ⟨g, cap, cur, rfl, hbg, hg, _⟩
  · cases hb
  · cases hb
    exact ⟨hbg, by
      rcases Nat.lt_or_ge g w.heap.size with h | h
      · exact h
      · rw [Array.getElem?_eq_none h] at hg; cases hg⟩
theorem below_grown {B : Nat} {w w1 W : World} {row : Option Nat} (h : w1.grownBy W row) (hb : Below B w w1) (hr : ∀ k, row = some k → B ≤ k) (_hB : B ≤ w1.heap.size) (ha : B ≤ w.heap.size) : Below B w W :=
  (Only.of_grown (F := fun k => B ≤ k) h hr).below hb (fun _ h => h) ha
structure IR (w w' : World) (v : Value) (l : List Int) : Prop where
  row : w'.ownsRow w.heap.size 3 1 v l.length (iv l)
  below : Below w.heap.size w w'
theorem IR.later {w wr W : World} {v : Value} {l : List Int} (h : IR w wr v l) (hb : Below wr.heap.size wr W) : IR w W v l :=
  ⟨ownsRow_block h.row (fun b hb' => hb.block b (own_lo h.row b hb').2), chain2 h.below hb⟩
theorem IR.first (w : World) : IR w w (.slice none 0 0) [] := ⟨World.ownsRow_nil _ _ _ _, Below.refl _ _⟩
theorem IR.push {w W4 W7 : World} {v : Value} {l : List Int} {x : Int} {g' cap : Nat} {o : Obj} (h : IR w W4 v l) (hrow : W7.ownsRow w.heap.size 3 1 (.slice (some ⟨g', 0, none⟩) (l.length + 1) cap) (l.length + 1) (iv l ++ [.int .i64 x]))
    (hgr : (W4.alloc o).grownBy W7 v.ownBlock) : IR w W7 (.slice (some ⟨g', 0, none⟩) (l.length + 1) cap) (l ++ [x]) := by
  refine ⟨?_, below_grown hgr (h.below.alloc h.below.size o) (fun k hk => (own_lo h.row k hk).1) (by have := h.below.size; simp; omega) (Nat.le_refl _)⟩
  rw [List.length_append, iv_app]; simpa [iv] using hrow
theorem own_form {w : World} {base size n : Nat} {e : TypeId} {v : Value} {xs : List Value} (h : w.ownsRow base e size v n xs) (hn : 0 < n) : ∃ g cap, v = .slice (some ⟨g, 0, none⟩) n cap := by
  rcases h.2 with ⟨rfl, h0⟩ | ⟨g, cap, cur, rfl, _⟩
  · omega
  · exact ⟨g, cap, rfl⟩
theorem own_form0 {w : World} {base size n : Nat} {e : TypeId} {v : Value} {xs : List Value} (h : w.ownsRow base e size v n xs) : ∃ p cap, v = .slice p n cap ∧ (p = none → n = 0) ∧ ∀ g s o, p = some ⟨g, s, o⟩ → s = 0 ∧ o = none := by
  rcases h.2 with ⟨rfl, h0⟩ | ⟨g, cap, cur, rfl, _⟩
  · subst h0; exact ⟨none, 0, rfl, fun _ => rfl, fun _ _ _ e => by cases e⟩
  · exact ⟨_, cap, rfl, (fun e => by cases e), fun _ _ _ e => by cases e; exact ⟨rfl, rfl⟩⟩
theorem IR.setLast {w W : World} {g c n : Nat} {l : List Int} {x y : Int} (h : IR w W (.slice (some ⟨g, 0, none⟩) n c) (l ++ [x])) : IR w (W.setCell ⟨g, l.length, none⟩ (.int .i64 y)) (.slice (some ⟨g, 0, none⟩) n c) (l ++ [y]) := by
  have hlo := own_lo h.row g rfl; obtain ⟨p, cap, he, -, -⟩ := own_form0 h.row; have hn : n = (l ++ [x]).length := by cases he; rfl
  have hrow := h.row; rw [hn] at hrow ⊢; obtain ⟨h1, h2⟩ := hrow.stored l.length (.int .i64 y); refine ⟨?_, below_grown h2 h.below (fun k hk => by cases hk; exact hlo.1) h.below.size (Nat.le_refl _)⟩
  have e : (iv (l ++ [x])).set l.length (.int .i64 y) = iv (l ++ [y]) := by
    rw [iv_app, iv_app, List.set_append_right _ _ (by rw [iv_len]; exact Nat.le_refl _), iv_len, Nat.sub_self]; rfl
  rw [e] at h1; simpa using h1
theorem IR.pop {w W : World} {g c n : Nat} {l : List Int} {x : Int} (h : IR w W (.slice (some ⟨g, 0, none⟩) n c) (l ++ [x])) : IR w W (.slice (some ⟨g, 0, none⟩) l.length c) l := by
  obtain ⟨p, cap, he, -, -⟩ := own_form0 h.row; have hn : n = (l ++ [x]).length := by cases he; rfl
  have hrow := h.row; rw [hn, List.length_append, iv_app] at hrow; exact ⟨ownsRow_pop (by rw [iv_len, Nat.mul_one]) hrow, h.below⟩
theorem IR.last {w W : World} {g c n : Nat} {l : List Int} {x : Int} (h : IR w W (.slice (some ⟨g, 0, none⟩) n c) (l ++ [x])) : n = l.length + 1 ∧ W.cell? ⟨g, l.length, none⟩ = some (.int .i64 x) ∧ W.frozen? ⟨g, l.length, none⟩ = false := by
  obtain ⟨p, cap, he, -, -⟩ := own_form0 h.row; have hn : n = (l ++ [x]).length := by cases he; rfl
  have hrow := h.row; rw [hn] at hrow; refine ⟨by rw [hn, List.length_append]; rfl, ?_, hrow.frozenAt _⟩
  rw [hrow.cellAt _ (by simp), iv_app, List.getElem?_append_right (by rw [iv_len]; exact Nat.le_refl _), iv_len, Nat.sub_self]; rfl
def Ins (W : World) (v : Value) (l : List Int) : Prop := ∃ p c, v = .slice p l.length c ∧ l.length ≤ c ∧ (l = [] ∨ ∃ g o, p = some ⟨g, o, none⟩ ∧ g < W.heap.size ∧ W.rangeAt g o (iv l))
theorem Ins.later {W W' : World} {v : Value} {l : List Int} (h : Ins W v l) (hb : Below W.heap.size W W') : Ins W' v l := by
  obtain ⟨p, c, rfl, hc, h | ⟨g, o, rfl, hg, hr⟩⟩ := h
  · exact ⟨p, c, rfl, hc, .inl h⟩
  · exact ⟨_, c, rfl, hc, .inr ⟨g, o, rfl, Nat.lt_of_lt_of_le hg hb.size, rangeAt_block hr (hb.block g hg)⟩⟩
theorem IR.ins {w W : World} {v : Value} {l : List Int} (h : IR w W v l) : Ins W v l := by
  rcases h.row.2 with ⟨hv, h0⟩ | ⟨g, cap, cur, hv, hbg, hg, h3, h4, h5, h6⟩
  · exact ⟨none, 0, by rw [hv, h0], by omega, .inl (List.eq_nil_of_length_eq_zero h0)⟩
  · have hrow := h.row
    rw [hv] at hrow; refine ⟨_, cap, hv, h3, .inr ⟨g, 0, rfl, ?_, ?_⟩⟩
    · rcases Nat.lt_or_ge g W.heap.size with h | h
      · exact h
      · rw [Array.getElem?_eq_none h] at hg; cases hg
    · exact ownsRow_range hrow
theorem Ins.int {W : World} {p : Option Addr} {m c : Nat} {l : List Int} (h : Ins W (.slice p m c) l) (i : Nat) (hi : i < l.length) : ∃ g o, p = some ⟨g, o, none⟩ ∧ g < W.heap.size ∧ W.cell? ⟨g, o + i, none⟩ = some (.int .i64 l[i]) := by
  obtain ⟨p', c', e, hc, h0 | ⟨g, o, hp, hg, hr⟩⟩ := h
  · subst h0; simp at hi
  · cases e
    exact ⟨g, o, hp, hg, hr i _ (by simp [iv, hi])⟩
theorem int_info3 : (Tryz.prog.info? 3).map (fun i => (i.zero, i.size, i.bytes)) = some (some (.int .i64 0), 1, 8) := by kernel_rfl
end Go.Proofs.YtmljjpdodcpohaaGreatDoor.Tr

