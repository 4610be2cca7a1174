/- A slice of nodes as it came in, with what its numbers are within; the walk of the document's Light; The walk of the document's Same of tokens, where they are alike; The walks of chrysalisref08's skip and mark; The walks of chrysalisref08's unquoted and Quote; The walk of chrysalisref08. No condition but those that each states. -/
import Derived.Test.YtmljjpdodcpohaaGreatDoorMgAP
import Derived.Test.YtmljjpdodcpohaaGreatDoorMgAE
import Derived.ChangeSlices
import Derived.Deep.Slices
import Derived.Deep.Fields
import Derived.ChangeSame
import Derived.Test.YtmljjpdodcpohaaGreatDoorMgAM
import Derived.Test.YtmljjpdodcpohaaGreatDoorMgAH
import Derived.Test.YtmljjpdodcpohaaGreatDoorMgAL
namespace Go.Proofs.YtmljjpdodcpohaaGreatDoor.Sw
open Lib (hid)
set_option maxRecDepth 100000
set_option maxHeartbeats 1000000
open Go.RowKit Dk Lx Tr
open Go.ChangeShapes Go.WideShapes Go.Deep
section
theorem open_ndN {H : Type} {enc : TypeId × Value → H} {w : World} {n : Nat} {cs : List Value} {x : DataW H × List MemPlace}
    (h : DataW.trod enc Tryz.prog w 0 (fun _ => true) true n 58 cs = some x) : ∃ o : Nd, cs = o.cells ∧ o.kids ≤ 9223372036854775807 ∧ -9223372036854775808 ≤ o.n ∧ o.n < 9223372036854775808 := by
  obtain ⟨fs, hs, hsz, hone, hC, hty⟩ := nd_one; obtain ⟨xs, m, _, _, hlen, hxl, hf⟩ := DataW.trod_struct hs h; rw [hC] at hlen; rw [hsz] at hxl
  have key : ∀ (i : Nat) (t : TypeId) (v : Value), (fs.map (·.type))[i]? = some t → cs[i]? = some v → i < 5 → ∃ y, DataW.trod enc Tryz.prog w 0 (fun _ => true) true m t [v] = some y := by
    intro i t v ht hv hi; have hfi : fs[i]? = some (fs[i]'(by omega)) := Array.getElem?_eq_getElem (by omega); have e := hf i _ hfi; obtain ⟨e1, e2⟩ := hone_of hone i _ hfi; rw [Array.getElem?_map, hfi] at ht; simp only [Option.map_some, Option.some.injEq] at ht; have hil : i < cs.length := by omega
    have hd : (cs.drop i).take 1 = [v] := by
      rw [List.drop_eq_getElem_cons hil]; rw [List.getElem?_eq_getElem hil] at hv; simp only [Option.some.injEq] at hv; rw [hv]; rfl
    rw [e1, e2, hd, ht, List.getElem?_eq_getElem (by omega)] at e; exact ⟨_, e⟩
  rw [hty] at key; match cs, hlen with
  | [c0, c1, c2, c3, c4], _ =>
    obtain ⟨y0, h0⟩ := key 0 _ c0 rfl rfl (by decide); obtain ⟨y1, h1⟩ := key 1 _ c1 rfl rfl (by decide); obtain ⟨y2, h2⟩ := key 2 _ c2 rfl rfl (by decide); obtain ⟨y3, h3⟩ := key 3 _ c3 rfl rfl (by decide); obtain ⟨y4, h4⟩ := key 4 _ c4 rfl rfl (by decide); obtain ⟨n0, e0, _, w0⟩ := DataW.trod_int Tryz.underlying3 h0; obtain ⟨n1, e1, _, w1⟩ := DataW.trod_int Tryz.underlying3 h1; obtain ⟨s, e2, _, w2⟩ := DataW.trod_string Tryz.underlying9 h2; obtain ⟨n3, e3, _, w3⟩ := DataW.trod_int Tryz.underlying2 h3; obtain ⟨s', e4, _, w4⟩ := DataW.trod_string Tryz.underlying9 h4; cases e0; cases e1; cases e2; cases e3; cases e4
    have h5 : (decide (IntKind.i64.min ≤ n3) && decide (n3 ≤ IntKind.i64.max)) = true := w3; rw [Bool.and_eq_true, decide_eq_true_iff, decide_eq_true_iff] at h5; refine ⟨⟨n0, n1, s.data.toList, n3, s'.data.toList⟩, ?_, (by have := w1; simp [Lit.wf] at this; show n1 ≤ _; omega), h5.1, Int.lt_of_le_of_lt h5.2 (by decide)⟩
    unfold Nd.cells; rw [strOf_self', strOf_self']
theorem gatherN (w : World) (b off : Nat) : ∀ n, (∀ j, j < n → ∃ o : Nd, w.rangeAt b (off + j * 5) o.cells ∧ o.kids ≤ 9223372036854775807 ∧ -9223372036854775808 ≤ o.n ∧ o.n < 9223372036854775808) → ∃ ts : List Nd, ts.length = n ∧ Fit ts ∧ FitN ts ∧ w.rangeAt b off (ncells ts)
  | 0, _ => ⟨[], rfl, (fun _ h => by cases h), (fun _ h => by cases h), fun j v hv => by simp [ncells] at hv⟩
  | n + 1, h => by
    obtain ⟨ts, hl, hf, hfn, hr⟩ := gatherN w b off n (fun j hj => h j (by omega)); obtain ⟨o, ho, hof, hon⟩ := h n (Nat.lt_succ_self n); refine ⟨ts ++ [o], by rw [List.length_append, hl]; rfl, (fun x hx => by rcases List.mem_append.1 hx with h | h; exact hf x h; rw [List.mem_singleton.1 h]; exact hof), (fun x hx => by rcases List.mem_append.1 hx with h | h; exact hfn x h; rw [List.mem_singleton.1 h]; exact hon), fun j v hv => ?_⟩
    rw [ncells_app] at hv; by_cases hj : j < (ncells ts).length
    · rw [List.getElem?_append_left hj] at hv
      exact hr j v hv
    · rw [List.getElem?_append_right (by omega)] at hv
      have := ho (j - (ncells ts).length) v (by simpa [ncells] using hv); rw [ncells_length, hl] at this hj; rwa [show off + n * 5 + (j - n * 5) = off + j by omega] at this
theorem open_ndsN {H : Type} {enc : TypeId × Value → H} {w : World} {b0 : Nat} {v : Value} {d : DataW H} {p : List MemPlace}
    (hv : Value.okWide Tryz.prog w .any b0 22 v) (h : DataW.Trod enc Tryz.prog w 0 (fun _ => true) true 22 v d p) : ∃ ts, Nds w v ts ∧ FitN ts := by
  have hlt : ∀ x ∈ p, x.block < w.heap.size := by obtain ⟨n, hn⟩ := h; exact DataW.trod_lt n _ _ _ hn
  obtain ⟨a0, len, cap, rfl⟩ := WideShapes.okWide_slice Tryz.underlying22 hv; obtain ⟨fuel, hf⟩ := h; obtain ⟨fs, hs, hsz, hone, hC, hty⟩ := nd_one; rcases open_slice Tryz.underlying22 hf with ⟨hcs, hx⟩ | ⟨a, len', cap', m, n, D, Pl, hcs, _, hl, hmx, hm, hx, hi⟩
  · simp [Value.cells] at hcs
    obtain ⟨rfl, rfl, rfl⟩ := hcs; exact ⟨[], ⟨_, _, rfl, Nat.zero_le _, (fun _ h => by cases h), .inl rfl⟩, fun _ h => by cases h⟩
  · simp [Value.cells] at hcs
    obtain ⟨rfl, rfl, rfl⟩ := hcs; simp only [Prod.mk.injEq] at hx; simp only [if_true] at hm; by_cases hl0 : len = 0
    · subst hl0
      exact ⟨[], ⟨_, _, rfl, Nat.zero_le _, (fun _ h => by cases h), .inl rfl⟩, fun _ h => by cases h⟩
    · rw [hC] at hx hi
      obtain ⟨b, off, spot⟩ := a; obtain ⟨cs0, hc0, _⟩ := hi 0 (by omega); obtain ⟨_, hlen0, hat0⟩ := World.cells?_some hc0
      have hspot : spot = none := by
        have h0 := hat0 0 (by decide); rw [List.getElem?_eq_getElem (by omega)] at h0; simpa [Addr.add] using World.cell?_spot h0
      subst hspot; have hbW : b < w.heap.size := hlt (.cell b off) (by rw [hx.2]; exact List.mem_append_left _ (MemPlace.mem_row.2 ⟨0, by omega, by simp⟩))
      obtain ⟨ts, hlen, hfit, hfn, hr⟩ := gatherN w b off len (fun j hj => by
        obtain ⟨cs, hc, ht⟩ := hi j (by omega); obtain ⟨o, rfl, hof, hon⟩ := open_ndN ht; obtain ⟨_, hlen, hat⟩ := World.cells?_some hc; refine ⟨o, fun q u hu => ?_, hof, hon⟩; have hq : q < 5 := by have := (List.getElem?_eq_some_iff.1 hu).1; omega
        have := hat q hq; rw [hu] at this; rw [WideShapes.add_plain, WideShapes.add_plain] at this
        exact this)
      subst hlen; exact ⟨ts, ⟨_, _, rfl, hl, hfit, .inr ⟨b, off, rfl, hbW, hr⟩⟩, hfn⟩
end
def LightOk (ts : List Nd) : Prop := ts.length ≤ 2100 ∧ Short ts
def LtOk (ts : List Nd) (e : Ending) : Prop := ∃ b, e = .returned (.bool b) ∧ (b = true → LightOk ts)
theorem light_any (ts : List Nd) (v : Value) (w : World) (h : Nds w v ts) :
    Calls Tryz.prog 9 #[v] w fun e w' => LtOk ts e ∧ w = w' := by
  obtain ⟨p, c, rfl, -⟩ := id h; have HNd := hid h; obtain ⟨n, hn⟩ : ∃ n, n = ts.length := ⟨_, rfl⟩; rw [← hn] at HNd ⊢; have HN := hid hn; clear h hn; by_cases g1 : n ≤ 2100
  · have v1 : ¬(n : Int) > 2100 := by omega
    go_enter Tryz.func9, Tryz.ntmps9
    go_wp2; go_loopw [3] (fun vi wr => ∃ i : Nat, i ≤ n ∧ vi = .int .i64 (i : Int) ∧ wr = w ∧ Hid (∀ j (h : j < ts.length), j < i → ts[j].name.length ≤ 2000 ∧ ts[j].text.length ≤ 2000)) (fun vi _ => n - (intOf vi).toNat)
    case atStart => exact ⟨0, Nat.zero_le _, rfl, rfl, hid (fun j _ h => absurd h (Nat.not_lt_zero j))⟩
    case round =>
      obtain ⟨i, hi, rfl, rfl, hS⟩ := hrel; by_cases hlt : i < n
      · have hil : i < ts.length := by rw [← HN.out]; exact hlt
        obtain ⟨g, o, rfl, -, -, -, c2, -, c4, -⟩ := HNd.out.node i hil; have z0 : (0 : Int) ≤ (i : Int) := by omega
        have z1 : (i : Int) < (n : Int) := by omega
        have s1 := strOf_size ts[i].name; have s2 := strOf_size ts[i].text
        have HA : Hid (ts[i].name.length ≤ 2000 → ts[i].text.length ≤ 2000 → ∀ j (h : j < ts.length), j < i + 1 → ts[j].name.length ≤ 2000 ∧ ts[j].text.length ≤ 2000) := hid (fun h1 h2 j h hj => by
          by_cases hji : j = i
          · subst hji; exact ⟨h1, h2⟩
          · exact hS.out j h (by omega))
        generalize ts[i].name.length = l1 at *; generalize ts[i].text.length = l2 at *; generalize strOf ts[i].name = q1 at *; generalize strOf ts[i].text = q2 at *; by_cases k1 : l1 ≤ 2000
        · have v2 : ¬(q1.size : Int) > 2000 := by omega
          by_cases k2 : l2 ≤ 2000
          · have v3 : ¬(q2.size : Int) > 2000 := by omega
            have HS := hid (HA.out k1 k2); clear s1 s2 k1 k2 hS hil; go_wp2; go_roundw
            case rel => exact ⟨i + 1, by omega, by go_num, by trivial, HS⟩
            case measure => simp [intOf]; omega
          · have v3 : (q2.size : Int) > 2000 := by omega
            clear s1 s2 k1 k2 hS hil; go_wp2; go_ret; exact ⟨⟨_, rfl, (fun h => by cases h)⟩, rfl⟩
        · have v2 : (q1.size : Int) > 2000 := by omega
          clear s1 s2 k1 hS hil; go_wp2; go_ret; exact ⟨⟨_, rfl, (fun h => by cases h)⟩, rfl⟩
      · obtain rfl : i = n := by omega
        have HL : Hid (LightOk ts) := hid ⟨by rw [← HN.out]; exact g1, fun x hx => by
          obtain ⟨j, hj, rfl⟩ := List.getElem_of_mem hx; have := hS.out j hj (by rw [HN.out]; exact hj)
          omega⟩
        clear hS; go_wp2; go_ret; exact ⟨⟨_, rfl, fun _ => HL.out⟩, rfl⟩
  · have v1 : (n : Int) > 2100 := by omega
    go_enter Tryz.func9, Tryz.ntmps9
    go_wp2; go_ret; exact ⟨⟨_, rfl, (fun h => by cases h)⟩, rfl⟩
end Go.Proofs.YtmljjpdodcpohaaGreatDoor.Sw

namespace Go.Proofs.YtmljjpdodcpohaaGreatDoor.Sw
open Lib (hid)
set_option maxRecDepth 100000
set_option maxHeartbeats 4000000
open Go.RowKit Dk Lx
theorem same_some (b : Bool) (g1 o1 c1 g2 o2 c2 : Nat) (x y : List Tk) (w : World) (hx : w.rangeAt g1 o1 (tcells x)) (hy : w.rangeAt g2 o2 (tcells y)) (h : AlikeP b x y) (hl : x.length ≤ 2 ^ 40) :
    Calls Tryz.prog 15 #[.slice (some ⟨g1, o1, none⟩) x.length c1, .slice (some ⟨g2, o2, none⟩) y.length c2, .bool b] w fun e w' => e = .returned (.bool true) ∧ Below w.heap.size w w' := by
  have hlen := h.1; have HX := hid (show ∀ (W : World), Below w.heap.size w W → W.heap = w.heap → W.rangeAt g1 o1 (tcells x) ∧ W.rangeAt g2 o2 (tcells y) from fun W _ hh => ⟨rangeAt_block hx (by rw [hh]), rangeAt_block hy (by rw [hh])⟩); have HA := hid h; rw [← hlen]; obtain ⟨n, hn⟩ : ∃ n, n = x.length := ⟨_, rfl⟩; rw [← hn] at hl ⊢; have HN := hid hn; clear hx hy hlen h hn; go_enter Tryz.func15, Tryz.ntmps15
  go_wp2; go_loopw [7] (fun vi wr => ∃ i : Nat, i ≤ n ∧ vi = .int .i64 (i : Int) ∧ Hid (Below w.heap.size w wr ∧ wr.heap = w.heap)) (fun vi _ => n - (intOf vi).toNat)
  case atStart => exact ⟨0, Nat.zero_le _, rfl, hid ⟨Below.refl _ _, rfl⟩⟩
  case round =>
    obtain ⟨i, hi, rfl, hI⟩ := hrel; by_cases hlt : i < n
    · have z0 : (0 : Int) ≤ (i : Int) := by omega
      have z1 : (i : Int) < (n : Int) := by omega
      have h1 : i < x.length := by rw [← HN.out]; exact hlt
      have h2 : i < y.length := by rw [← HA.out.1]; exact h1
      obtain ⟨q1, q2, q3, q4⟩ := HA.out.2 i h1 h2; obtain ⟨W1, hW1⟩ : ∃ W1, wr.drew = W1 := ⟨_, rfl⟩; have HW1 := hid hW1; have HD : Hid (Below w.heap.size w W1 ∧ W1.heap = w.heap) := hid (by rw [← hW1]; exact ⟨hI.out.1.drew, hI.out.2⟩)
      obtain ⟨r1, r2⟩ := HX.out W1 HD.out.1 HD.out.2; have cx : ∀ j (hj : j < 4) u, (x[i]).cells[j]? = some u → W1.cell? ⟨g1, o1 + (i * 4 + j), none⟩ = some u := fun j hj u hu => r1 (i * 4 + j) u (by rw [tcells_at h1 j hj]; exact hu)
      have cy : ∀ j (hj : j < 4) u, (y[i]).cells[j]? = some u → W1.cell? ⟨g2, o2 + (i * 4 + j), none⟩ = some u := fun j hj u hu => r2 (i * 4 + j) u (by rw [tcells_at h2 j hj]; exact hu)
      have a0 : W1.cell? ⟨g1, o1 + i * 4, none⟩ = some (.int .i64 x[i].kind) := cx 0 (by decide) _ rfl; have a1 : W1.cell? ⟨g1, o1 + i * 4 + 1, none⟩ = some (.string (strOf x[i].text)) := cx 1 (by decide) _ rfl; have a2 : W1.cell? ⟨g1, o1 + i * 4 + 2, none⟩ = some (.int .i64 x[i].n) := cx 2 (by decide) _ rfl; have a3 : W1.cell? ⟨g1, o1 + i * 4 + 3, none⟩ = some (.int .i64 x[i].place) := cx 3 (by decide) _ rfl; have b0 : W1.cell? ⟨g2, o2 + i * 4, none⟩ = some (.int .i64 y[i].kind) := cy 0 (by decide) _ rfl; have b1 : W1.cell? ⟨g2, o2 + i * 4 + 1, none⟩ = some (.string (strOf y[i].text)) := cy 1 (by decide) _ rfl; have b2 : W1.cell? ⟨g2, o2 + i * 4 + 2, none⟩ = some (.int .i64 y[i].n) := cy 2 (by decide) _ rfl; have b3 : W1.cell? ⟨g2, o2 + i * 4 + 3, none⟩ = some (.int .i64 y[i].place) := cy 3 (by decide) _ rfl; rw [← q1] at b0; rw [← q2] at b1; rw [← q3] at b2; have heq : ((strOf x[i].text).toList == (strOf x[i].text).toList) = true := by simp
      generalize strOf x[i].text = tx at *; generalize x[i].kind = kx at *; generalize x[i].n = nx at *; generalize x[i].place = px at *; generalize y[i].place = py at *; clear cx cy r1 r2 q1 q2 q3 hW1 h1 h2; cases b with
      | false =>
        clear q4; go_wp2_with fail
        refine ws_region (by kernel_rfl) (by kernel_rfl) W1 HW1.out ?_; iterate 40 (refine ws_step (fun K hK => ?_); go_simp; refine hK _ ?_; clear hK K)
        iterate 11 (refine ws_skip (by kernel_rfl) ?_)
        iterate 2 (refine ws_step (fun K hK => ?_); go_simp; refine hK _ ?_; clear hK K)
        refine ws_nil ?_; clear a0 a1 a2 a3 b0 b1 b2 b3 heq HW1; go_wp2; go_roundw
        case rel => exact ⟨i + 1, by omega, by go_num, HD⟩
        case measure => simp [intOf]; omega
      | true =>
        have q5 := q4 rfl; rw [← q5] at b3; clear q4 q5; go_wp2_with fail
        refine ws_region (by kernel_rfl) (by kernel_rfl) W1 HW1.out ?_; iterate 53 (refine ws_step (fun K hK => ?_); go_simp; refine hK _ ?_; clear hK K)
        refine ws_nil ?_; clear a0 a1 a2 a3 b0 b1 b2 b3 heq HW1; go_wp2; go_roundw
        case rel => exact ⟨i + 1, by omega, by go_num, HD⟩
        case measure => simp [intOf]; omega
    · obtain rfl : i = n := by omega
      go_wp2; go_ret; exact ⟨rfl, hI.out.1⟩
theorem same_none (b : Bool) (p1 p2 : Option Addr) (c1 c2 : Nat) (w : World) :
    Calls Tryz.prog 15 #[.slice p1 0 c1, .slice p2 0 c2, .bool b] w fun e w' => e = .returned (.bool true) ∧ Below w.heap.size w w' := by
  go_enter Tryz.func15, Tryz.ntmps15
  go_wp2; go_loopw [7] (fun vi wr => vi = .int .i64 0 ∧ wr = w) (fun _ _ => 0)
  case atStart => exact ⟨rfl, rfl⟩
  case round =>
    obtain ⟨rfl, rfl⟩ := hrel; go_wp2; go_ret; exact ⟨rfl, Below.refl _ _⟩
theorem same_any (b : Bool) (x y : List Tk) (v u : Value) (w : World) (hx : Toks w v x) (hy : Toks w u y) (h : AlikeP b x y) (hl : x.length ≤ 2 ^ 40) :
    Calls Tryz.prog 15 #[v, u, .bool b] w fun e w' => e = .returned (.bool true) ∧ Below w.heap.size w w' := by
  obtain ⟨p, c, rfl, -, hp⟩ := hx; obtain ⟨q, d, rfl, -, hq⟩ := hy; have hlen := h.1; rcases hp with rfl | ⟨g1, o1, rfl, -, r1⟩
  · have : y = [] := List.eq_nil_of_length_eq_zero hlen.symm
    subst this; exact same_none b p q c d w
  · rcases hq with rfl | ⟨g2, o2, rfl, -, r2⟩
    · have : x = [] := List.eq_nil_of_length_eq_zero hlen
      subst this; exact same_none b _ _ c d w
    · exact same_some b g1 o1 c g2 o2 d x y w r1 r2 h hl
end Go.Proofs.YtmljjpdodcpohaaGreatDoor.Sw

namespace Go.Proofs.YtmljjpdodcpohaaGreatDoor.Lx
open Go.RowKit Dk
theorem from_cons (s : ByteArray) (a : Nat) (h : a < s.size) : ∃ c r, from' s a = c :: r ∧ from' s (a + 1) = r := by
  obtain ⟨c, r, h1, h2, h3⟩ := from_split s a 0 (by omega); rw [List.drop_zero] at h1; refine ⟨c, r, h1, ?_⟩; rw [← from_drop, h1]; rfl
end Go.Proofs.YtmljjpdodcpohaaGreatDoor.Lx

namespace Go.Proofs.YtmljjpdodcpohaaGreatDoor.Lx
open Go.RowKit Dk
structure BX (w W : World) (v : Value) (pre : List UInt8) : Prop where
  row : W.ownsRow w.heap.size 5 1 v pre.length (bv pre)
  below : Below w.heap.size w W
theorem BX.grown {w W W1 W' : World} {v v' : Value} {pre pre' : List UInt8} (h : BX w W v pre) (hW : Below W.heap.size W W1) (hg : W1.grownBy W' v.ownBlock) (hrow : W'.ownsRow w.heap.size 5 1 v' pre'.length (bv pre')) : BX w W' v' pre' :=
  ⟨hrow, ((Only.of_below (F := fun b => v.ownBlock = some b) hW).trans (Only.of_grown (F := fun b => v.ownBlock = some b) hg (fun _k hk => hk)) (fun _ _ h => h)).below h.below (fun b hb => (own_lo h.row b hb).1) (Nat.le_refl _)⟩
theorem BX.app1 {w W W' : World} {v v' : Value} {pre : List UInt8} {x : UInt8} {o : Obj} (h : BX w W v pre) (hrow : W'.ownsRow w.heap.size 5 1 v' (pre.length + 1) (bv pre ++ [.int .u8 (x.toNat : Int)])) (hg : (W.alloc o).grownBy W' v.ownBlock) : BX w W' v' (pre ++ [x]) :=
  h.grown ((Below.refl _ _).alloc (Nat.le_refl _) _) hg (by rw [show [Value.int .u8 (x.toNat : Int)] = bv [x] from rfl, ← bv_append] at hrow; rw [List.length_append]; exact hrow)
theorem BX.app2 {w W W' : World} {v v' : Value} {pre : List UInt8} {x y : UInt8} {o : Obj} (h : BX w W v pre) (hrow : W'.ownsRow w.heap.size 5 1 v' (pre.length + 2) (bv pre ++ [.int .u8 (x.toNat : Int), .int .u8 (y.toNat : Int)])) (hg : (W.alloc o).grownBy W' v.ownBlock) : BX w W' v' (pre ++ [x, y]) :=
  h.grown ((Below.refl _ _).alloc (Nat.le_refl _) _) hg (by rw [show [Value.int .u8 (x.toNat : Int), Value.int .u8 (y.toNat : Int)] = bv [x, y] from rfl, ← bv_append] at hrow; rw [List.length_append]; exact hrow)
end Go.Proofs.YtmljjpdodcpohaaGreatDoor.Lx

namespace Go.Proofs.YtmljjpdodcpohaaGreatDoor.Lx
open Lib (hid)
set_option maxRecDepth 100000
set_option maxHeartbeats 4000000
open Go.RowKit Dk
theorem esc_more {T : List UInt8} {i : Nat} {c : UInt8} {r : List UInt8} (h : T.drop i = c :: r) : (T.take (i + 1)).flatMap escL = (T.take i).flatMap escL ++ escL c := by
  have hl : i < T.length := by
    have := congrArg List.length h; rw [List.length_drop, List.length_cons] at this; omega
  have e2 := List.drop_eq_getElem_cons hl; rw [h] at e2; rw [List.take_succ_eq_append_getElem hl, List.flatMap_append, ← (List.cons.inj e2).1, List.flatMap_cons, List.flatMap_nil, List.append_nil]
theorem rquote_any (T : List UInt8) (w : World) (hs : T.length ≤ 2 ^ 40) :
    Calls Tryz.prog 33 #[.string (strOf T)] w fun e w' => e = .returned (.string (strOf (quoteL T))) ∧ Below w.heap.size w w' := by
  obtain ⟨i0, hi0, hy0, hy1, hy2⟩ := info_parts b_info3; have hTs := strOf_size T
  have HFC : Hid (∀ i, i < T.length → ∃ c r, from' (strOf T) i = c :: r ∧ T.drop i = c :: r) := hid (fun i hi => by
    obtain ⟨c, r, h1, -⟩ := from_cons (strOf T) i (by omega); refine ⟨c, r, h1, ?_⟩; unfold from' at h1
    rwa [strOf_toList] at h1)
  have HX0 : Hid (BX w (w.alloc (.cells #[.int .u8 34] 5)) (.slice (some ⟨w.heap.size, 0, none⟩) 1 1) [34]) := hid ⟨World.ownsRow_lit w #[.int .u8 34] 1 (Nat.le_refl _) (by unfold maxLen; omega) rfl, (Below.refl _ _).alloc (Nat.le_refl _) _⟩
  generalize hS : strOf T = s at *; have HSS := hid hS; clear hS; go_enter Tryz.func33, Tryz.ntmps33
  go_wp2; go_loopw [3, 4] (fun vo vi wr => ∃ (i : Nat) (pre : List UInt8), i ≤ T.length ∧ pre.length ≤ 1 + 2 * i ∧ vi = .int .i64 (i : Int) ∧ Hid (BX w wr vo pre) ∧ Hid (pre = 34 :: (T.take i).flatMap escL)) (fun _ vi _ => T.length - (intOf vi).toNat)
  case atStart => exact ⟨0, [34], Nat.zero_le _, by simp, rfl, HX0, hid (by simp)⟩
  case round =>
    clear HX0; obtain ⟨i, pre, hi, hpre, rfl, hX, hS⟩ := hrel; have hsz := hX.out.below.size; by_cases hlt : i < T.length
    · obtain ⟨c, r, hl, hd⟩ := HFC.out i hlt
      have hix := fun W => byte_at (P := Tryz.prog) s i c r hl 9 Tryz.underlying9 W
      have hlt' : (i : Int) < (s.size : Int) := by omega
      have HM := hid (esc_more hd); clear hl hd; by_cases h10 : c.toNat = 10
      · have v1 : ((c.toNat : Int) == 10) = true := by rw [h10]; rfl
        have HS : Hid (pre ++ [92, 110] = 34 :: (T.take (i + 1)).flatMap escL) := hid (by rw [HM.out, hS.out]; unfold escL; rw [if_pos h10]; rfl)
        have N1 := hid (news_at wr #[.int .u8 92, .int .u8 110] 5); clear h10 HM hS; generalize (c.toNat : Int) = x at *; go_wp2_with (refine wpList_append_lies _ rfl (.tmp 23) (.tmp 24) 63 rfl w.heap.size 5 i0 (.int .u8 0) 1 1 Tryz.underlying63 hi0 hy0 hy1 hy2 rfl (by decide) _ pre.length (bv pre) rfl (hX.out.row.alloc _) ⟨wr.heap.size, 0, none⟩ 2 2 [.int .u8 92, .int .u8 110] rfl rfl N1.out (by simp [Value.oneCell']) (by decide) (by unfold maxLen; omega) (by omega) (by simp; omega) (wr.heap.size + 1) (by simp) ?_; intro g cap W7 hrow hgr hgl hlt7; have HX2 := hid (hX.out.app2 (x := 92) (y := 110) hrow hgr); clear hrow hgr hgl hlt7)
        go_roundw
        case rel => exact ⟨i + 1, pre ++ [92, 110], by omega, by simp; omega, by go_num, HX2, HS⟩
        case measure => simp [intOf]; omega
      · have v1 : ((c.toNat : Int) == 10) = false := by simp; omega
        by_cases h34 : c.toNat = 34
        · have v2 : ((c.toNat : Int) == 34) = true := by rw [h34]; rfl
          have HS : Hid (pre ++ [92, c] = 34 :: (T.take (i + 1)).flatMap escL) := hid (by rw [HM.out, hS.out]; unfold escL; rw [if_neg h10, if_pos (.inl h34)]; rfl)
          have N1 := hid (news_at wr #[.int .u8 92, .int .u8 (c.toNat : Int)] 5); clear h10 h34 HM hS; go_wp2_with (refine wpList_append_lies _ rfl (.tmp 29) (.tmp 33) 63 rfl w.heap.size 5 i0 (.int .u8 0) 1 1 Tryz.underlying63 hi0 hy0 hy1 hy2 rfl (by decide) _ pre.length (bv pre) rfl (hX.out.row.alloc _) ⟨wr.heap.size, 0, none⟩ 2 2 [.int .u8 92, .int .u8 (c.toNat : Int)] rfl rfl N1.out (by simp [Value.oneCell']) (by decide) (by unfold maxLen; omega) (by omega) (by simp; omega) (wr.heap.size + 1) (by simp) ?_; intro g cap W7 hrow hgr hgl hlt7; have HX2 := hid (hX.out.app2 (x := 92) (y := c) hrow hgr); clear hrow hgr hgl hlt7)
          go_roundw
          case rel => exact ⟨i + 1, pre ++ [92, c], by omega, by simp; omega, by go_num, HX2, HS⟩
          case measure => simp [intOf]; omega
        · have v2 : ((c.toNat : Int) == 34) = false := by simp; omega
          by_cases h92 : c.toNat = 92
          · have v3 : ((c.toNat : Int) == 92) = true := by rw [h92]; rfl
            have HS : Hid (pre ++ [92, c] = 34 :: (T.take (i + 1)).flatMap escL) := hid (by rw [HM.out, hS.out]; unfold escL; rw [if_neg h10, if_pos (.inr h92)]; rfl)
            have N1 := hid (news_at wr #[.int .u8 92, .int .u8 (c.toNat : Int)] 5); clear h10 h34 h92 HM hS; go_wp2_with (refine wpList_append_lies _ rfl (.tmp 29) (.tmp 33) 63 rfl w.heap.size 5 i0 (.int .u8 0) 1 1 Tryz.underlying63 hi0 hy0 hy1 hy2 rfl (by decide) _ pre.length (bv pre) rfl (hX.out.row.alloc _) ⟨wr.heap.size, 0, none⟩ 2 2 [.int .u8 92, .int .u8 (c.toNat : Int)] rfl rfl N1.out (by simp [Value.oneCell']) (by decide) (by unfold maxLen; omega) (by omega) (by simp; omega) (wr.heap.size + 1) (by simp) ?_; intro g cap W7 hrow hgr hgl hlt7; have HX2 := hid (hX.out.app2 (x := 92) (y := c) hrow hgr); clear hrow hgr hgl hlt7)
            go_roundw
            case rel => exact ⟨i + 1, pre ++ [92, c], by omega, by simp; omega, by go_num, HX2, HS⟩
            case measure => simp [intOf]; omega
          · have v3 : ((c.toNat : Int) == 92) = false := by simp; omega
            have HS : Hid (pre ++ [c] = 34 :: (T.take (i + 1)).flatMap escL) := hid (by rw [HM.out, hS.out, esc_plain h10 h34 h92]; rfl)
            have N1 := hid (news_at wr #[.int .u8 (c.toNat : Int)] 5); clear h10 h34 h92 HM hS; go_wp2_with (refine wpList_append_lies _ rfl (.tmp 15) (.tmp 19) 63 rfl w.heap.size 5 i0 (.int .u8 0) 1 1 Tryz.underlying63 hi0 hy0 hy1 hy2 rfl (by decide) _ pre.length (bv pre) rfl (hX.out.row.alloc _) ⟨wr.heap.size, 0, none⟩ 1 1 [.int .u8 (c.toNat : Int)] rfl rfl N1.out (by simp [Value.oneCell']) (by decide) (by unfold maxLen; omega) (by omega) (by simp; omega) (wr.heap.size + 1) (by simp) ?_; intro g cap W7 hrow hgr hgl hlt7; have HX2 := hid (hX.out.app1 (x := c) hrow hgr); clear hrow hgr hgl hlt7)
            go_roundw
            case rel => exact ⟨i + 1, pre ++ [c], by omega, by simp; omega, by go_num, HX2, HS⟩
            case measure => simp [intOf]; omega
    · obtain rfl : i = T.length := by omega
      have hS' := hS.out; rw [List.take_of_length_le (Nat.le_refl _)] at hS'; have HS : Hid (pre ++ [34] = quoteL T) := hid (by rw [hS']; rfl)
      have N1 := hid (news_at wr #[.int .u8 34] 5); have hge : ¬((T.length : Int)) < (s.size : Int) := by omega
      clear hS hS' hlt hi; go_wp2_with (refine wpList_append_lies _ rfl (.tmp 35) (.tmp 36) 63 rfl w.heap.size 5 i0 (.int .u8 0) 1 1 Tryz.underlying63 hi0 hy0 hy1 hy2 rfl (by decide) _ pre.length (bv pre) rfl (hX.out.row.alloc _) ⟨wr.heap.size, 0, none⟩ 1 1 [.int .u8 34] rfl rfl N1.out (by simp [Value.oneCell']) (by decide) (by unfold maxLen; omega) (by omega) (by simp; omega) (wr.heap.size + 1) (by simp) ?_; intro g cap W7 hrow hgr hgl hlt7; have HX2 := hid (hX.out.app1 (x := 34) hrow hgr); clear hrow hgr hgl hlt7; have g2 := run_convert_owned (P := Tryz.prog) (src := 63) (dst := 9) Tryz.underlying63 Tryz.underlying5 Tryz.underlying9 HX2.out.row)
      go_ret; exact ⟨by rw [← HS.out]; rfl, HX2.out.below⟩
end Go.Proofs.YtmljjpdodcpohaaGreatDoor.Lx

