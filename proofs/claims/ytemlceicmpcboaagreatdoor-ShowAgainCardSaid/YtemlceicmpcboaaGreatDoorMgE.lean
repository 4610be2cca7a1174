/- The walks of expr, and, sum and prod: each calls row: their contracts. The walks of cmp and unary: their contracts. The walk of unary: its contract. The walk of named: its contract. The walk of prim: its contract. A branch whose row grows; the walk of function: its contract. No condition but those that each states. -/
import Derived.Test.YtemlceicmpcboaaGreatDoorMgD
namespace Go.Proofs.YtemlceicmpcboaaGreatDoor.Pa
open Go.RowKit Dk Lx Tr

theorem RdOk.behind {L : List Tk} {g : Nat} {vt : Value} {A : List Sy} {s s' : St} {w W w' : World} {e : Ending} {b : Nat} {t : List Nd} (h : RdOk L g vt A s W e w' b t s') (hb : Below w.heap.size w W) : RdOk L g vt A s w e w' b t s' :=
  ⟨h.ret, h.leads, h.ps, (Only.of_below (F := fun k => k = g) hb).trans h.only (fun _ _ h => h), SB.weaken h.br (fun _i _ hi => Nat.lt_of_lt_of_le hi hb.size), h.le⟩

theorem enters_and : Enters 230 := fun _ _ => by kernel_rfl
theorem enters_cmp : Enters 249 := fun _ _ => by kernel_rfl
theorem enters_prod : Enters 264 := fun _ _ => by kernel_rfl
theorem enters_unary : Enters 265 := fun _ _ => by kernel_rfl
theorem enters_expr : Enters 203 := fun _ _ => by kernel_rfl
theorem enters_param : Enters 131 := fun _ _ => by kernel_rfl

set_option maxHeartbeats 1000000 in
set_option maxRecDepth 100000 in
theorem expr_rd (L : List Tk) (n : Nat) (hE : RdN L 230 [.e 1] n) (s : St) (hs : mu L s < n) : Rd L 203 [.e 0] s := by
  intro g vt w h
  have HO : Ops (w.alloc (.cells #[.string ⟨#[111, 114]⟩] 9)) g (.slice (some ⟨w.heap.size, 0, none⟩) 1 1) 0 := ⟨w.heap.size, 1, rfl, rfl, by simp, by have := h.lt; omega, range_new w [.string ⟨#[111, 114]⟩] 9⟩
  have R := Lib.hid (row_any L 230 enters_and 0 n (by decide) (by decide) hE s hs g vt _ _ (PS.below h ((Below.refl _ _).alloc (Nat.le_refl _) _)) HO)
  have HB := Lib.hid ((Below.refl w.heap.size w).alloc (Nat.le_refl _) (.cells #[.string ⟨#[111, 114]⟩] 9))
  clear HO h hE hs
  go_enter Tryz.func203, Tryz.ntmps203
  go_wp2_with fail
  refine R.out.mono ?_
  rintro e w1 ⟨b, t, s1, hk⟩
  have HK := Lib.hid (hk.behind HB.out)
  obtain ⟨rfl, -⟩ := hk
  go_wp2
  go_ret
  exact ⟨b, t, s1, HK.out⟩

set_option maxHeartbeats 1000000 in
set_option maxRecDepth 100000 in
theorem and_rd (L : List Tk) (n : Nat) (hE : RdN L 249 [.e 2] n) (s : St) (hs : mu L s < n) : Rd L 230 [.e 1] s := by
  intro g vt w h
  have HO : Ops (w.alloc (.cells #[.string ⟨#[97, 110, 100]⟩] 9)) g (.slice (some ⟨w.heap.size, 0, none⟩) 1 1) 1 := ⟨w.heap.size, 1, rfl, rfl, by simp, by have := h.lt; omega, range_new w [.string ⟨#[97, 110, 100]⟩] 9⟩
  have R := Lib.hid (row_any L 249 enters_cmp 1 n (by decide) (by decide) hE s hs g vt _ _ (PS.below h ((Below.refl _ _).alloc (Nat.le_refl _) _)) HO)
  have HB := Lib.hid ((Below.refl w.heap.size w).alloc (Nat.le_refl _) (.cells #[.string ⟨#[97, 110, 100]⟩] 9))
  clear HO h hE hs
  go_enter Tryz.func230, Tryz.ntmps230
  go_wp2_with fail
  refine R.out.mono ?_
  rintro e w1 ⟨b, t, s1, hk⟩
  have HK := Lib.hid (hk.behind HB.out)
  obtain ⟨rfl, -⟩ := hk
  go_wp2
  go_ret
  exact ⟨b, t, s1, HK.out⟩

set_option maxHeartbeats 1000000 in
set_option maxRecDepth 100000 in
theorem sum_rd (L : List Tk) (n : Nat) (hE : RdN L 264 [.e 4] n) (s : St) (hs : mu L s < n) : Rd L 259 [.e 3] s := by
  intro g vt w h
  have HO : Ops (w.alloc (.cells #[.string ⟨#[43]⟩, .string ⟨#[45]⟩, .string ⟨#[46, 46]⟩] 9)) g (.slice (some ⟨w.heap.size, 0, none⟩) 3 3) 3 := ⟨w.heap.size, 3, rfl, rfl, by simp, by have := h.lt; omega, range_new w [.string ⟨#[43]⟩, .string ⟨#[45]⟩, .string ⟨#[46, 46]⟩] 9⟩
  have R := Lib.hid (row_any L 264 enters_prod 3 n (by decide) (by decide) hE s hs g vt _ _ (PS.below h ((Below.refl _ _).alloc (Nat.le_refl _) _)) HO)
  have HB := Lib.hid ((Below.refl w.heap.size w).alloc (Nat.le_refl _) (.cells #[.string ⟨#[43]⟩, .string ⟨#[45]⟩, .string ⟨#[46, 46]⟩] 9))
  clear HO h hE hs
  go_enter Tryz.func259, Tryz.ntmps259
  go_wp2_with fail
  refine R.out.mono ?_
  rintro e w1 ⟨b, t, s1, hk⟩
  have HK := Lib.hid (hk.behind HB.out)
  obtain ⟨rfl, -⟩ := hk
  go_wp2
  go_ret
  exact ⟨b, t, s1, HK.out⟩

set_option maxHeartbeats 1000000 in
set_option maxRecDepth 100000 in
theorem prod_rd (L : List Tk) (n : Nat) (hE : RdN L 265 [.e 5] n) (s : St) (hs : mu L s < n) : Rd L 264 [.e 4] s := by
  intro g vt w h
  have HO : Ops (w.alloc (.cells #[.string ⟨#[42]⟩, .string ⟨#[47]⟩, .string ⟨#[37]⟩] 9)) g (.slice (some ⟨w.heap.size, 0, none⟩) 3 3) 4 := ⟨w.heap.size, 3, rfl, rfl, by simp, by have := h.lt; omega, range_new w [.string ⟨#[42]⟩, .string ⟨#[47]⟩, .string ⟨#[37]⟩] 9⟩
  have R := Lib.hid (row_any L 265 enters_unary 4 n (by decide) (by decide) hE s hs g vt _ _ (PS.below h ((Below.refl _ _).alloc (Nat.le_refl _) _)) HO)
  have HB := Lib.hid ((Below.refl w.heap.size w).alloc (Nat.le_refl _) (.cells #[.string ⟨#[42]⟩, .string ⟨#[47]⟩, .string ⟨#[37]⟩] 9))
  clear HO h hE hs
  go_enter Tryz.func264, Tryz.ntmps264
  go_wp2_with fail
  refine R.out.mono ?_
  rintro e w1 ⟨b, t, s1, hk⟩
  have HK := Lib.hid (hk.behind HB.out)
  obtain ⟨rfl, -⟩ := hk
  go_wp2
  go_ret
  exact ⟨b, t, s1, HK.out⟩

end Go.Proofs.YtemlceicmpcboaaGreatDoor.Pa
namespace Go.Proofs.YtemlceicmpcboaaGreatDoor.Pa
open Go.RowKit Dk Lx Tr

theorem str_beq' (a q : List UInt8) : ((strOf a).toList == q) = decide (a = q) := by
  have := str_beq a q
  rwa [strOf_tl q] at this

theorem mu_next {L : List Tk} {j : Nat} (h : j < L.length) : mu L (.ok (j + 1)) < mu L (.ok j) := by
  show L.length - (j + 1) + 1 < L.length - j + 1
  omega
theorem sgS_ok {L : List Tk} {s : St} {q : List UInt8} (h : sgS L s = q) (hq : q ≠ []) : ∃ j, s = .ok j ∧ sg L j = q ∧ j < L.length := by
  cases s with
  | ok j => exact ⟨j, rfl, h, sg_lt (by rw [show sg L j = q from h]; exact hq)⟩
  | bad k => rw [sgS_bad] at h; exact absurd h.symm hq

set_option maxHeartbeats 8000000 in
set_option maxRecDepth 100000 in
theorem cmp_rd (L : List Tk) (n : Nat) (hE : RdN L 259 [.e 3] n) (s : St) (hs : mu L s < n) : Rd L 249 [.e 2] s := by
  intro g vt w h
  have HE := Lib.hid hE
  have H0 := Lib.hid (On.start h)
  have HLT := Lib.hid h.lt
  have HD : Hid (Leads L [.e 2] [] s [.e 3, .row 2] [] s) := Lib.hid (e_down (by decide) s)
  have E1 := Lib.hid (HE.out s hs)
  have HMU := Lib.hid hs
  clear hE h hs
  go_enter Tryz.func249, Tryz.ntmps249
  go_wp2_with fail
  refine (E1.out g vt w H0.out.ps).mono ?_
  rintro e w1 ⟨b, t, s1, hk⟩
  obtain ⟨rfl, hl, hps, honly, hbr, hle⟩ := hk
  have H1 := Lib.hid (H0.out.call hps honly)
  have HL1 : Hid (Leads L [.e 2] [] s [.row 2] [t] s1) := Lib.hid (HD.out.trans (by
    have := hl.over [.row 2] []
    exact this))
  have HB1 := Lib.hid hbr
  have HLE1 := Lib.hid hle
  have HM1 := Lib.hid (Nat.lt_of_le_of_lt (mu_le hl.aft hle) HMU.out)
  clear hl hps honly hbr hle HD E1 HMU
  have SG := Lib.hid (sign_any H1.out.ps)
  by_cases hq : sgS L s1 ∈ level 2
  · obtain ⟨j, rfl, hj, hjl⟩ := sgS_ok (rfl : sgS L s1 = _) (by intro e; rw [e] at hq; exact level_ne _ hq)
    have HL2 : Hid (Leads L [.e 2] [] s [.e 3, .mk { nd 27 with text := sg L j } 2] [t] (.ok (j + 1))) := Lib.hid (HL1.out.trans (row_more (k := 2) [t] hq))
    have hmu : mu L (.ok (j + 1)) < n := Nat.lt_trans (mu_next hjl) HM1.out
    have E2 := Lib.hid (HE.out (.ok (j + 1)) hmu)
    have HLE4 : Hid (nx L s ≤ j + 1) := Lib.hid (Nat.le_trans HLE1.out (Nat.le_succ _))
    have HJ := Lib.hid hjl
    rw [show sgS L (.ok j) = sg L j from rfl] at SG hq
    generalize sg L j = op at *
    have z9 : (j : Int) ≤ 1000000 := by have := H1.out.ps.few; omega
    have G : Hid (∀ (p : Option Addr) (W : World), Calls Tryz.prog 67 #[.agg #[.int .i64 27, .int .i64 0, .string ⟨#[]⟩, .int .i64 0, .string (strOf op)], .slice p 2 2] W fun e w' => ∃ b, e = .returned (ptr b) ∧ W.heap.size ≤ b ∧ BB w' b ⟨27, 0, [], 0, op⟩ 0 (.slice p 2 2) ∧ Below W.heap.size W w') := Lib.hid (fun p W => grow_any ⟨27, 0, [], 0, op⟩ p 2 2 W)
    have q1 : ((strOf op).toList == ([61, 61] : List UInt8)) = decide (op = [61, 61]) := str_beq' op [61, 61]
    have q2 : ((strOf op).toList == ([33, 61] : List UInt8)) = decide (op = [33, 61]) := str_beq' op [33, 61]
    have q3 : ((strOf op).toList == ([60] : List UInt8)) = decide (op = [60]) := str_beq' op [60]
    have q4 : ((strOf op).toList == ([60, 61] : List UInt8)) = decide (op = [60, 61]) := str_beq' op [60, 61]
    have hop : op = [61, 61] ∨ op = [33, 61] ∨ op = [60] ∨ op = [60, 61] := by simpa [level] using hq
    generalize hO : strOf op = o at *
    have z1 : (o.toList == ([61, 61] : List UInt8)) = true ∨ (o.toList == ([61, 61] : List UInt8)) = false ∧ (o.toList == ([33, 61] : List UInt8)) = true ∨ (o.toList == ([61, 61] : List UInt8)) = false ∧ (o.toList == ([33, 61] : List UInt8)) = false ∧ (o.toList == ([60] : List UInt8)) = true ∨ (o.toList == ([61, 61] : List UInt8)) = false ∧ (o.toList == ([33, 61] : List UInt8)) = false ∧ (o.toList == ([60] : List UInt8)) = false ∧ (o.toList == ([60, 61] : List UInt8)) = true := by
      rw [q1, q2, q3, q4]
      rcases hop with rfl | rfl | rfl | rfl <;> decide
    clear hq HL1 hmu hjl HLE1 hj q1 q2 q3 q4 hop hO
    rcases z1 with z1 | ⟨z1, z2⟩ | ⟨z1, z2, z3⟩ | ⟨z1, z2, z3, z4⟩
    all_goals
      go_wp2_with fail
      refine SG.out.mono ?_
      rintro e v1 ⟨rfl, hb⟩
      have O1 := Lib.hid (H1.out.below hb)
      have B1 := Lib.hid (HB1.out.below hb)
      clear hb
      obtain ⟨-, c1, -, -⟩ := O1.out.ps.at
      obtain ⟨f1, -, -⟩ := O1.out.ps.free
      rw [show nx L (.ok j) = j from rfl] at c1
      have O2 := Lib.hid (O1.out.call (O1.out.ps.next HJ.out) (Only.of_setCell _))
      have B2 := Lib.hid (SB.aft (SB.call B1.out (Only.of_setCell (g := g) (j := 1) (.int .i64 ((j : Int) + 1))) HLT.out) (s' := .ok (j + 1)) (fun _ _ => ⟨j, rfl⟩))
      go_wp2_with fail
      generalize World.setCell _ _ _ = v3 at O2 B2 ⊢
      clear c1 f1
      refine (E2.out g vt v3 O2.out.ps).mono ?_
      rintro e v4 ⟨b', t', s4, hk⟩
      obtain ⟨rfl, hl, hps, honly, hbr, hle⟩ := hk
      have O4 := Lib.hid (O2.out.call hps honly)
      have B4 := Lib.hid (SB.aft (SB.call B2.out honly HLT.out) hl.aft)
      have B4' : Hid (SB v4 (fun k => k < w.heap.size) b' t' s4) := Lib.hid (SB.weaken hbr (fun i _ hi => by have := O2.out.only.size; omega))
      have HL4 : Hid (Leads L [.e 2] [] s [] [join { nd 27 with text := op } [t, t']] s4) := Lib.hid ((HL2.out.trans (by
        have := hl.over [.mk { nd 27 with text := op } 2] [t]
        rw [List.append_nil] at this
        exact this)).trans (Leads.mk (L := L) { nd 27 with text := op } [t, t'] 2 rfl s4))
      have HLE5 : Hid (nx L s ≤ nx L s4) := Lib.hid (Nat.le_trans HLE4.out hle)
      have R4 : Hid (LR w (v4.alloc (.cells #[ptr b, ptr b'] 76)) (.slice (some ⟨v4.heap.size, 0, none⟩) 2 2) [(b, t), (b', t')] s4) := Lib.hid (LR.lit (Kids.add (Kids.add (Kids.nil _ _ _) B4.out) B4'.out) O4.out.only.size rfl rfl (by decide))
      have O5 := Lib.hid (O4.out.alloc (.cells #[ptr b, ptr b'] 76))
      clear hl hps honly hbr hle
      go_wp2_with fail
      refine (G.out _ _).mono ?_
      rintro e v6 ⟨b6, rfl, hb, hB, hbel⟩
      have O6 := Lib.hid (O5.out.below hbel)
      have HSB : Hid (SB v6 (fun k => k < w.heap.size) b6 (join { nd 27 with text := op } [t, t']) s4) := Lib.hid (sb_node (cs := [(b, t), (b', t')]) hB (by have := O5.out.only.size; omega) (R4.out.below hbel))
      clear hbel hb hB
      go_wp2
      go_ret
      exact ⟨b6, _, s4, rfl, HL4.out, O6.out.ps, O6.out.only, HSB.out, HLE5.out⟩
  · have HL2 := Lib.hid (HL1.out.trans (row_end [t] hq))
    generalize sgS L s1 = op at *
    have q1 : ((strOf op).toList == ([61, 61] : List UInt8)) = false := (str_beq' op [61, 61]).trans (decide_eq_false (fun e => hq (by rw [e]; decide)))
    have q2 : ((strOf op).toList == ([33, 61] : List UInt8)) = false := (str_beq' op [33, 61]).trans (decide_eq_false (fun e => hq (by rw [e]; decide)))
    have q3 : ((strOf op).toList == ([60] : List UInt8)) = false := (str_beq' op [60]).trans (decide_eq_false (fun e => hq (by rw [e]; decide)))
    have q4 : ((strOf op).toList == ([60, 61] : List UInt8)) = false := (str_beq' op [60, 61]).trans (decide_eq_false (fun e => hq (by rw [e]; decide)))
    generalize strOf op = o at *
    clear hq
    go_wp2_with fail
    refine SG.out.mono ?_
    rintro e v1 ⟨rfl, hb⟩
    have O1 := Lib.hid (H1.out.below hb)
    have B1 := Lib.hid (HB1.out.below hb)
    clear hb
    go_wp2
    go_ret
    exact ⟨b, t, s1, rfl, HL2.out, O1.out.ps, O1.out.only, B1.out, HLE1.out⟩

end Go.Proofs.YtemlceicmpcboaaGreatDoor.Pa
namespace Go.Proofs.YtemlceicmpcboaaGreatDoor.Pa
open Go.RowKit Dk Lx Tr

theorem one_e (L : List Tk) (n : Nat) (V : List (List Nd)) (i : Nat) : one L (.e n) V i = if n < 5 then some ([.e (n + 1), .row n], V, i)
      else if sg L i = [115, 112, 97, 119, 110] then some ([.e 5, .mk (nd 30) 1], V, i + 1)
      else if sg L i ∈ [[45], [110, 111, 116], [108, 101, 110]] then some ([.e 5, .mk { nd 28 with text := sg L i } 1], V, i + 1)
      else some ([.prim, .post], V, i) := rfl
theorem e5_spawn {L : List Tk} {j : Nat} (h : sg L j = [115, 112, 97, 119, 110]) : Leads L [.e 5] [] (.ok j) [.e 5, .mk (nd 30) 1] [] (.ok (j + 1)) := .yes (fun V => by
  rw [one_e, if_neg (by decide), if_pos h])
theorem e5_un {L : List Tk} {j : Nat} (h : sg L j ∈ [[45], [110, 111, 116], [108, 101, 110]]) : Leads L [.e 5] [] (.ok j) [.e 5, .mk { nd 28 with text := sg L j } 1] [] (.ok (j + 1)) := .yes (fun V => by
  rw [one_e, if_neg (by decide), if_neg (fun e => by rw [e] at h; exact absurd h (by decide)), if_pos h])
theorem e5_post {L : List Tk} {s : St} (h1 : sgS L s ≠ [115, 112, 97, 119, 110]) (h2 : sgS L s ∉ [[45], [110, 111, 116], [108, 101, 110]]) : Leads L [.e 5] [] s [.prim, .post] [] s := by
  cases s with
  | bad k => exact rfl
  | ok j => exact .yes (fun V => by rw [one_e, if_neg (by decide), if_neg (show ¬sg L j = _ from h1), if_neg (show ¬sg L j ∈ _ from h2)])

set_option maxHeartbeats 8000000 in
set_option maxRecDepth 100000 in
theorem unary_rd (L : List Tk) (n : Nat) (hU : RdN L 265 [.e 5] n) (s : St) (hP : Rd L 266 [.prim, .post] s) (hs : mu L s ≤ n) : Rd L 265 [.e 5] s := by
  intro g vt w h
  have HU := Lib.hid hU
  have HP := Lib.hid hP
  have H0 := Lib.hid (On.start h)
  have HLT := Lib.hid h.lt
  have SG := Lib.hid (sign_any h)
  by_cases hq : sgS L s ∈ [[115, 112, 97, 119, 110], [45], [110, 111, 116], [108, 101, 110]]
  · obtain ⟨j, rfl, hj, hjl⟩ := sgS_ok (rfl : sgS L s = _) (by intro e; rw [e] at hq; exact absurd hq (by decide))
    have hmu : mu L (.ok (j + 1)) < n := Nat.lt_of_lt_of_le (mu_next hjl) hs
    have E2 := Lib.hid (HU.out (.ok (j + 1)) hmu)
    have HJ := Lib.hid hjl
    rw [show sgS L (.ok j) = sg L j from rfl] at SG hq
    have HS1 : Hid (sg L j = [115, 112, 97, 119, 110] → Leads L [.e 5] [] (.ok j) [.e 5, .mk (nd 30) 1] [] (.ok (j + 1))) := Lib.hid e5_spawn
    have HS2 : Hid (sg L j ∈ [[45], [110, 111, 116], [108, 101, 110]] → Leads L [.e 5] [] (.ok j) [.e 5, .mk { nd 28 with text := sg L j } 1] [] (.ok (j + 1))) := Lib.hid e5_un
    generalize sg L j = op at *
    have z9 : (j : Int) ≤ 1000000 := by have := h.few; omega
    have q1 := str_beq' op [115, 112, 97, 119, 110]
    have q2 := str_beq' op [45]
    have q3 := str_beq' op [110, 111, 116]
    have q4 := str_beq' op [108, 101, 110]
    clear hU hP h hs hmu hj
    by_cases hsp : op = [115, 112, 97, 119, 110]
    · rw [decide_eq_true hsp] at q1
      have HL2 := Lib.hid (HS1.out hsp)
      have G := Lib.hid (fun p W => grow_any (nd 30) p 1 1 W)
      unfold nd Nd.cells at G
      generalize strOf op = o at *
      clear hsp HS1 HS2 hq q2 q3 q4
      go_enter Tryz.func265, Tryz.ntmps265
      go_wp2_with fail
      refine SG.out.mono ?_
      rintro e v1 ⟨rfl, hb⟩
      have O1 := Lib.hid (H0.out.below hb)
      clear hb
      obtain ⟨-, c1, -, -⟩ := O1.out.ps.at
      obtain ⟨f1, -, -⟩ := O1.out.ps.free
      rw [show nx L (.ok j) = j from rfl] at c1
      have O2 := Lib.hid (O1.out.call (O1.out.ps.next HJ.out) (Only.of_setCell _))
      go_wp2_with fail
      generalize World.setCell _ _ _ = v3 at O2 ⊢
      clear c1 f1
      refine (E2.out g vt v3 O2.out.ps).mono ?_
      rintro e v4 ⟨b', t', s4, hk⟩
      obtain ⟨rfl, hl, hps, honly, hbr, hle⟩ := hk
      have O4 := Lib.hid (O2.out.call hps honly)
      have B4' : Hid (SB v4 (fun k => k < w.heap.size) b' t' s4) := Lib.hid (SB.weaken hbr (fun i _ hi => by have := O2.out.only.size; omega))
      have HL4 : Hid (Leads L [.e 5] [] (.ok j) [] [join (nd 30) [t']] s4) := Lib.hid ((HL2.out.trans (by
        have := hl.over [.mk (nd 30) 1] []
        exact this)).trans (Leads.mk (L := L) (nd 30) [t'] 1 rfl s4))
      have HLE5 : Hid (nx L (.ok j) ≤ nx L s4) := Lib.hid (Nat.le_trans (Nat.le_succ j) hle)
      have R4 : Hid (LR w (v4.alloc (.cells #[ptr b'] 76)) (.slice (some ⟨v4.heap.size, 0, none⟩) 1 1) [(b', t')] s4) := Lib.hid (LR.lit (Kids.add (Kids.nil _ _ _) B4'.out) O4.out.only.size rfl rfl (by decide))
      have O5 := Lib.hid (O4.out.alloc (.cells #[ptr b'] 76))
      clear hl hps honly hbr hle
      go_wp2_with fail
      refine (G.out _ _).mono ?_
      rintro e v6 ⟨b6, rfl, hb, hB, hbel⟩
      have O6 := Lib.hid (O5.out.below hbel)
      have HSB : Hid (SB v6 (fun k => k < w.heap.size) b6 (join (nd 30) [t']) s4) := Lib.hid (sb_node (cs := [(b', t')]) hB (by have := O5.out.only.size; omega) (R4.out.below hbel))
      clear hbel hb hB
      go_wp2
      go_ret
      exact ⟨b6, _, s4, rfl, HL4.out, O6.out.ps, O6.out.only, HSB.out, HLE5.out⟩
    · rw [decide_eq_false hsp] at q1
      have hop : op = [45] ∨ op = [110, 111, 116] ∨ op = [108, 101, 110] := by simpa [hsp] using hq
      have HL2 := Lib.hid (HS2.out (by simpa using hop))
      have G : Hid (∀ (p : Option Addr) (W : World), Calls Tryz.prog 67 #[.agg #[.int .i64 28, .int .i64 0, .string ⟨#[]⟩, .int .i64 0, .string (strOf op)], .slice p 1 1] W fun e w' => ∃ b, e = .returned (ptr b) ∧ W.heap.size ≤ b ∧ BB w' b ⟨28, 0, [], 0, op⟩ 0 (.slice p 1 1) ∧ Below W.heap.size W w') := Lib.hid (fun p W => grow_any ⟨28, 0, [], 0, op⟩ p 1 1 W)
      have z1 : ((strOf op).toList == ([45] : List UInt8)) = true ∨ ((strOf op).toList == ([45] : List UInt8)) = false ∧ ((strOf op).toList == ([110, 111, 116] : List UInt8)) = true ∨ ((strOf op).toList == ([45] : List UInt8)) = false ∧ ((strOf op).toList == ([110, 111, 116] : List UInt8)) = false ∧ ((strOf op).toList == ([108, 101, 110] : List UInt8)) = true := by
        rw [q2, q3, q4]
        rcases hop with rfl | rfl | rfl <;> decide
      generalize strOf op = o at *
      clear hsp HS1 HS2 hq q2 q3 q4 hop
      rcases z1 with z1 | ⟨z1, z2⟩ | ⟨z1, z2, z3⟩
      all_goals
        go_enter Tryz.func265, Tryz.ntmps265
        go_wp2_with fail
        refine SG.out.mono ?_
        rintro e v1 ⟨rfl, hb⟩
        have O1 := Lib.hid (H0.out.below hb)
        clear hb
        obtain ⟨-, c1, -, -⟩ := O1.out.ps.at
        obtain ⟨f1, -, -⟩ := O1.out.ps.free
        rw [show nx L (.ok j) = j from rfl] at c1
        have O2 := Lib.hid (O1.out.call (O1.out.ps.next HJ.out) (Only.of_setCell _))
        go_wp2_with fail
        generalize World.setCell _ _ _ = v3 at O2 ⊢
        clear c1 f1
        refine (E2.out g vt v3 O2.out.ps).mono ?_
        rintro e v4 ⟨b', t', s4, hk⟩
        obtain ⟨rfl, hl, hps, honly, hbr, hle⟩ := hk
        have O4 := Lib.hid (O2.out.call hps honly)
        have B4' : Hid (SB v4 (fun k => k < w.heap.size) b' t' s4) := Lib.hid (SB.weaken hbr (fun i _ hi => by have := O2.out.only.size; omega))
        have HL4 : Hid (Leads L [.e 5] [] (.ok j) [] [join { nd 28 with text := op } [t']] s4) := Lib.hid ((HL2.out.trans (by
          have := hl.over [.mk { nd 28 with text := op } 1] []
          exact this)).trans (Leads.mk (L := L) { nd 28 with text := op } [t'] 1 rfl s4))
        have HLE5 : Hid (nx L (.ok j) ≤ nx L s4) := Lib.hid (Nat.le_trans (Nat.le_succ j) hle)
        have R4 : Hid (LR w (v4.alloc (.cells #[ptr b'] 76)) (.slice (some ⟨v4.heap.size, 0, none⟩) 1 1) [(b', t')] s4) := Lib.hid (LR.lit (Kids.add (Kids.nil _ _ _) B4'.out) O4.out.only.size rfl rfl (by decide))
        have O5 := Lib.hid (O4.out.alloc (.cells #[ptr b'] 76))
        clear hl hps honly hbr hle
        go_wp2_with fail
        refine (G.out _ _).mono ?_
        rintro e v6 ⟨b6, rfl, hb, hB, hbel⟩
        have O6 := Lib.hid (O5.out.below hbel)
        have HSB : Hid (SB v6 (fun k => k < w.heap.size) b6 (join { nd 28 with text := op } [t']) s4) := Lib.hid (sb_node (cs := [(b', t')]) hB (by have := O5.out.only.size; omega) (R4.out.below hbel))
        clear hbel hb hB
        go_wp2
        go_ret
        exact ⟨b6, _, s4, rfl, HL4.out, O6.out.ps, O6.out.only, HSB.out, HLE5.out⟩
  · have hq' : sgS L s ≠ [115, 112, 97, 119, 110] ∧ sgS L s ∉ [[45], [110, 111, 116], [108, 101, 110]] := by
      constructor
      · intro e; exact hq (by rw [e]; decide)
      · intro e; exact hq (List.mem_cons_of_mem _ e)
    have HL2 := Lib.hid (e5_post hq'.1 hq'.2)
    generalize sgS L s = op at *
    have q1 : ((strOf op).toList == ([115, 112, 97, 119, 110] : List UInt8)) = false := (str_beq' op _).trans (decide_eq_false (fun e => hq (by rw [e]; decide)))
    have q2 : ((strOf op).toList == ([45] : List UInt8)) = false := (str_beq' op _).trans (decide_eq_false (fun e => hq (by rw [e]; decide)))
    have q3 : ((strOf op).toList == ([110, 111, 116] : List UInt8)) = false := (str_beq' op _).trans (decide_eq_false (fun e => hq (by rw [e]; decide)))
    have q4 : ((strOf op).toList == ([108, 101, 110] : List UInt8)) = false := (str_beq' op _).trans (decide_eq_false (fun e => hq (by rw [e]; decide)))
    generalize strOf op = o at *
    clear hq hq' h hU hP hs
    go_enter Tryz.func265, Tryz.ntmps265
    go_wp2_with fail
    refine SG.out.mono ?_
    rintro e v1 ⟨rfl, hb⟩
    have O1 := Lib.hid (H0.out.below hb)
    have HB := Lib.hid hb
    clear hb
    go_wp2_with fail
    refine (HP.out g vt v1 O1.out.ps).mono ?_
    rintro e v2 ⟨b, t, s2, hk⟩
    have HK := Lib.hid (hk.behind HB.out)
    obtain ⟨rfl, -⟩ := hk
    go_wp2
    go_ret
    exact ⟨b, t, s2, rfl, HL2.out.trans HK.out.leads, HK.out.ps, HK.out.only, HK.out.br, HK.out.le⟩

end Go.Proofs.YtemlceicmpcboaaGreatDoor.Pa
namespace Go.Proofs.YtemlceicmpcboaaGreatDoor.Pa
open Go.RowKit Dk Lx Tr

/-- Over what lay ahead of an earlier world. -/
theorem LR.base {w w2 W : World} {v : Value} {cs : List (Nat × List Nd)} {s : St} (h : LR w2 W v cs s) (hw : w.heap.size ≤ w2.heap.size) : LR w W v cs s :=
  ⟨ownsRow_base h.row (fun b hb => Nat.le_trans hw (Tr.own_lo h.row b hb).1), Kids.weaken h.kids (fun i _ hi => hi.elim (fun h => .inl (by omega)) .inr)⟩

/-- The reader of a function: parameters and a block, of a node that is given. -/
def FnRd (L : List Tk) (x : Nd) (s : St) : Prop := ∀ (g : Nat) (vt : Value) (w : World), PS L g vt w s →
  Calls Tryz.prog 72 #[ptr g, .agg x.cells.toArray] w fun e w' => ∃ b t s', RdOk L g vt [.fn x] s w e w' b t s'

theorem outer_dot {L : List Tk} {a : List UInt8} {j : Nat} (h : sg L j = [46]) : Leads L [.outer a] [] (.ok j) [.outN a] [] (.ok (j + 1)) := .yes (fun V => by
  show (if sg L j = [46] then some ([Sy.outN a], V, j + 1) else some ([.mk { nd 21 with name := a } 0], V, j)) = _
  exact if_pos h)
theorem outer_no {L : List Tk} {a : List UInt8} {s : St} (h : sgS L s ≠ [46]) : Leads L [.outer a] [] s [.mk { nd 21 with name := a } 0] [] s := by
  cases s with
  | bad k => exact rfl
  | ok j => exact .yes (fun V => by
      show (if sg L j = [46] then some ([Sy.outN a], V, j + 1) else some ([.mk { nd 21 with name := a } 0], V, j)) = _
      exact if_neg h)
theorem one_prim (L : List Tk) (V : List (List Nd)) (i : Nat) : one L .prim V i = if kd L i = 2 then some ([.mk { nd 19 with n := nm L i } 0], V, i + 1)
      else if kd L i = 3 then some ([.mk { nd 20 with text := tx L i } 0], V, i + 1)
      else if kd L i = 1 then some ([.outer (tx L i)], V, i + 1)
      else (primA (sg L i)).map fun A => (A, V, i + 1) := rfl
theorem outN_lead {L : List Tk} (a : List UInt8) (s : St) : Leads L [.outN a] [] s [.mark [40], .lF false { nd 23 with name := a, text := (nameV L 1 s).text } 0] [] (needS L 1 s) :=
  need_lead (.outN a) 1 [] s (fun t => [.mark [40], .lF false { nd 23 with name := a, text := t.text } 0]) (fun V i => by rw [← tx_getD]; rfl)
theorem lC_args {L : List Tk} {x : Nd} {m : Nat} (us : List (List Nd)) (s : St) : Leads L [.lC false x m] us s [.mk x m] us s := by
  cases s with
  | bad k => exact rfl
  | ok j => exact .yes (fun V => rfl)
theorem mu_zero {L : List Tk} {j n : Nat} {s : St} (h : mu L (.ok j) ≤ n) (ha : ∀ i, s = .ok i → j < i) (hl : nx L s ≤ L.length) : mu L s < n := by
  cases s with
  | bad k => exact Nat.lt_of_lt_of_le (Nat.succ_pos _) h
  | ok i =>
    have h1 := ha i rfl
    have h2 : i ≤ L.length := hl
    have h3 : L.length - j + 1 ≤ n := h
    show L.length - i + 1 < n
    omega
theorem need_ok {L : List Tk} {k : Int} {j : Nat} {s : St} (h : s = needS L k (.ok j)) : ∀ i, s = .ok i → i = j + 1 := by
  intro i hi
  rw [hi] at h
  unfold needS at h
  dsimp only at h
  split at h
  · cases h; rfl
  · cases h
theorem mark_ok {L : List Tk} {q : List UInt8} {s0 s : St} (h : s = markS L q s0) : ∀ i, s = .ok i → ∃ j, s0 = .ok j ∧ i = j + 1 := by
  intro i hi
  cases s0 with
  | bad k => rw [hi] at h; cases h
  | ok j =>
    rw [hi] at h
    unfold markS at h
    dsimp only at h
    split at h
    · cases h; exact ⟨j, rfl, rfl⟩
    · cases h

set_option maxHeartbeats 4000000 in
set_option maxRecDepth 100000 in
theorem named_rd (L : List Tk) (n : Nat) (hE : RdN L 203 [.e 0] n) (j : Nat) (hk : kd L j = 1) (hs : mu L (.ok j) ≤ n) : Rd L 268 [.prim] (.ok j) := by
  intro g vt w h
  have hjl : j < L.length := kd_lt (by rw [hk]; decide)
  have N := Lib.hid (name_rd h)
  have e1 : needS L 1 (.ok j) = .ok (j + 1) := if_pos hk
  have e2 : (nameV L 1 (.ok j)).text = tx L j := by rw [tx_getD]; exact congrArg Tk.text (if_pos hk)
  rw [e1, e2] at N
  have HL1 : Hid (Leads L [.prim] [] (.ok j) [.outer (tx L j)] [] (.ok (j + 1))) := Lib.hid (.yes (fun V => by rw [one_prim, if_neg (by rw [hk]; decide), if_neg (by rw [hk]; decide), if_pos hk]))
  generalize tx L j = q at *
  have H0 := Lib.hid (On.start h)
  have HMU := Lib.hid hs
  have HE := Lib.hid hE
  have HJ := Lib.hid hjl
  clear h e1 e2 hk hE hs hjl
  go_enter Tryz.func268, Tryz.ntmps268
  go_wp2_with fail
  refine N.out.mono ?_
  rintro e w1 ⟨rfl, hp, ho⟩
  have H1 := Lib.hid (H0.out.call hp ho)
  clear hp ho N
  by_cases hq : sg L (j + 1) = [46]
  · have A := Lib.hid (accept_yes [46] H1.out.ps (by decide) hq)
    have HL2 := Lib.hid (HL1.out.trans (outer_dot hq))
    have hj2 : j + 1 < L.length := sg_lt (by rw [hq]; simp)
    have HJ2 := Lib.hid hj2
    clear hq HL1 hj2
    go_wp2_with fail
    refine A.out.mono ?_
    rintro e w2 ⟨rfl, hp, ho⟩
    have H2 := Lib.hid (H1.out.call hp ho)
    have N2 := Lib.hid (name_rd hp)
    have HL3 := Lib.hid (HL2.out.trans (outN_lead q (.ok (j + 1 + 1))))
    have HS3 : Hid (∀ i, needS L 1 (.ok (j + 1 + 1)) = .ok i → i = j + 1 + 1 + 1) := Lib.hid (need_ok rfl)
    have HLE3 : Hid (j ≤ nx L (needS L 1 (.ok (j + 1 + 1)))) := Lib.hid (Nat.le_trans (by show j ≤ j + 1 + 1; omega) (need_le 1 H2.out.ps.le))
    generalize needS L 1 (.ok (j + 1 + 1)) = s3 at *
    generalize (nameV L 1 (.ok (j + 1 + 1))).text = f at *
    clear hp ho A HL2
    go_wp2_with fail
    refine N2.out.mono ?_
    rintro e w3 ⟨rfl, hp, ho⟩
    have H3 := Lib.hid (H2.out.call hp ho)
    clear hp ho N2
    have hm3 : mu L (markS L [40] s3) < n := mu_zero HMU.out (fun i hi => by
      obtain ⟨j', h1, h2⟩ := mark_ok rfl i hi
      have := HS3.out j' h1
      omega) (by
      cases hh : markS L [40] s3 with
      | bad k => exact Nat.le_refl _
      | ok i =>
        obtain ⟨j', h1, h2⟩ := mark_ok rfl i hh
        subst h2
        rw [h1] at hh
        unfold markS at hh
        dsimp only at hh
        split at hh
        · rename_i h3; exact sg_lt (by rw [h3]; simp)
        · cases hh)
    have LS := Lib.hid (list_any L 203 enters_expr false n HE.out s3 hm3 g vt w3 H3.out.ps)
    clear hm3
    go_wp2_with fail
    refine LS.out.mono ?_
    rintro e w4 ⟨v, cs, s4, hk⟩
    have hle := hk.leads
    have hnx := hk.le H3.out.ps.le
    obtain ⟨rfl, hon, hlr, -, -, -, ⟨p4, c4, rfl⟩, -⟩ := hk
    have H4 := Lib.hid (H3.out.call hon.ps hon.only)
    have R4 := Lib.hid (hlr.base (w := w) H3.out.only.size)
    have HL4 : Hid (Leads L [.prim] [] (.ok j) [] [join { nd 23 with name := q, text := f } (cs.map (·.2))] s4) := Lib.hid ((HL3.out.trans (hle { nd 23 with name := q, text := f } 0)).trans ((lC_args _ _).trans (by
      rw [Nat.zero_add]
      exact Leads.mk _ _ _ (by simp) _)))
    have HLE4 : Hid (j ≤ nx L s4) := Lib.hid (Nat.le_trans HLE3.out hnx)
    have G := Lib.hid (fun W => grow_any ⟨23, 0, q, 0, f⟩ p4 cs.length c4 W)
    clear hon hlr hle hnx LS HL3
    go_wp2_with fail
    refine (G.out _).mono ?_
    rintro e w6 ⟨b6, rfl, hb, hB, hbel⟩
    have H6 := Lib.hid (H4.out.below hbel)
    have HSB : Hid (SB w6 (fun k => k < w.heap.size) b6 (join { nd 23 with name := q, text := f } (cs.map (·.2))) s4) := Lib.hid (sb_node hB (by have := H4.out.only.size; omega) (R4.out.below hbel))
    clear hbel hb hB G
    go_wp2
    go_ret
    exact ⟨b6, _, s4, rfl, HL4.out, H6.out.ps, H6.out.only, HSB.out, HLE4.out⟩
  · have A := Lib.hid (accept_no [46] H1.out.ps hq)
    have HL2 : Hid (Leads L [.prim] [] (.ok j) [] [join { nd 21 with name := q } []] (.ok (j + 1))) := Lib.hid (HL1.out.trans ((outer_no (s := .ok (j + 1)) hq).trans (Leads.mk _ [] 0 rfl _)))
    have G := Lib.hid (fun W => grow_any ⟨21, 0, q, 0, []⟩ none 0 0 W)
    clear hq HL1
    go_wp2_with fail
    refine A.out.mono ?_
    rintro e w2 ⟨rfl, hb⟩
    have H2 := Lib.hid (H1.out.below hb)
    clear hb A
    go_wp2_with fail
    refine (G.out _).mono ?_
    rintro e w6 ⟨b6, rfl, hb, hB, hbel⟩
    have H6 := Lib.hid (H2.out.below hbel)
    have HSB : Hid (SB w6 (fun k => k < w.heap.size) b6 (join { nd 21 with name := q } []) (.ok (j + 1))) := Lib.hid (sb_node (cs := []) hB (by have := H2.out.only.size; omega) (LR.nil _ _ _))
    clear hbel hb hB G
    go_wp2
    go_ret
    exact ⟨b6, _, .ok (j + 1), rfl, HL2.out, H6.out.ps, H6.out.only, HSB.out, Nat.le_succ _⟩

end Go.Proofs.YtemlceicmpcboaaGreatDoor.Pa
namespace Go.Proofs.YtemlceicmpcboaaGreatDoor.Pa
open Go.RowKit Dk Lx Tr

theorem prim_mark {L : List Tk} {j : Nat} {A : List Sy} (h1 : kd L j ≠ 1) (h2 : kd L j ≠ 2) (h3 : kd L j ≠ 3) (h : primA (sg L j) = some A) : Leads L [.prim] [] (.ok j) A [] (.ok (j + 1)) := .yes (fun V => by
  rw [one_prim, if_neg h2, if_neg h3, if_neg h1, h]; rfl)
theorem prim_none {L : List Tk} {s : St} {B : List Sy} {ts : List (List Nd)} (h1 : kdS L s ≠ 1) (h2 : kdS L s ≠ 2) (h3 : kdS L s ≠ 3) (h : primA (sgS L s) = none) : Leads L [.prim] [] s B ts (failS s) := by
  cases s with
  | bad k => exact rfl
  | ok j => exact .no (fun V => by
      rw [one_prim, if_neg (show ¬kd L j = 2 from h2), if_neg (show ¬kd L j = 3 from h3), if_neg (show ¬kd L j = 1 from h1), show primA (sg L j) = none from h]; rfl)
theorem sgS_kd {L : List Tk} {s : St} (h : sgS L s ≠ []) : kdS L s = 5 ∨ kdS L s = 4 := sg_kd h

set_option maxHeartbeats 4000000 in
set_option maxRecDepth 100000 in
theorem prim_int (L : List Tk) (j : Nat) (hk : kd L j = 2) : Rd L 267 [.prim] (.ok j) := by
  intro g vt w h
  have hjl : j < L.length := kd_lt (by rw [hk]; decide)
  have KD := Lib.hid (kind_any h)
  rw [show kdS L (.ok j) = 2 from hk] at KD
  have N := Lib.hid (fun W (hp : PS L g vt W (.ok j)) => number_rd hp)
  have e1 : needS L 2 (.ok j) = .ok (j + 1) := if_pos hk
  have e2 : (nameV L 2 (.ok j)).n = nm L j := by rw [nm_getD]; exact congrArg Tk.n (if_pos hk)
  rw [e1, e2] at N
  have HL : Hid (Leads L [.prim] [] (.ok j) [] [join { nd 19 with n := nm L j } []] (.ok (j + 1))) := Lib.hid ((show Leads L [.prim] [] (.ok j) [.mk { nd 19 with n := nm L j } 0] [] (.ok (j + 1)) from .yes (fun V => by rw [one_prim, if_pos hk])).trans (Leads.mk _ [] 0 rfl _))
  generalize nm L j = q at *
  have H0 := Lib.hid (On.start h)
  have G := Lib.hid (fun W => grow_any ⟨19, 0, [], q, []⟩ none 0 0 W)
  clear h e1 e2 hk hjl
  go_enter Tryz.func267, Tryz.ntmps267
  go_wp2_with fail
  refine KD.out.mono ?_
  rintro e w1 ⟨rfl, hb⟩
  have H1 := Lib.hid (H0.out.below hb)
  clear hb
  go_wp2_with fail
  refine (N.out _ H1.out.ps).mono ?_
  rintro e w2 ⟨rfl, hp, ho⟩
  have H2 := Lib.hid (H1.out.call hp ho)
  clear hp ho N
  go_wp2_with fail
  refine (G.out _).mono ?_
  rintro e w9 ⟨b6, rfl, hb, hB, hbel⟩
  have H9 := Lib.hid (H2.out.below hbel)
  have HSB : Hid (SB w9 (fun k => k < w.heap.size) b6 (join { nd 19 with n := q } []) (.ok (j + 1))) := Lib.hid (sb_node (cs := []) hB (by have := H2.out.only.size; omega) (LR.nil _ _ _))
  clear hbel hb hB G
  go_wp2
  go_ret
  exact ⟨b6, _, _, rfl, HL.out, H9.out.ps, H9.out.only, HSB.out, Nat.le_succ _⟩

set_option maxHeartbeats 4000000 in
set_option maxRecDepth 100000 in
theorem prim_text (L : List Tk) (j : Nat) (hk : kd L j = 3) : Rd L 267 [.prim] (.ok j) := by
  intro g vt w h
  have hjl : j < L.length := kd_lt (by rw [hk]; decide)
  have KD := Lib.hid (kind_any h)
  rw [show kdS L (.ok j) = 3 from hk] at KD
  have N := Lib.hid (fun W (hp : PS L g vt W (.ok j)) => token_any 3 hp (by decide))
  have e1 : needS L 3 (.ok j) = .ok (j + 1) := if_pos hk
  have e2 : (nameV L 3 (.ok j)).text = tx L j := by rw [tx_getD]; exact congrArg Tk.text (if_pos hk)
  rw [e1] at N
  have HL : Hid (Leads L [.prim] [] (.ok j) [] [join { nd 20 with text := tx L j } []] (.ok (j + 1))) := Lib.hid ((show Leads L [.prim] [] (.ok j) [.mk { nd 20 with text := tx L j } 0] [] (.ok (j + 1)) from .yes (fun V => by rw [one_prim, if_neg (by rw [hk]; decide), if_pos hk])).trans (Leads.mk _ [] 0 rfl _))
  rw [← e2] at HL
  generalize nameV L 3 (.ok j) = E at *
  obtain ⟨ek, q, en, ep⟩ := E
  have hfd : ∀ W : World, (Instr.field 72 (.agg #[.int .i64 ek, .string (strOf q), .int .i64 en, .int .i64 ep]) 1).run Tryz.prog W = .ok (.string (strOf q)) W := fun _ => by kernel_rfl
  simp only [Tk.cells] at N
  have H0 := Lib.hid (On.start h)
  have G := Lib.hid (fun W => grow_any ⟨20, 0, [], 0, q⟩ none 0 0 W)
  clear h e1 e2 hk hjl
  go_enter Tryz.func267, Tryz.ntmps267
  go_wp2_with fail
  refine KD.out.mono ?_
  rintro e w1 ⟨rfl, hb⟩
  have H1 := Lib.hid (H0.out.below hb)
  clear hb
  go_wp2_with fail
  refine (N.out _ H1.out.ps).mono ?_
  rintro e w2 ⟨rfl, hp, ho⟩
  have H2 := Lib.hid (H1.out.call hp ho)
  clear hp ho N
  go_wp2_with fail
  refine (G.out _).mono ?_
  rintro e w9 ⟨b6, rfl, hb, hB, hbel⟩
  have H9 := Lib.hid (H2.out.below hbel)
  have HSB : Hid (SB w9 (fun k => k < w.heap.size) b6 (join { nd 20 with text := q } []) (.ok (j + 1))) := Lib.hid (sb_node (cs := []) hB (by have := H2.out.only.size; omega) (LR.nil _ _ _))
  clear hbel hb hB G
  go_wp2
  go_ret
  exact ⟨b6, _, _, rfl, HL.out, H9.out.ps, H9.out.only, HSB.out, Nat.le_succ _⟩

set_option maxHeartbeats 4000000 in
set_option maxRecDepth 100000 in
theorem prim_named (L : List Tk) (n : Nat) (hE : RdN L 203 [.e 0] n) (j : Nat) (hk : kd L j = 1) (hs : mu L (.ok j) ≤ n) : Rd L 267 [.prim] (.ok j) := by
  intro g vt w h
  have KD := Lib.hid (kind_any h)
  rw [show kdS L (.ok j) = 1 from hk] at KD
  have N := Lib.hid (named_rd L n hE j hk hs)
  have H0 := Lib.hid (On.start h)
  clear h hk hE hs
  go_enter Tryz.func267, Tryz.ntmps267
  go_wp2_with fail
  refine KD.out.mono ?_
  rintro e w1 ⟨rfl, hb⟩
  have H1 := Lib.hid (H0.out.below hb)
  have HB := Lib.hid hb
  clear hb
  go_wp2_with fail
  refine (N.out g vt w1 H1.out.ps).mono ?_
  rintro e w2 ⟨b, t, s2, hk⟩
  have HK := Lib.hid (hk.behind HB.out)
  obtain ⟨rfl, -⟩ := hk
  go_wp2
  go_ret
  exact ⟨b, t, s2, HK.out⟩

set_option maxHeartbeats 4000000 in
set_option maxRecDepth 100000 in
theorem prim_nil (L : List Tk) (s : St) (hq : sgS L s = [110, 105, 108]) : Rd L 267 [.prim] s := by
  intro g vt w h
  have hkd : kdS L s = 5 ∨ kdS L s = 4 := sgS_kd (by rw [hq]; simp)
  have KD := Lib.hid (kind_any h)
  generalize hkk : kdS L s = kk at *
  have z1 : (kk == 1) = false := by rcases hkd with rfl | rfl <;> rfl
  have z2 : (kk == 2) = false := by rcases hkd with rfl | rfl <;> rfl
  have z3 : (kk == 3) = false := by rcases hkd with rfl | rfl <;> rfl
  have hkk1 : kdS L s ≠ 1 ∧ kdS L s ≠ 2 ∧ kdS L s ≠ 3 := by rw [hkk]; rcases hkd with rfl | rfl <;> decide
  obtain ⟨j, rfl, hj, hjl⟩ := sgS_ok hq (by decide)
  have HJ := Lib.hid hjl
  have HQ : Hid (sgS L (.ok j) = [110, 105, 108]) := Lib.hid hj
  have NO : Hid (∀ (q : List UInt8) W, PS L g vt W (.ok j) → sgS L (.ok j) ≠ q → Calls Tryz.prog 70 #[ptr g, .string (strOf q)] W fun e w' => e = .returned (.bool false) ∧ Below W.heap.size W w') := Lib.hid (fun q W hp hne => accept_no q hp hne)
  have YES : Hid (∀ W, PS L g vt W (.ok j) → Calls Tryz.prog 70 #[ptr g, .string (strOf [110, 105, 108])] W fun e w' => e = .returned (.bool true) ∧ PS L g vt w' (.ok (j + 1)) ∧ Only (fun k => k = g) W w') := Lib.hid (fun W hp => accept_yes [110, 105, 108] hp (by decide) hj)
  have HLA : Hid (Leads L [.prim] [] (.ok j) [.mk (nd 18) 0] [] (.ok (j + 1))) := Lib.hid (prim_mark hkk1.1 hkk1.2.1 hkk1.2.2 (by rw [hj]; rfl))
  have H0 := Lib.hid (On.start h)
  have G := Lib.hid (fun W => grow_any (nd 18) none 0 0 W)
  unfold nd Nd.cells at G
  have HL : Hid (Leads L [.prim] [] (.ok j) [] [join (nd 18) []] (.ok (j + 1))) := Lib.hid (HLA.out.trans (Leads.mk _ [] 0 rfl _))
  clear h hq hj hjl hkd hkk hkk1
  go_enter Tryz.func267, Tryz.ntmps267
  go_wp2_with fail
  refine KD.out.mono ?_
  rintro e w1 ⟨rfl, hb⟩
  have H1 := Lib.hid (H0.out.below hb)
  clear hb
  go_wp2_with fail
  refine (YES.out _ H1.out.ps).mono ?_
  rintro e w2 ⟨rfl, hp, ho⟩
  have H2 := Lib.hid (H1.out.call hp ho)
  clear hp ho
  go_wp2_with fail
  refine (G.out _).mono ?_
  rintro e w9 ⟨b6, rfl, hb, hB, hbel⟩
  have H9 := Lib.hid (H2.out.below hbel)
  have HSB : Hid (SB w9 (fun k => k < w.heap.size) b6 (join (nd 18) []) (.ok (j + 1))) := Lib.hid (sb_node (cs := []) hB (by have := H2.out.only.size; omega) (LR.nil _ _ _))
  clear hbel hb hB G
  go_wp2
  go_ret
  exact ⟨b6, _, _, rfl, HL.out, H9.out.ps, H9.out.only, HSB.out, Nat.le_succ _⟩

set_option maxHeartbeats 4000000 in
set_option maxRecDepth 100000 in
theorem prim_state (L : List Tk) (s : St) (hq : sgS L s = [115, 116, 97, 116, 101]) : Rd L 267 [.prim] s := by
  intro g vt w h
  have hkd : kdS L s = 5 ∨ kdS L s = 4 := sgS_kd (by rw [hq]; simp)
  have KD := Lib.hid (kind_any h)
  generalize hkk : kdS L s = kk at *
  have z1 : (kk == 1) = false := by rcases hkd with rfl | rfl <;> rfl
  have z2 : (kk == 2) = false := by rcases hkd with rfl | rfl <;> rfl
  have z3 : (kk == 3) = false := by rcases hkd with rfl | rfl <;> rfl
  have hkk1 : kdS L s ≠ 1 ∧ kdS L s ≠ 2 ∧ kdS L s ≠ 3 := by rw [hkk]; rcases hkd with rfl | rfl <;> decide
  obtain ⟨j, rfl, hj, hjl⟩ := sgS_ok hq (by decide)
  have HJ := Lib.hid hjl
  have HQ : Hid (sgS L (.ok j) = [115, 116, 97, 116, 101]) := Lib.hid hj
  have NO : Hid (∀ (q : List UInt8) W, PS L g vt W (.ok j) → sgS L (.ok j) ≠ q → Calls Tryz.prog 70 #[ptr g, .string (strOf q)] W fun e w' => e = .returned (.bool false) ∧ Below W.heap.size W w') := Lib.hid (fun q W hp hne => accept_no q hp hne)
  have YES : Hid (∀ W, PS L g vt W (.ok j) → Calls Tryz.prog 70 #[ptr g, .string (strOf [115, 116, 97, 116, 101])] W fun e w' => e = .returned (.bool true) ∧ PS L g vt w' (.ok (j + 1)) ∧ Only (fun k => k = g) W w') := Lib.hid (fun W hp => accept_yes [115, 116, 97, 116, 101] hp (by decide) hj)
  have HLA : Hid (Leads L [.prim] [] (.ok j) [.mk (nd 29) 0] [] (.ok (j + 1))) := Lib.hid (prim_mark hkk1.1 hkk1.2.1 hkk1.2.2 (by rw [hj]; rfl))
  have H0 := Lib.hid (On.start h)
  have G := Lib.hid (fun W => grow_any (nd 29) none 0 0 W)
  unfold nd Nd.cells at G
  have HL : Hid (Leads L [.prim] [] (.ok j) [] [join (nd 29) []] (.ok (j + 1))) := Lib.hid (HLA.out.trans (Leads.mk _ [] 0 rfl _))
  clear h hq hj hjl hkd hkk hkk1
  go_enter Tryz.func267, Tryz.ntmps267
  go_wp2_with fail
  refine KD.out.mono ?_
  rintro e w1 ⟨rfl, hb⟩
  have H1 := Lib.hid (H0.out.below hb)
  clear hb
  go_wp2_with fail
  refine (NO.out [110, 105, 108] _ H1.out.ps (by rw [HQ.out]; decide)).mono ?_
  rintro e w2 ⟨rfl, hb⟩
  have H2 := Lib.hid (H1.out.below hb)
  clear hb
  go_wp2_with fail
  refine (YES.out _ H2.out.ps).mono ?_
  rintro e w3 ⟨rfl, hp, ho⟩
  have H3 := Lib.hid (H2.out.call hp ho)
  clear hp ho
  go_wp2_with fail
  refine (G.out _).mono ?_
  rintro e w9 ⟨b6, rfl, hb, hB, hbel⟩
  have H9 := Lib.hid (H3.out.below hbel)
  have HSB : Hid (SB w9 (fun k => k < w.heap.size) b6 (join (nd 29) []) (.ok (j + 1))) := Lib.hid (sb_node (cs := []) hB (by have := H3.out.only.size; omega) (LR.nil _ _ _))
  clear hbel hb hB G
  go_wp2
  go_ret
  exact ⟨b6, _, _, rfl, HL.out, H9.out.ps, H9.out.only, HSB.out, Nat.le_succ _⟩

set_option maxHeartbeats 4000000 in
set_option maxRecDepth 100000 in
theorem prim_lb (L : List Tk) (s : St) (hq : sgS L s = [123]) : Rd L 267 [.prim] s := by
  intro g vt w h
  have hkd : kdS L s = 5 ∨ kdS L s = 4 := sgS_kd (by rw [hq]; simp)
  have KD := Lib.hid (kind_any h)
  generalize hkk : kdS L s = kk at *
  have z1 : (kk == 1) = false := by rcases hkd with rfl | rfl <;> rfl
  have z2 : (kk == 2) = false := by rcases hkd with rfl | rfl <;> rfl
  have z3 : (kk == 3) = false := by rcases hkd with rfl | rfl <;> rfl
  have hkk1 : kdS L s ≠ 1 ∧ kdS L s ≠ 2 ∧ kdS L s ≠ 3 := by rw [hkk]; rcases hkd with rfl | rfl <;> decide
  obtain ⟨j, rfl, hj, hjl⟩ := sgS_ok hq (by decide)
  have HJ := Lib.hid hjl
  have HQ : Hid (sgS L (.ok j) = [123]) := Lib.hid hj
  have NO : Hid (∀ (q : List UInt8) W, PS L g vt W (.ok j) → sgS L (.ok j) ≠ q → Calls Tryz.prog 70 #[ptr g, .string (strOf q)] W fun e w' => e = .returned (.bool false) ∧ Below W.heap.size W w') := Lib.hid (fun q W hp hne => accept_no q hp hne)
  have YES : Hid (∀ W, PS L g vt W (.ok j) → Calls Tryz.prog 70 #[ptr g, .string (strOf [123])] W fun e w' => e = .returned (.bool true) ∧ PS L g vt w' (.ok (j + 1)) ∧ Only (fun k => k = g) W w') := Lib.hid (fun W hp => accept_yes [123] hp (by decide) hj)
  have HLA : Hid (Leads L [.prim] [] (.ok j) [.mark [125], .mk (nd 25) 0] [] (.ok (j + 1))) := Lib.hid (prim_mark hkk1.1 hkk1.2.1 hkk1.2.2 (by rw [hj]; rfl))
  have H0 := Lib.hid (On.start h)
  have G := Lib.hid (fun W => grow_any (nd 25) none 0 0 W)
  unfold nd Nd.cells at G
  have X := Lib.hid (fun W (hp : PS L g vt W (.ok (j + 1))) => expect_any [125] hp (by decide))
  have HL : Hid (Leads L [.prim] [] (.ok j) [] [join (nd 25) []] (markS L [125] (.ok (j + 1)))) := Lib.hid (HLA.out.trans ((by
    have := (Leads.mark (L := L) [125] (.ok (j + 1))).over [.mk (nd 25) 0] []
    exact this : Leads L [.mark [125], .mk (nd 25) 0] [] (.ok (j + 1)) [.mk (nd 25) 0] [] (markS L [125] (.ok (j + 1)))).trans (Leads.mk _ [] 0 rfl _)))
  have HLE : Hid (j ≤ nx L (markS L [125] (.ok (j + 1)))) := Lib.hid (Nat.le_trans (Nat.le_succ j) (mark_le [125] (s := .ok (j + 1)) hjl))
  generalize markS L [125] (.ok (j + 1)) = s5 at *
  clear h hq hj hjl hkd hkk hkk1
  go_enter Tryz.func267, Tryz.ntmps267
  go_wp2_with fail
  refine KD.out.mono ?_
  rintro e w1 ⟨rfl, hb⟩
  have H1 := Lib.hid (H0.out.below hb)
  clear hb
  go_wp2_with fail
  refine (NO.out [110, 105, 108] _ H1.out.ps (by rw [HQ.out]; decide)).mono ?_
  rintro e w2 ⟨rfl, hb⟩
  have H2 := Lib.hid (H1.out.below hb)
  clear hb
  go_wp2_with fail
  refine (NO.out [115, 116, 97, 116, 101] _ H2.out.ps (by rw [HQ.out]; decide)).mono ?_
  rintro e w3 ⟨rfl, hb⟩
  have H3 := Lib.hid (H2.out.below hb)
  clear hb
  go_wp2_with fail
  refine (YES.out _ H3.out.ps).mono ?_
  rintro e w4 ⟨rfl, hp, ho⟩
  have H4 := Lib.hid (H3.out.call hp ho)
  clear hp ho
  go_wp2_with fail
  refine (X.out _ H4.out.ps).mono ?_
  rintro e w5 ⟨rfl, hp, ho⟩
  have H5 := Lib.hid (H4.out.call hp ho)
  clear hp ho
  go_wp2_with fail
  refine (G.out _).mono ?_
  rintro e w9 ⟨b6, rfl, hb, hB, hbel⟩
  have H9 := Lib.hid (H5.out.below hbel)
  have HSB : Hid (SB w9 (fun k => k < w.heap.size) b6 (join (nd 25) []) s5) := Lib.hid (sb_node (cs := []) hB (by have := H5.out.only.size; omega) (LR.nil _ _ _))
  clear hbel hb hB G
  go_wp2
  go_ret
  exact ⟨b6, _, _, rfl, HL.out, H9.out.ps, H9.out.only, HSB.out, HLE.out⟩

set_option maxHeartbeats 4000000 in
set_option maxRecDepth 100000 in
theorem prim_fn (L : List Tk) (n : Nat) (hF : ∀ s, mu L s < n → FnRd L (nd 24) s) (s : St) (hs : mu L s ≤ n) (hq : sgS L s = [102, 110]) : Rd L 267 [.prim] s := by
  intro g vt w h
  have hkd : kdS L s = 5 ∨ kdS L s = 4 := sgS_kd (by rw [hq]; simp)
  have KD := Lib.hid (kind_any h)
  generalize hkk : kdS L s = kk at *
  have z1 : (kk == 1) = false := by rcases hkd with rfl | rfl <;> rfl
  have z2 : (kk == 2) = false := by rcases hkd with rfl | rfl <;> rfl
  have z3 : (kk == 3) = false := by rcases hkd with rfl | rfl <;> rfl
  have hkk1 : kdS L s ≠ 1 ∧ kdS L s ≠ 2 ∧ kdS L s ≠ 3 := by rw [hkk]; rcases hkd with rfl | rfl <;> decide
  obtain ⟨j, rfl, hj, hjl⟩ := sgS_ok hq (by decide)
  have HJ := Lib.hid hjl
  have HQ : Hid (sgS L (.ok j) = [102, 110]) := Lib.hid hj
  have NO : Hid (∀ (q : List UInt8) W, PS L g vt W (.ok j) → sgS L (.ok j) ≠ q → Calls Tryz.prog 70 #[ptr g, .string (strOf q)] W fun e w' => e = .returned (.bool false) ∧ Below W.heap.size W w') := Lib.hid (fun q W hp hne => accept_no q hp hne)
  have YES : Hid (∀ W, PS L g vt W (.ok j) → Calls Tryz.prog 70 #[ptr g, .string (strOf [102, 110])] W fun e w' => e = .returned (.bool true) ∧ PS L g vt w' (.ok (j + 1)) ∧ Only (fun k => k = g) W w') := Lib.hid (fun W hp => accept_yes [102, 110] hp (by decide) hj)
  have HLA : Hid (Leads L [.prim] [] (.ok j) [.fn (nd 24)] [] (.ok (j + 1))) := Lib.hid (prim_mark hkk1.1 hkk1.2.1 hkk1.2.2 (by rw [hj]; rfl))
  have H0 := Lib.hid (On.start h)
  have FN := Lib.hid (hF (.ok (j + 1)) (Nat.lt_of_lt_of_le (mu_next hjl) hs))
  unfold FnRd nd Nd.cells at FN
  clear h hq hj hjl hkd hkk hkk1 hF hs
  go_enter Tryz.func267, Tryz.ntmps267
  go_wp2_with fail
  refine KD.out.mono ?_
  rintro e w1 ⟨rfl, hb⟩
  have H1 := Lib.hid (H0.out.below hb)
  clear hb
  go_wp2_with fail
  refine (NO.out [110, 105, 108] _ H1.out.ps (by rw [HQ.out]; decide)).mono ?_
  rintro e w2 ⟨rfl, hb⟩
  have H2 := Lib.hid (H1.out.below hb)
  clear hb
  go_wp2_with fail
  refine (NO.out [115, 116, 97, 116, 101] _ H2.out.ps (by rw [HQ.out]; decide)).mono ?_
  rintro e w3 ⟨rfl, hb⟩
  have H3 := Lib.hid (H2.out.below hb)
  clear hb
  go_wp2_with fail
  refine (NO.out [123] _ H3.out.ps (by rw [HQ.out]; decide)).mono ?_
  rintro e w4 ⟨rfl, hb⟩
  have H4 := Lib.hid (H3.out.below hb)
  clear hb
  go_wp2_with fail
  refine (YES.out _ H4.out.ps).mono ?_
  rintro e w5 ⟨rfl, hp, ho⟩
  have H5 := Lib.hid (H4.out.call hp ho)
  clear hp ho
  go_wp2_with fail
  refine (FN.out g vt _ H5.out.ps).mono ?_
  rintro e w6 ⟨b, t, s6, hk⟩
  obtain ⟨rfl, hl, hps, honly, hbr, hle⟩ := hk
  have H6 := Lib.hid (H5.out.call hps honly)
  have HB : Hid (SB w6 (fun k => k < w.heap.size) b t s6) := Lib.hid (SB.weaken hbr (fun i _ hi => by have := H5.out.only.size; omega))
  have HL := Lib.hid (HLA.out.trans hl)
  have HLE : Hid (j ≤ nx L s6) := Lib.hid (Nat.le_trans (Nat.le_succ j) hle)
  clear hl hps honly hbr hle
  go_wp2
  go_ret
  exact ⟨b, t, s6, rfl, HL.out, H6.out.ps, H6.out.only, HB.out, HLE.out⟩

set_option maxHeartbeats 4000000 in
set_option maxRecDepth 100000 in
theorem prim_lp (L : List Tk) (n : Nat) (hE : RdN L 203 [.e 0] n) (s : St) (hs : mu L s ≤ n) (hq : sgS L s = [40]) : Rd L 267 [.prim] s := by
  intro g vt w h
  have hkd : kdS L s = 5 ∨ kdS L s = 4 := sgS_kd (by rw [hq]; simp)
  have KD := Lib.hid (kind_any h)
  generalize hkk : kdS L s = kk at *
  have z1 : (kk == 1) = false := by rcases hkd with rfl | rfl <;> rfl
  have z2 : (kk == 2) = false := by rcases hkd with rfl | rfl <;> rfl
  have z3 : (kk == 3) = false := by rcases hkd with rfl | rfl <;> rfl
  have hkk1 : kdS L s ≠ 1 ∧ kdS L s ≠ 2 ∧ kdS L s ≠ 3 := by rw [hkk]; rcases hkd with rfl | rfl <;> decide
  obtain ⟨j, rfl, hj, hjl⟩ := sgS_ok hq (by decide)
  have HJ := Lib.hid hjl
  have HQ : Hid (sgS L (.ok j) = [40]) := Lib.hid hj
  have NO : Hid (∀ (q : List UInt8) W, PS L g vt W (.ok j) → sgS L (.ok j) ≠ q → Calls Tryz.prog 70 #[ptr g, .string (strOf q)] W fun e w' => e = .returned (.bool false) ∧ Below W.heap.size W w') := Lib.hid (fun q W hp hne => accept_no q hp hne)
  have YES : Hid (∀ W, PS L g vt W (.ok j) → Calls Tryz.prog 70 #[ptr g, .string (strOf [40])] W fun e w' => e = .returned (.bool true) ∧ PS L g vt w' (.ok (j + 1)) ∧ Only (fun k => k = g) W w') := Lib.hid (fun W hp => accept_yes [40] hp (by decide) hj)
  have HLA : Hid (Leads L [.prim] [] (.ok j) [.e 0, .mark [41]] [] (.ok (j + 1))) := Lib.hid (prim_mark hkk1.1 hkk1.2.1 hkk1.2.2 (by rw [hj]; rfl))
  have H0 := Lib.hid (On.start h)
  have E1 := Lib.hid (hE (.ok (j + 1)) (Nat.lt_of_lt_of_le (mu_next hjl) hs))
  clear h hq hj hjl hkd hkk hkk1 hE hs
  go_enter Tryz.func267, Tryz.ntmps267
  go_wp2_with fail
  refine KD.out.mono ?_
  rintro e w1 ⟨rfl, hb⟩
  have H1 := Lib.hid (H0.out.below hb)
  clear hb
  go_wp2_with fail
  refine (NO.out [110, 105, 108] _ H1.out.ps (by rw [HQ.out]; decide)).mono ?_
  rintro e w2 ⟨rfl, hb⟩
  have H2 := Lib.hid (H1.out.below hb)
  clear hb
  go_wp2_with fail
  refine (NO.out [115, 116, 97, 116, 101] _ H2.out.ps (by rw [HQ.out]; decide)).mono ?_
  rintro e w3 ⟨rfl, hb⟩
  have H3 := Lib.hid (H2.out.below hb)
  clear hb
  go_wp2_with fail
  refine (NO.out [123] _ H3.out.ps (by rw [HQ.out]; decide)).mono ?_
  rintro e w4 ⟨rfl, hb⟩
  have H4 := Lib.hid (H3.out.below hb)
  clear hb
  go_wp2_with fail
  refine (NO.out [102, 110] _ H4.out.ps (by rw [HQ.out]; decide)).mono ?_
  rintro e w5 ⟨rfl, hb⟩
  have H5 := Lib.hid (H4.out.below hb)
  clear hb
  go_wp2_with fail
  refine (YES.out _ H5.out.ps).mono ?_
  rintro e w6 ⟨rfl, hp, ho⟩
  have H6 := Lib.hid (H5.out.call hp ho)
  clear hp ho
  go_wp2_with fail
  refine (E1.out g vt _ H6.out.ps).mono ?_
  rintro e w7 ⟨b, t, s7, hk⟩
  obtain ⟨rfl, hl, hps, honly, hbr, hle⟩ := hk
  have H7 := Lib.hid (H6.out.call hps honly)
  have HB : Hid (SB w7 (fun k => k < w.heap.size) b t s7) := Lib.hid (SB.weaken hbr (fun i _ hi => by have := H6.out.only.size; omega))
  have HL : Hid (Leads L [.prim] [] (.ok j) [] [t] (markS L [41] s7)) := Lib.hid ((HLA.out.trans (by
    have := hl.over [.mark [41]] []
    exact this : Leads L [.e 0, .mark [41]] [] (.ok (j + 1)) [.mark [41]] [t] s7)).trans (by
    have := (Leads.mark (L := L) [41] s7).over [] [t]
    exact this))
  have HLE : Hid (j ≤ nx L (markS L [41] s7)) := Lib.hid (Nat.le_trans (Nat.le_trans (Nat.le_succ j) hle) (mark_le [41] hps.le))
  have X := Lib.hid (fun W (hp : PS L g vt W s7) => expect_any [41] hp (by decide))
  have HAF : Hid (Aft s7 (markS L [41] s7)) := Lib.hid (Leads.mark (L := L) [41] s7).aft
  have HLT := Lib.hid H0.out.lt
  generalize markS L [41] s7 = s8 at *
  clear hl hps honly hbr hle
  go_wp2_with fail
  refine (X.out _ H7.out.ps).mono ?_
  rintro e w8 ⟨rfl, hp, ho⟩
  have H8 := Lib.hid (H7.out.call hp ho)
  have HB8 := Lib.hid (SB.aft (SB.call HB.out ho HLT.out) HAF.out)
  clear hp ho
  go_wp2
  go_ret
  exact ⟨b, t, s8, rfl, HL.out, H8.out.ps, H8.out.only, HB8.out, HLE.out⟩

set_option maxHeartbeats 4000000 in
set_option maxRecDepth 100000 in
theorem prim_else (L : List Tk) (s : St) (h1 : kdS L s ≠ 1) (h2 : kdS L s ≠ 2) (h3 : kdS L s ≠ 3) (hq : sgS L s ≠ [110, 105, 108] ∧ sgS L s ≠ [115, 116, 97, 116, 101] ∧ sgS L s ≠ [123] ∧ sgS L s ≠ [102, 110] ∧ sgS L s ≠ [40]) : Rd L 267 [.prim] s := by
  intro g vt w h
  have KD := Lib.hid (kind_any h)
  generalize hkk : kdS L s = kk at *
  have z1 : (kk == 1) = false := beq_false_of_ne h1
  have z2 : (kk == 2) = false := beq_false_of_ne h2
  have z3 : (kk == 3) = false := beq_false_of_ne h3
  have HQ := Lib.hid hq
  have NO : Hid (∀ (q : List UInt8) W, PS L g vt W s → sgS L s ≠ q → Calls Tryz.prog 70 #[ptr g, .string (strOf q)] W fun e w' => e = .returned (.bool false) ∧ Below W.heap.size W w') := Lib.hid (fun q W hp hne => accept_no q hp hne)
  have HL : Hid (Leads L [.prim] [] s [] [join ⟨0, 0, [], 0, []⟩ []] (failS s)) := Lib.hid (prim_none (by rw [hkk]; exact h1) (by rw [hkk]; exact h2) (by rw [hkk]; exact h3) (by
    obtain ⟨a1, a2, a3, a4, a5⟩ := hq
    unfold primA
    rw [if_neg a1, if_neg a2, if_neg a3, if_neg a4, if_neg a5]))
  have F := Lib.hid (fun W (hp : PS L g vt W s) => fail_any hp)
  have G := Lib.hid (fun W => grow_any ⟨0, 0, [], 0, []⟩ none 0 0 W)
  have HLE : Hid (nx L s ≤ nx L (failS s)) := Lib.hid (by cases s with | bad k => exact Nat.le_refl _ | ok j => exact h.le)
  have H0 := Lib.hid (On.start h)
  clear h hq hkk h1 h2 h3
  go_enter Tryz.func267, Tryz.ntmps267
  go_wp2_with fail
  refine KD.out.mono ?_
  rintro e w1 ⟨rfl, hb⟩
  have H1 := Lib.hid (H0.out.below hb)
  clear hb
  go_wp2_with fail
  refine (NO.out [110, 105, 108] _ H1.out.ps HQ.out.1).mono ?_
  rintro e w2 ⟨rfl, hb⟩
  have H2 := Lib.hid (H1.out.below hb)
  clear hb
  go_wp2_with fail
  refine (NO.out [115, 116, 97, 116, 101] _ H2.out.ps HQ.out.2.1).mono ?_
  rintro e w3 ⟨rfl, hb⟩
  have H3 := Lib.hid (H2.out.below hb)
  clear hb
  go_wp2_with fail
  refine (NO.out [123] _ H3.out.ps HQ.out.2.2.1).mono ?_
  rintro e w4 ⟨rfl, hb⟩
  have H4 := Lib.hid (H3.out.below hb)
  clear hb
  go_wp2_with fail
  refine (NO.out [102, 110] _ H4.out.ps HQ.out.2.2.2.1).mono ?_
  rintro e w5 ⟨rfl, hb⟩
  have H5 := Lib.hid (H4.out.below hb)
  clear hb
  go_wp2_with fail
  refine (NO.out [40] _ H5.out.ps HQ.out.2.2.2.2).mono ?_
  rintro e w6 ⟨rfl, hb⟩
  have H6 := Lib.hid (H5.out.below hb)
  clear hb
  go_wp2_with fail
  refine (F.out _ H6.out.ps).mono ?_
  rintro e w7 ⟨rfl, hp, ho⟩
  have H7 := Lib.hid (H6.out.call hp ho)
  clear hp ho
  go_wp2_with fail
  refine (G.out _).mono ?_
  rintro e w9 ⟨b6, rfl, hb, hB, hbel⟩
  have H9 := Lib.hid (H7.out.below hbel)
  have HSB : Hid (SB w9 (fun k => k < w.heap.size) b6 (join ⟨0, 0, [], 0, []⟩ []) (failS s)) := Lib.hid (sb_node (cs := []) hB (by have := H7.out.only.size; omega) (LR.nil _ _ _))
  clear hbel hb hB G
  go_wp2
  go_ret
  exact ⟨b6, _, _, rfl, HL.out, H9.out.ps, H9.out.only, HSB.out, HLE.out⟩

theorem prim_rd (L : List Tk) (n : Nat) (hE : RdN L 203 [.e 0] n) (hF : ∀ s, mu L s < n → FnRd L (nd 24) s) (s : St) (hs : mu L s ≤ n) : Rd L 267 [.prim] s := by
  by_cases q : sgS L s = [110, 105, 108]
  · exact prim_nil L s q
  have nnil := q; clear q
  by_cases q : sgS L s = [115, 116, 97, 116, 101]
  · exact prim_state L s q
  have nstate := q; clear q
  by_cases q : sgS L s = [123]
  · exact prim_lb L s q
  have nlb := q; clear q
  by_cases q : sgS L s = [102, 110]
  · exact prim_fn L n hF s hs q
  have nfn := q; clear q
  by_cases q : sgS L s = [40]
  · exact prim_lp L n hE s hs q
  have nlp := q; clear q
  by_cases k1 : kdS L s = 1
  · cases s with
    | bad k => rw [kdS_bad] at k1; cases k1
    | ok j => exact prim_named L n hE j k1 hs
  by_cases k2 : kdS L s = 2
  · cases s with
    | bad k => rw [kdS_bad] at k2; cases k2
    | ok j => exact prim_int L j k2
  by_cases k3 : kdS L s = 3
  · cases s with
    | bad k => rw [kdS_bad] at k3; cases k3
    | ok j => exact prim_text L j k3
  exact prim_else L s k1 k2 k3 ⟨nnil, nstate, nlb, nfn, nlp⟩

end Go.Proofs.YtemlceicmpcboaaGreatDoor.Pa
namespace Go.Proofs.YtemlceicmpcboaaGreatDoor.Pa
open Go.RowKit Dk Lx Tr

theorem BB.only {F : Nat → Prop} {W W' : World} {b : Nat} {x : Nd} {k : Int} {v : Value} (h : BB W b x k v) (ho : Only F W W') (hF : ¬F b) : BB W' b x k v :=
  ⟨rangeAt_block h.cells (ho.block b h.lt hF), there_block h.room (ho.block b h.lt hF), Nat.lt_of_lt_of_le h.lt ho.size⟩
theorem BB.below {W W' : World} {b : Nat} {x : Nd} {k : Int} {v : Value} (h : BB W b x k v) (hb : Below W.heap.size W W') : BB W' b x k v := h.only (Only.of_below (F := fun _ => False) hb) id
theorem BB.at {W : World} {b : Nat} {x : Nd} {k : Int} {v : Value} (h : BB W b x k v) : W.cell? ⟨b, 0, none⟩ = some (.int .i64 x.kind) ∧ W.cell? ⟨b, 1, none⟩ = some (.int .i64 k) ∧ W.cell? ⟨b, 2, none⟩ = some (.string (strOf x.name)) ∧ W.cell? ⟨b, 3, none⟩ = some (.int .i64 x.n) ∧ W.cell? ⟨b, 4, none⟩ = some (.string (strOf x.text)) ∧ W.cell? ⟨b, 5, none⟩ = some v :=
  ⟨h.cells 0 _ rfl, h.cells 1 _ rfl, h.cells 2 _ rfl, h.cells 3 _ rfl, h.cells 4 _ rfl, h.cells 5 _ rfl⟩
theorem BB.free {W : World} {b : Nat} {x : Nd} {k : Int} {v : Value} (h : BB W b x k v) (j : Nat) (hj : j < 6) : W.frozen? ⟨b, j, none⟩ = false := by
  have := (h.room j hj).2
  rwa [Nat.zero_add] at this
/-- A cell of it is put anew. -/
theorem BB.put {W : World} {b : Nat} {x x' : Nd} {k k' : Int} {v v' u : Value} (j : Nat) (h : BB W b x k v) (hj : j < 6) (hx : (bcells x k v).set j u = bcells x' k' v') : BB (W.setCell ⟨b, j, none⟩ u) b x' k' v' := by
  refine ⟨fun i y hi => ?_, there_setCell h.room _ _, by simpa using h.lt⟩
  rw [Nat.zero_add]
  rw [← hx] at hi
  by_cases e : j = i
  · subst e
    have hc := h.cells j _ (List.getElem?_eq_getElem (show j < (bcells x k v).length from hj))
    rw [Nat.zero_add] at hc
    rw [World.cell?_setCell_same _ _ _ hc]
    rw [List.getElem?_set_self (show j < (bcells x k v).length from hj)] at hi
    exact hi
  · rw [World.cell?_setCell_other _ _ _ _ (by simp [])]
    rw [List.getElem?_set_ne e] at hi
    have := h.cells i y hi
    rwa [Nat.zero_add] at this
theorem BB.row {W : World} {b : Nat} {x : Nd} {k : Int} {v : Value} (h : BB W b x k v) (v' : Value) : BB (W.setCell ⟨b, 5, none⟩ v') b x k v' := h.put 5 (by decide) rfl

/-- A branch of the call's own, to which more is still put. -/
structure FB (w W : World) (b : Nat) (x : Nd) (k : Int) (v : Value) (cs : List (Nat × List Nd)) (s : St) : Prop where
  bb : BB W b x k v
  own : w.heap.size ≤ b
  row : W.ownsRow w.heap.size 76 1 v cs.length (bp (cs.map (·.1)))
  kids : Kids W (fun k => (k < w.heap.size ∨ v.ownBlock = some k) ∨ k = b) cs s
  ne : v.ownBlock ≠ some b

theorem FB.lr {w W : World} {b : Nat} {x : Nd} {k : Int} {v : Value} {cs : List (Nat × List Nd)} {s : St} (h : FB w W b x k v cs s) : LR w W v cs s := ⟨h.row, Kids.weaken h.kids (fun _ _ h => .inl h)⟩
theorem FB.sb {w W : World} {b : Nat} {x : Nd} {k : Int} {v : Value} {cs : List (Nat × List Nd)} {s : St} (h : FB w W b x k v cs s) : SB W (fun k => k < w.heap.size) b (join x (cs.map (·.2))) s := sb_node h.bb h.own h.lr
theorem FB.aft {w W : World} {b : Nat} {x : Nd} {k : Int} {v : Value} {cs : List (Nat × List Nd)} {s s' : St} (h : FB w W b x k v cs s) (ha : Aft s s') : FB w W b x k v cs s' := ⟨h.bb, h.own, h.row, h.kids.aft ha, h.ne⟩
theorem FB.call {w W W' : World} {b : Nat} {x : Nd} {k : Int} {v : Value} {cs : List (Nat × List Nd)} {s : St} {g : Nat} (h : FB w W b x k v cs s) (ho : Only (fun k => k = g) W W') (hg : g < w.heap.size) : FB w W' b x k v cs s :=
  ⟨h.bb.only ho (by have := h.own; omega), h.own, ownsRow_block h.row (fun i hi => ho.block i (Tr.own_lo h.row i hi).2 (by have := (Tr.own_lo h.row i hi).1; omega)), Kids.only h.kids ho (fun i _ hi => .inl (.inl (by omega))), h.ne⟩
theorem FB.below {w W W' : World} {b : Nat} {x : Nd} {k : Int} {v : Value} {cs : List (Nat × List Nd)} {s : St} (h : FB w W b x k v cs s) (hb : Below W.heap.size W W') : FB w W' b x k v cs s :=
  ⟨h.bb.below hb, h.own, ownsRow_block h.row (fun i hi => hb.block i (Tr.own_lo h.row i hi).2), Kids.only h.kids (Only.of_below (F := fun _ => False) hb) (fun _ _ h => h.elim), h.ne⟩
/-- A node was laid over a row that stood there. -/
theorem FB.start {w W W' : World} {b : Nat} {x : Nd} {k : Int} {v : Value} {cs : List (Nat × List Nd)} {s : St} (h : LR w W v cs s) (hw : w.heap.size ≤ W.heap.size) (hb : W.heap.size ≤ b) (hB : BB W' b x k v) (hbel : Below W.heap.size W W') : FB w W' b x k v cs s := by
  refine ⟨hB, Nat.le_trans hw hb, ownsRow_block h.row (fun i hi => hbel.block i (Tr.own_lo h.row i hi).2), ?_, fun e => by have := (Tr.own_lo h.row b e).2; omega⟩
  have h1 := Kids.weaken (Y := fun k => (k < w.heap.size ∨ v.ownBlock = some k) ∨ W.heap.size ≤ k) h.kids (fun i hi hx => hx.elim id (fun h => absurd h (by omega)))
  exact Kids.weaken (Kids.only h1 (Only.of_below (F := fun _ => False) hbel) (fun _ _ h => h.elim)) (fun i _ hi => hi.elim .inl (fun e => .inr (by omega)))
/-- A field of its node is put. -/
theorem FB.put {w W : World} {b : Nat} {x x' : Nd} {k : Int} {v u : Value} {cs : List (Nat × List Nd)} {s : St} (j : Nat) (h : FB w W b x k v cs s) (hj : j < 6) (hx : (bcells x k v).set j u = bcells x' k v) : FB w (W.setCell ⟨b, j, none⟩ u) b x' k v cs s := by
  have ho : Only (fun k => k = b) W (W.setCell ⟨b, j, none⟩ u) := Only.of_setCell _
  exact ⟨h.bb.put j hj hx, h.own, ownsRow_block h.row (fun i hi => ho.block i (Tr.own_lo h.row i hi).2 (fun e => h.ne (by rw [hi, e]))), Kids.only h.kids ho (fun i _ hi => .inr hi), h.ne⟩
/-- More kids, put behind the others: the row, ahead of its being stored. -/
theorem FB.app {w W Wa W7 : World} {b : Nat} {x : Nd} {k : Int} {v : Value} {cs : List (Nat × List Nd)} {s : St} (h : FB w W b x k v cs s) (hpre : Below W.heap.size W Wa) (hgr : Wa.grownBy W7 v.ownBlock) :
    BB W7 b x k v ∧ Only (fun k => v.ownBlock = some k) W W7 := by
  have ho : Only (fun k => v.ownBlock = some k) W W7 := (Only.of_below (F := fun k => v.ownBlock = some k) hpre).trans (Only.of_grown (F := fun k => v.ownBlock = some k) hgr (fun _ h => h)) (fun _ _ h => h)
  exact ⟨h.bb.only ho h.ne, ho⟩
theorem FB.push {w W Wa W7 : World} {b n g' cap : Nat} {x : Nd} {k : Int} {v : Value} {cs news : List (Nat × List Nd)} {s : St} (h : FB w W b x k v cs s) (hn : Kids W (fun k => (k < w.heap.size ∨ v.ownBlock = some k) ∨ k = b) news s) (hpre : Below W.heap.size W Wa)
    (hl : n = cs.length + news.length) (hrow : W7.ownsRow w.heap.size 76 1 (.slice (some ⟨g', 0, none⟩) n cap) n (bp (cs.map (·.1)) ++ bp (news.map (·.1)))) (hgr : Wa.grownBy W7 v.ownBlock) (hg : v.ownBlock = some g' ∨ g' = Wa.heap.size) :
    FB w (W7.setCell ⟨b, 5, none⟩ (.slice (some ⟨g', 0, none⟩) n cap)) b x k (.slice (some ⟨g', 0, none⟩) n cap) (cs ++ news) s ∧ Only (fun k => k = b ∨ v.ownBlock = some k) W (W7.setCell ⟨b, 5, none⟩ (.slice (some ⟨g', 0, none⟩) n cap)) := by
  subst hl
  obtain ⟨h7, ho⟩ := h.app hpre hgr
  have hne : g' ≠ b := by
    rcases hg with e | e
    · exact fun e2 => h.ne (by rw [e, e2])
    · have := h.bb.lt; have := hpre.size; omega
  have ho8 : Only (fun k => k = b) W7 (W7.setCell ⟨b, 5, none⟩ (.slice (some ⟨g', 0, none⟩) (cs.length + news.length) cap)) := Only.of_setCell _
  have hO : Only (fun k => k = b ∨ v.ownBlock = some k) W (W7.setCell ⟨b, 5, none⟩ (.slice (some ⟨g', 0, none⟩) (cs.length + news.length) cap)) := (ho.mono (fun i hi => .inr hi)).trans ho8 (fun i _ hi => .inl hi)
  refine ⟨⟨h7.row _, h.own, ?_, ?_, fun e => hne (by simpa [Value.ownBlock] using e)⟩, hO⟩
  · rw [List.length_append, List.map_append, bp_app]
    exact ownsRow_block hrow (fun i hi => ho8.block i (Tr.own_lo hrow i hi).2 (fun e => hne ((show g' = i by simpa [Value.ownBlock] using hi).trans e)))
  · have h0 : Kids W (fun k => (k < w.heap.size ∨ v.ownBlock = some k) ∨ k = b) (cs ++ news) s := by
      cases s with
      | bad k => trivial
      | ok i => exact fun c hc => (List.mem_append.1 hc).elim (h.kids c) (hn c)
    have h1 : Kids W (fun k => ((k < w.heap.size ∨ v.ownBlock = some k) ∨ k = b) ∨ W.heap.size ≤ k) (cs ++ news) s := Kids.weaken h0 (fun i hi hx => hx.elim id (fun h => absurd h (by omega)))
    refine Kids.weaken (Kids.only h1 hO (fun i _ hi => .inl (hi.elim .inr (fun e => .inl (.inr e))))) (fun i _ hi => ?_)
    rcases hi with (hi | hi) | hi
    · exact .inl (.inl (.inl hi))
    · have e : g' = i := by simpa [Value.ownBlock] using hi
      subst e
      rcases hg with e | e
      · exact .inl (.inl (.inr e))
      · exact .inr (by have := hpre.size; omega)
    · exact .inl (.inr hi)

/-- What a reader's call made is apart from the branch. -/
theorem FB.news {w W0 W : World} {b b' : Nat} {x : Nd} {k : Int} {v : Value} {cs : List (Nat × List Nd)} {s s' : St} {t : List Nd} (h : FB w W0 b x k v cs s') (hb : SB W (fun k => k < W0.heap.size) b' t s) (hw : w.heap.size ≤ W0.heap.size) : SB W (fun k => (k < w.heap.size ∨ v.ownBlock = some k) ∨ k = b) b' t s :=
  SB.weaken hb (fun i _ hi => by
    rcases hi with (hi | hi) | hi
    · omega
    · exact (Tr.own_lo h.row i hi).2
    · have := h.bb.lt; omega)
theorem On.fb {L : List Tk} {g : Nat} {vt : Value} {w W W' : World} {s s' : St} {b : Nat} {x : Nd} {k : Int} {v : Value} {cs : List (Nat × List Nd)} (h : On L g vt w W s) (hf : FB w W b x k v cs s') (ho : Only (fun k => k = b ∨ v.ownBlock = some k) W W') : On L g vt w W' s :=
  h.own ho (fun i hi => hi.elim (fun e => by have := hf.own; omega) (fun e => (Tr.own_lo hf.row i e).1))

end Go.Proofs.YtemlceicmpcboaaGreatDoor.Pa
