/- The kids of an index that was read: where they begin, and their trees; a tree's numbers of kids are small. The walk of the document's stmt: its contract. No condition but those that each states. -/
import Derived.Test.YtemlceicmpcboaaGreatDoorMgH
import Derived.Test.YtemlceicmpcboaaGreatDoorMgF
import Derived.Test.YtemlceicmpcboaaGreatDoorMgP
import Derived.Test.YtemlceicmpcboaaGreatDoorMgR
namespace Go.Proofs.YtemlceicmpcboaaGreatDoor.Pa
open Go.RowKit Dk Lx Tr

theorem endW_kid : ∀ (l : List Int) (w n : Nat), endW w l = some n → ∀ k ∈ l.take n, k ≤ (l.length : Int)
  | l, 0, n, h => by rw [endW_zero] at h; cases h; intro k hk; simp at hk
  | [], w + 1, n, h => by cases h
  | k :: r, w + 1, n, h => by
    rw [endW_cons] at h
    split at h
    · cases h
    · cases hr : endW (w + k.toNat) r with
      | none => rw [hr] at h; cases h
      | some m =>
        rw [hr] at h
        cases h
        have h1 := endW_le r _ _ hr
        intro y hy
        rw [List.take_succ_cons] at hy
        rcases List.mem_cons.1 hy with rfl | hy
        · simp only [List.length_cons]; omega
        · have := endW_kid r _ _ hr y hy
          simp only [List.length_cons]; omega
theorem whole_fit {t : List Nd} (h : endW 1 (kidsOf t) = some t.length) (hl : t.length ≤ 1000000) : Fit t := by
  intro x hx
  have h1 := endW_kid _ _ _ h x.kids (by
    rw [← kidsOf_len, List.take_length]
    exact List.mem_map_of_mem hx)
  rw [kidsOf_len] at h1
  omega

theorem two_kids {K : Nat} {x : Nd} {b : List Nd} (h : Tok K (x :: b)) (hx : x.kind = 26) :
    kidsZ (kidsOf (x :: b)) 0 = [1, ((1 + firstZ b : Nat) : Int)] ∧ subL (x :: b) 1 = b.take (firstZ b) ∧ subL (x :: b) ((1 + firstZ b : Nat) : Int) = b.drop (firstZ b) := by
  have hk : x.kids = 2 := (h.nodes x (List.mem_cons_self ..)).1 hx
  have hw := h.whole
  have e0 : kidsOf (x :: b) = x.kids :: kidsOf b := rfl
  obtain ⟨w1, w2⟩ := tok_two h hx
  have hz : endW 1 (kidsOf b) = some (firstZ b) := by
    change endW (0 + 1) (x.kids :: kidsOf b) = some (b.length + 1) at hw
    rw [endW_cons, hk, if_neg (by omega)] at hw
    rw [show 0 + (2 : Int).toNat = 1 + 1 from rfl, endW_add] at hw
    cases h1 : endW 1 (kidsOf b) with
    | none => rw [h1] at hw; cases hw
    | some z => unfold firstZ; rw [h1]; rfl
  have hzl : firstZ b ≤ b.length := by have := (endW_le _ _ _ hz).2; rwa [kidsOf_len] at this
  have h2 : endW 1 ((kidsOf b).drop (firstZ b)) = some (b.length - firstZ b) := by
    have := w2.whole
    rw [List.length_drop] at this
    have e : kidsOf (b.drop (firstZ b)) = (kidsOf b).drop (firstZ b) := by simp [kidsOf, List.map_drop]
    rw [← e]; exact this
  refine ⟨?_, ?_, ?_⟩
  · have h1 := kidsZ_some (ks := kidsOf (x :: b)) (i := 0) (n := (x :: b).length) (k := 2) (by rw [List.drop_zero]; exact hw) (by rw [e0, hk]; rfl)
    rw [show ((0 : Nat) : Int) = 0 from rfl] at h1
    rw [h1]
    show posZ (kidsOf (x :: b)) 1 2 = _
    rw [show (2 : Nat) = 1 + 1 from rfl, posZ_succ, show (1 : Nat) = 0 + 1 from rfl, posZ_succ]
    have e1 : pos (kidsOf (x :: b)) 1 (0 + 1) = 1 + firstZ b := by
      show 1 + sz (kidsOf (x :: b)) 1 = _
      unfold sz
      rw [e0, List.drop_succ_cons, List.drop_zero, hz]; rfl
    show [] ++ [((1 : Nat) : Int)] ++ [((pos (kidsOf (x :: b)) 1 (0 + 1) : Nat) : Int)] = _
    rw [e1]; rfl
  · have := subL_some (ts := x :: b) (k := 1) (n := firstZ b) (by rw [e0, List.drop_succ_cons, List.drop_zero]; exact hz)
    rw [show ((1 : Nat) : Int) = 1 from rfl, List.drop_succ_cons, List.drop_zero] at this
    exact this
  · have := subL_some (ts := x :: b) (k := 1 + firstZ b) (n := b.length - firstZ b) (by rw [e0, Nat.add_comm, List.drop_succ_cons]; exact h2)
    rw [this, Nat.add_comm, List.drop_succ_cons, ← List.length_drop, List.take_length]

theorem asg_idxF {L : List Tk} {x : Nd} (b : List Nd) {j : Nat} (hx : x.kind = 26) (h : sg L j = [61]) : Leads L [.asg] [x :: b] (.ok j) [.e 0, .mark [59], .mk (nd 8) 3] [b.take (firstZ b), b.drop (firstZ b)] (.ok (j + 1)) := .yes (fun V => by
  show (if sg L j = [61] then (if x.kind = 21 then _ else if x.kind = 26 then _ else _) else _) = _
  rw [if_pos h, if_neg (by omega), if_pos hx]
  rfl)

end Go.Proofs.YtemlceicmpcboaaGreatDoor.Pa
namespace Go.Proofs.YtemlceicmpcboaaGreatDoor.Pa
open Go.RowKit Dk Lx Tr

theorem let_leadF {L : List Tk} (s : St) : Leads L [.letN] [] s [.mark [61], .e 0, .mark [59], .mk { nd 6 with name := (nameV L 1 s).text } 1] [] (needS L 1 s) :=
  need_lead .letN 1 [] s (fun t => [.mark [61], .e 0, .mark [59], .mk { nd 6 with name := t.text } 1]) (fun V i => by rw [← tx_getD]; rfl)

theorem els_noF {L : List Tk} {s : St} (us : List (List Nd)) (h : isS L [101, 108, 115, 101] s = false) : Leads L [.els] us s [.mk (nd 9) 2] us s := by
  cases s with
  | bad k => exact rfl
  | ok j => exact .yes (fun V => by
      show (if sg L j = [101, 108, 115, 101] then _ else some ([Sy.mk (nd 9) 2], us.reverse ++ V, j)) = _
      exact if_neg (sg_not h))
theorem els_yesF {L : List Tk} {j : Nat} (us : List (List Nd)) (h : sg L j = [101, 108, 115, 101]) : Leads L [.els] us (.ok j) [.blk, .mk (nd 9) 3] us (.ok (j + 1)) := .yes (fun V => by
  show (if sg L j = [101, 108, 115, 101] then some ([Sy.blk, Sy.mk (nd 9) 3], us.reverse ++ V, j + 1) else _) = _
  exact if_pos h)

theorem asg_noF {L : List Tk} {s : St} (t : List Nd) (h : isS L [61] s = false) : Leads L [.asg] [t] s [.mark [59], .mk (nd 17) 1] [t] s := by
  cases s with
  | bad k => exact rfl
  | ok j => exact .yes (fun V => by
      show (if sg L j = [61] then _ else some ([Sy.mark [59], Sy.mk (nd 17) 1], [t].reverse ++ V, j)) = _
      exact if_neg (sg_not h))

theorem one_asgF (L : List Tk) (V : List (List Nd)) (x : Nd) (b : List Nd) (j : Nat) (h : sg L j = [61]) : one L .asg ((x :: b) :: V) j =
    if x.kind = 21 then some ([.e 0, .mark [59], .mk { nd 7 with name := x.name } 1], V, j + 1)
    else if x.kind = 26 then some ([.e 0, .mark [59], .mk (nd 8) 3], b.drop (firstZ b) :: b.take (firstZ b) :: V, j + 1)
    else none := by
  show (if sg L j = [61] then _ else _) = _
  rw [if_pos h]
theorem asg_nameF {L : List Tk} {x : Nd} (b : List Nd) {j : Nat} (hx : x.kind = 21) (h : sg L j = [61]) : Leads L [.asg] [x :: b] (.ok j) [.e 0, .mark [59], .mk { nd 7 with name := x.name } 1] [] (.ok (j + 1)) := .yes (fun V => by
  show one L .asg ((x :: b) :: V) j = _
  rw [one_asgF L V x b j h, if_pos hx]
  rfl)
theorem asg_oddF {L : List Tk} {x : Nd} (b : List Nd) {j : Nat} {B : List Sy} {ts : List (List Nd)} (h1 : x.kind ≠ 21) (h2 : x.kind ≠ 26) (h : sg L j = [61]) : Leads L [.asg] [x :: b] (.ok j) B ts (.bad j) := .no (fun V => by
  show one L .asg ((x :: b) :: V) j = _
  rw [one_asgF L V x b j h, if_neg h1, if_neg h2])

/-- Where the first node of a row lies. -/
theorem cell_of {W : World} {X : Nat → Prop} {q : Option Addr} {m c : Nat} {x : Nd} {b : List Nd} (h : NdX W X (.slice q m c) (x :: b)) : ∃ bb o, (q = some ⟨bb, o, none⟩ ∧ m = b.length + 1) ∧ ∀ (W' : World), NdX W' X (.slice q m c) (x :: b) → W'.cell? ⟨bb, o, none⟩ = some (.int .i64 x.kind) ∧ W'.cell? ⟨bb, o + 2, none⟩ = some (.string (strOf x.name)) := by
  rcases h with ⟨h0, -⟩ | ⟨-, bb, o, c', hv, -⟩
  · cases h0
  · cases hv
    refine ⟨bb, o, ⟨rfl, rfl⟩, fun W' h' => ?_⟩
    rcases h' with ⟨h0, -⟩ | ⟨-, bb', o', c', hv, -, -, -, hr⟩
    · cases h0
    · cases hv
      have e : ncells (x :: b) = x.cells ++ ncells b := ncells_cons x b
      exact ⟨hr 0 _ (by rw [e]; rfl), hr 2 _ (by rw [e]; rfl)⟩

/-- An expression and a block behind it. -/
theorem two_len {L : List Tk} {g : Nat} {vt : Value} {a b : Sy} {s5 s6 : St} {i : Nat} {w w' w2 w3 : World} {v v' : Value} {t1 t2 : List Nd} (h1 : RfOk L g vt a 2 (.ok i) w w' v t1 s5) (h2 : RfOk L g vt b 2 s5 w2 w3 v' t2 s6) (p1 : phi a ≤ 0) (p2 : phi b ≤ 0) : t1.length + t2.length ≤ 4 * (atS s6 - i) + 4 := by
  have k1 := h1.le
  have k2 := h2.le
  have e0 : atS (.ok i) = i := rfl
  cases hs : s5 with
  | bad k =>
    have a1 := h1.size.2 i k rfl hs
    have a2 := h2.size.1 k hs
    rw [hs] at k1 k2
    have k3 : k ≤ atS s6 := k2
    have k4 : i ≤ k := k1
    omega
  | ok j =>
    rw [hs] at h1 h2 k1 k2
    have a1 := Leads.few h1.leads p1
    have a2 := h2.len p2
    have k3 : j ≤ atS s6 := k2
    have e1 : atS (.ok j) = j := rfl
    omega

set_option maxHeartbeats 8000000 in
set_option maxRecDepth 100000 in
theorem stmt_rf (K : Nat) (L : List Tk) (hT : TkS K L) (h4k : L.length ≤ 4000) (n : Nat) (hE : RfN L 205 (.e 0) 2 n) (hB : RfN L 136 .blk 2 n) (s : St) (hs : mu L s < n) (hb : isBad s = false) : Rf L 179 .stmt 3 s := by
 intro g vt w h
 have HE := Lib.hid hE
 have HB := Lib.hid hB
 have O0 := Lib.hid (OnR.start h)
 have HLT := Lib.hid h.lt
 have HFEW := Lib.hid h.few
 have HMU := Lib.hid hs
 have HTK := Lib.hid hT
 have H4K := Lib.hid h4k
 clear hT h4k
 have HBD := Lib.hid hb
 clear hb
 obtain ⟨i0, hi0, hy0, hy1, hy2⟩ := info_parts nds_info3
 have HEND := Lib.hid (fun x s hs W (hp : RS L g vt W s) => ended_any L n hE x s hs g vt W hp)
 clear h hE hB hs
 go_enter Tryz.func179, Tryz.ntmps179
 have X0 := Lib.hid (take_any O0.out.ps [108, 101, 116] (by decide))
 cases hq : isS L [108, 101, 116] s with
 | true =>
  rw [hq] at X0
  obtain ⟨j0, hj0, hg0, ht0⟩ := takeS_yes hq
  have HJ0 := Lib.hid hj0
  rw [ht0] at X0
  have hjl : j0 < L.length := sg_lt (by rw [hg0]; decide)
  have HM4 : Hid (mu L (.ok (j0 + 1)) < n) := Lib.hid (by
   have h1 := HMU.out
   rw [hj0] at h1
   exact Nat.lt_trans (show L.length - (j0 + 1) + 1 < L.length - j0 + 1 by omega) h1)
  have HST : Hid (∀ A, stmtA [108, 101, 116] = some A → Leads L [.stmt] [] s A [] (.ok (j0 + 1))) := Lib.hid (fun A hA => by
   rw [hj0]
   exact stmt_key (by rw [hg0]; exact hA))
  have HLE : Hid (atS s ≤ atS (.ok (j0 + 1))) := Lib.hid (by rw [hj0]; exact Nat.le_succ _)
  clear hq hj0 hg0 ht0 hjl
  go_wp2_with fail
  refine X0.out.mono ?_
  rintro e v1 ⟨rfl, hp, ho⟩
  have V1 := Lib.hid (O0.out.call hp ho)
  clear hp ho X0
  have X1 := Lib.hid (need_any 1 V1.out.ps (by decide))
  have HA1 := Lib.hid (atS_need L 1 (.ok (j0 + 1)))
  have HLN := Lib.hid ((HST.out _ rfl).trans (let_leadF (.ok (j0 + 1))))
  have HAF1 : Hid (mu L (needS L 1 (.ok (j0 + 1))) < n) := Lib.hid (Nat.lt_of_le_of_lt (mu_leR (let_leadF (.ok (j0 + 1))).aft HA1.out.1) HM4.out)
  generalize nameV L 1 (.ok (j0 + 1)) = en at *
  generalize needS L 1 (.ok (j0 + 1)) = s1 at *
  obtain ⟨ek, et, ez, ep⟩ := en
  have hfd : ∀ W : World, (Instr.field 72 (.agg #[.int .i64 ek, .string (strOf et), .int .i64 ez, .int .i64 ep]) 1).run Tryz.prog W = .ok (.string (strOf et)) W := fun _ => by kernel_rfl
  go_wp2_with fail
  refine X1.out.mono ?_
  rintro e v2 ⟨rfl, hp, ho⟩
  have V2 := Lib.hid (V1.out.call hp ho)
  clear hp ho X1
  simp only [Tk.cells]
  have X2 := Lib.hid (must_any V2.out.ps [61] (by decide))
  have HA2 := Lib.hid (atS_mark L [61] s1)
  have HLM : Hid (Leads L [.stmt] [] s [.e 0, .mark [59], .mk { nd 6 with name := et } 1] [] (markS L [61] s1)) := Lib.hid (HLN.out.trans ((Leads.mark (L := L) [61] s1).over [.e 0, .mark [59], .mk { nd 6 with name := et } 1] []))
  have HM5 : Hid (mu L (markS L [61] s1) < n) := Lib.hid (Nat.lt_of_le_of_lt (mu_leR (Leads.mark (L := L) [61] s1).aft HA2.out.1) HAF1.out)
  have HAT : Hid (j0 + 1 ≤ atS (markS L [61] s1)) := Lib.hid (Nat.le_trans HA1.out.1 HA2.out.1)
  clear HLN HAF1
  generalize markS L [61] s1 = s2 at *
  go_wp2_with fail
  refine X2.out.mono ?_
  rintro e v3 ⟨rfl, hp, ho⟩
  have V3 := Lib.hid (V2.out.call hp ho)
  clear hp ho X2
  have E4 := Lib.hid (HEND.out { nd 6 with name := et } s2 HM5.out v3 V3.out.ps)
  simp only [Nd.cells] at E4
  clear HEND
  go_wp2_with fail
  refine E4.out.mono ?_
  rintro e v4 ⟨v, t, s5, rfl, hl, hon, hnd, hle, -, hsz⟩
  have V4 := Lib.hid (V3.out.call hon.ps hon.only)
  have HLD : Hid (Leads L [.stmt] [] s [] [t] s5) := Lib.hid (HLM.out.trans hl)
  have R4 : Hid (NdX v4 (fun k => k < w.heap.size) v t) := Lib.hid (hnd.weaken (fun i _ hi => by have := V3.out.only.size; omega))
  have HLE2 : Hid (atS s ≤ atS s5) := Lib.hid (by have h1 := HAT.out; have h2 : atS s = j0 := (by rw [HJ0.out]; rfl); omega)
  have HZ : Hid (Sz 3 s s5 t.length) := Lib.hid ⟨fun k hk => (by rw [HJ0.out] at hk; cases hk), fun i k h1 h2 => (by
   have e1 : i = j0 := (by rw [HJ0.out] at h1; cases h1; rfl)
   have e2 : atS s5 = k := (by rw [h2]; rfl)
   have e3 := HAT.out
   omega)⟩
  clear hl hon hnd hle hsz E4
  obtain ⟨up, un, uc, rfl⟩ := R4.out.form
  go_wp2
  go_ret
  exact ⟨_, t, s5, rfl, ⟨HLD.out, V4.out.ps, V4.out.only, R4.out, HLE2.out, HZ.out⟩⟩
 | false =>
  rw [hq] at X0
  have F0 := Lib.hid hq
  have HTN := takeS_no hq
  rw [HTN] at X0
  clear hq HTN
  go_wp2_with fail
  refine X0.out.mono ?_
  rintro e w1 ⟨rfl, hp, ho⟩
  have O1 := Lib.hid (O0.out.call hp ho)
  clear hp ho X0 O0
  have X1 := Lib.hid (take_any O1.out.ps [105, 102] (by decide))
  cases hq : isS L [105, 102] s with
  | true =>
   rw [hq] at X1
   obtain ⟨j0, hj0, hg0, ht0⟩ := takeS_yes hq
   have HJ0 := Lib.hid hj0
   rw [ht0] at X1
   have hjl : j0 < L.length := sg_lt (by rw [hg0]; decide)
   have HM4 : Hid (mu L (.ok (j0 + 1)) < n) := Lib.hid (by
    have h1 := HMU.out
    rw [hj0] at h1
    exact Nat.lt_trans (show L.length - (j0 + 1) + 1 < L.length - j0 + 1 by omega) h1)
   have HST : Hid (∀ A, stmtA [105, 102] = some A → Leads L [.stmt] [] s A [] (.ok (j0 + 1))) := Lib.hid (fun A hA => by
    rw [hj0]
    exact stmt_key (by rw [hg0]; exact hA))
   have HLE : Hid (atS s ≤ atS (.ok (j0 + 1))) := Lib.hid (by rw [hj0]; exact Nat.le_succ _)
   clear hq hj0 hg0 ht0 hjl
   go_wp2_with fail
   refine X1.out.mono ?_
   rintro e v1 ⟨rfl, hp, ho⟩
   have V1 := Lib.hid (O1.out.call hp ho)
   clear hp ho X1
   have E4 := Lib.hid (HE.out _ HM4.out g vt _ V1.out.ps)
   go_wp2_with fail
   refine E4.out.mono ?_
   rintro e v2 ⟨u1, t1, s5, rfl, hk⟩
   obtain ⟨q1, m1, c1, rfl⟩ := hk.row.form
   have V2 := Lib.hid (V1.out.call hk.rs hk.only)
   have HM5 : Hid (mu L s5 < n) := Lib.hid (Nat.lt_of_le_of_lt (mu_leR hk.leads.aft hk.le) HM4.out)
   have HK1 := Lib.hid hk
   have B4 := Lib.hid (HB.out _ HM5.out g vt _ V2.out.ps)
   clear hk E4
   go_wp2_with fail
   refine B4.out.mono ?_
   rintro e v3 ⟨u2, t2, s6, rfl, hk⟩
   obtain ⟨q2, m2, c2, rfl⟩ := hk.row.form
   have V3 := Lib.hid (V2.out.call hk.rs hk.only)
   have R3 : Hid (NdX v3 (fun k => k = g ∨ v3.heap.size ≤ k) (.slice q1 m1 c1) t1) := Lib.hid ((HK1.out.row.only hk.only (fun k _ hk => by have := HLT.out; have := V1.out.only.size; omega)).weaken (fun i hi h => by have := HLT.out; have := V1.out.only.size; omega))
   have R3b : Hid (NdX v3 (fun k => k = g ∨ v3.heap.size ≤ k) (.slice q2 m2 c2) t2) := Lib.hid (hk.row.weaken (fun i hi h => by have := HLT.out; have := V2.out.only.size; omega))
   have HL6 : Hid (Leads L [.stmt] [] s [.els] [t1, t2] s6) := Lib.hid (by
    have h1 := HK1.out.leads.over [.blk, .els] []
    have h2 := hk.leads.over [.els] [t1]
    exact ((HST.out _ rfl).trans h1).trans h2)
   have HSZ : Hid (t1.length + t2.length ≤ 4 * (atS s6 - (j0 + 1)) + 4) := Lib.hid (two_len HK1.out hk (Int.le_refl 0) (by decide))
   have HLE2 : Hid (j0 + 1 ≤ atS s6) := Lib.hid (Nat.le_trans HK1.out.le hk.le)
   have HM6 : Hid (mu L s6 < n) := Lib.hid (Nat.lt_of_le_of_lt (mu_leR hk.leads.aft hk.le) HM5.out)
   have V4 := Lib.hid (V3.out.alloc (.cells #[Value.slice q1 m1 c1, Value.slice q2 m2 c2] 23))
   have HLIT := Lib.hid (World.ownsRow_lit (base := v3.heap.size) (size := 1) (e := 23) v3 #[Value.slice q1 m1 c1, Value.slice q2 m2 c2] 2 (Nat.le_refl _) (by unfold maxLen; omega) rfl)
   have HKD : Hid (∀ c ∈ [((Value.slice q1 m1 c1), t1), ((Value.slice q2 m2 c2), t2)], NdX (v3.alloc (.cells #[Value.slice q1 m1 c1, Value.slice q2 m2 c2] 23)) (fun k => k = g ∨ v3.heap.size ≤ k) c.1 c.2) := Lib.hid (fun c hc => by
    rcases List.mem_cons.1 hc with rfl | hc
    · exact R3.out.only (Only.of_below (F := fun _ => False) ((Below.refl _ _).alloc (Nat.le_refl _) _)) (fun _ _ h => h.elim)
    · rw [List.mem_singleton.1 hc]; exact R3b.out.only (Only.of_below (F := fun _ => False) ((Below.refl _ _).alloc (Nat.le_refl _) _)) (fun _ _ h => h.elim))
   have HG3 : Hid (g < v3.heap.size) := Lib.hid (by have := HLT.out; have := V3.out.only.size; omega)
   clear hk B4
   have X8 := Lib.hid (take_any V4.out.ps [101, 108, 115, 101] (by decide))
   cases hq : isS L [101, 108, 115, 101] s6 with
   | false =>
    rw [hq, takeS_no hq] at X8
    have HLD : Hid (Leads L [.stmt] [] s [] [join (nd 9) [t1, t2]] s6) := Lib.hid ((HL6.out.trans (els_noF [t1, t2] hq)).trans (Leads.mk (L := L) (nd 9) [t1, t2] 2 rfl _))
    have HSZF := HSZ
    have HLEF := HLE2
    clear hq
    go_wp2_with fail
    refine X8.out.mono ?_
    rintro e v5 ⟨rfl, hp, ho⟩
    have V5 := Lib.hid (V4.out.call hp ho)
    have HKS : Hid (KsW v5 (fun _ => False) (.slice (some ⟨v3.heap.size, 0, none⟩) 2 2) [((Value.slice q1 m1 c1), t1), ((Value.slice q2 m2 c2), t2)]) := Lib.hid (KsW.of_own (ownsRow_block HLIT.out (fun b hb => ho.block b (Tr.own_lo HLIT.out b hb).2 (by have := (Tr.own_lo HLIT.out b hb).1; have := HG3.out; omega))) rfl (fun c hc => ((HKD.out c hc).only ho (fun i _ hi => .inl hi)).weaken (fun _ _ h => h.elim)))
    clear hp ho X8
    have J1 := Lib.hid (join_any (nd 9) _ _ _ HKS.out (by simp) (by
     have h1 := HSZ.out; have h2 := V5.out.ps.le; have h3 := HFEW.out
     simpa using (by omega : t1.length + t2.length ≤ 10000000)))
    simp only [Nd.cells, List.map_cons, List.map_nil] at J1
    have HZ : Hid (Sz 3 s s6 (join (nd 9) [t1, t2]).length) := Lib.hid ⟨fun k hk => (by rw [HJ0.out] at hk; cases hk), fun i k h1 h2 => (by
     have e1 : i = j0 := (by rw [HJ0.out] at h1; cases h1; rfl)
     have e2 : atS s6 = k := (by rw [h2]; rfl)
     have e3 := HSZF.out
     have e4 := HLEF.out
     simp [join]
     omega)⟩
    have HLE3 : Hid (atS s ≤ atS s6) := Lib.hid (by have h1 := HLEF.out; have h2 : atS s = j0 := (by rw [HJ0.out]; rfl); omega)
    have HNJ : Hid (join (nd 9) [t1, t2] ≠ []) := Lib.hid (by simp [join])
    generalize join (nd 9) [t1, t2] = tj at *
    go_wp2_with (go_at_call 78; refine J1.out.mono ?_; rintro e v6 ⟨u3, rfl, hr2⟩; have HR4 := Lib.hid hr2; clear hr2)
    have V6 := Lib.hid (V5.out.below HR4.out.below)
    have HX : Hid (NdX v6 (fun k => k < w.heap.size) u3 tj) := Lib.hid (NdX.of_own (_w := w) HR4.out.row HNJ.out (fun b hb hx => by have := V5.out.only.size; omega))
    go_ret
    exact ⟨_, tj, s6, rfl, ⟨HLD.out, V6.out.ps, V6.out.only, HX.out, HLE3.out, HZ.out⟩⟩
   | true =>
    rw [hq] at X8
    obtain ⟨j6, rfl, hg6, ht6⟩ := takeS_yes hq
    rw [ht6] at X8
    have hjl : j6 < L.length := sg_lt (by rw [hg6]; decide)
    have HM7 : Hid (mu L (.ok (j6 + 1)) < n) := Lib.hid (by
     have h1 := HM6.out
     exact Nat.lt_trans (show L.length - (j6 + 1) + 1 < L.length - j6 + 1 by omega) h1)
    have HL7 : Hid (Leads L [.stmt] [] s [.blk, .mk (nd 9) 3] [t1, t2] (.ok (j6 + 1))) := Lib.hid (HL6.out.trans (els_yesF [t1, t2] hg6))
    have HC7 : Hid (t1.length + t2.length + (j0 + 1) ≤ j6) := Lib.hid (by
     have h1 := HL6.out
     rw [HJ0.out] at h1
     have h2 := h1.count
     simp only [cnt, phS, phi] at h2
     omega)
    clear hq hg6 ht6 hjl
    go_wp2_with fail
    refine X8.out.mono ?_
    rintro e v5 ⟨rfl, hp, ho⟩
    have V5 := Lib.hid (V4.out.call hp ho)
    have HR5 : Hid (v5.ownsRow v3.heap.size 23 1 (.slice (some ⟨v3.heap.size, 0, none⟩) 2 2) 2 [Value.slice q1 m1 c1, Value.slice q2 m2 c2]) := Lib.hid (ownsRow_block HLIT.out (fun b hb => ho.block b (Tr.own_lo HLIT.out b hb).2 (by have := (Tr.own_lo HLIT.out b hb).1; have := HG3.out; omega)))
    have HO5 := Lib.hid ho
    clear hp ho X8
    have B6 := Lib.hid (HB.out _ HM7.out g vt _ V5.out.ps)
    go_wp2_with fail
    refine B6.out.mono ?_
    rintro e v6 ⟨u3, t3, s7, rfl, hk⟩
    obtain ⟨q3, m3, c3, rfl⟩ := hk.row.form
    have V6 := Lib.hid (V5.out.call hk.rs hk.only)
    have HS5 : Hid (v3.heap.size < v5.heap.size ∧ v5.heap.size ≤ v6.heap.size) := Lib.hid ⟨by have := HO5.out.size; simp at this; omega, hk.only.size⟩
    have HR6 : Hid ((v6.alloc (.cells #[Value.slice q3 m3 c3] 23)).ownsRow v3.heap.size 23 1 (.slice (some ⟨v3.heap.size, 0, none⟩) 2 2) 2 [Value.slice q1 m1 c1, Value.slice q2 m2 c2]) := Lib.hid ((ownsRow_block HR5.out (fun b hb => hk.only.block b (Tr.own_lo HR5.out b hb).2 (by have := (Tr.own_lo HR5.out b hb).1; have := HG3.out; omega))).alloc _)
    have HY := Lib.hid (World.ownsRow_lit (base := v6.heap.size) (size := 1) (e := 23) v6 #[Value.slice q3 m3 c3] 1 (Nat.le_refl _) (by unfold maxLen; omega) rfl)
    have HV7 : Hid (v3.heap.size ≤ (v6.alloc (.cells #[Value.slice q3 m3 c3] 23)).heap.size) := Lib.hid (by have := HS5.out; simp; omega)
    have HLD : Hid (Leads L [.stmt] [] s [] [join (nd 9) [t1, t2, t3]] s7) := Lib.hid ((HL7.out.trans (hk.leads.over [.mk (nd 9) 3] [t1, t2])).trans (Leads.mk (L := L) (nd 9) [t1, t2, t3] 3 rfl _))
    have HSZF : Hid (t1.length + (t2.length + t3.length) ≤ 4 * (atS s7 - (j0 + 1)) + 4) := Lib.hid (by
     have h1 := HC7.out
     have h2 := hk.len (by decide)
     have h3 : j6 + 1 ≤ atS s7 := hk.le
     have h4 : atS (.ok (j6 + 1)) = j6 + 1 := rfl
     omega)
    have HLEF : Hid (j0 + 1 ≤ atS s7) := Lib.hid (by have h1 := HC7.out; have h3 : j6 + 1 ≤ atS s7 := hk.le; omega)
    have HBG : Hid (t1.length + (t2.length + t3.length) ≤ 10000000) := Lib.hid (by have h1 := HSZF.out; have h2 := hk.rs.le; have h3 := HFEW.out; omega)
    have HKA : Hid (∀ w7, Only (fun k => some v3.heap.size = some k) (v6.alloc (.cells #[Value.slice q3 m3 c3] 23)) w7 → ∀ c ∈ [((Value.slice q1 m1 c1), t1), ((Value.slice q2 m2 c2), t2), ((Value.slice q3 m3 c3), t3)], NdX w7 (fun _ => False) c.1 c.2) := Lib.hid (fun w7 hon c hc => by
     have key : ∀ c ∈ [((Value.slice q1 m1 c1), t1), ((Value.slice q2 m2 c2), t2)], NdX w7 (fun _ => False) c.1 c.2 := fun c hc => by
      have h1 := (HKD.out c hc).only HO5.out (fun i _ hi => .inl hi)
      have h2 := h1.only hk.only (fun i _ hi => .inl hi)
      have h3 := h2.only (Only.of_below (F := fun _ => False) ((Below.refl _ _).alloc (Nat.le_refl _) (.cells #[Value.slice q3 m3 c3] 23))) (fun _ _ h => h.elim)
      exact (h3.only hon (fun i _ hi => .inr (by cases hi; exact Nat.le_refl _))).weaken (fun _ _ h => h.elim)
     rcases List.mem_cons.1 hc with rfl | hc
     · exact key _ (by simp)
     rcases List.mem_cons.1 hc with rfl | hc
     · exact key _ (by simp)
     rw [List.mem_singleton.1 hc]
     have h3 := hk.row.only (Only.of_below (F := fun _ => False) ((Below.refl _ _).alloc (Nat.le_refl _) (.cells #[Value.slice q3 m3 c3] 23))) (fun _ _ h => h.elim)
     exact (h3.only hon (fun i _ hi => by cases hi; exact HS5.out.1)).weaken (fun _ _ h => h.elim))
    have HZ : Hid (Sz 3 s s7 (join (nd 9) [t1, t2, t3]).length) := Lib.hid ⟨fun k hk => (by rw [HJ0.out] at hk; cases hk), fun i k h1 h2 => (by
     have e1 : i = j0 := (by rw [HJ0.out] at h1; cases h1; rfl)
     have e2 : atS s7 = k := (by rw [h2]; rfl)
     have e3 := HSZF.out
     have e4 := HLEF.out
     simp [join]
     omega)⟩
    have HLE3 : Hid (atS s ≤ atS s7) := Lib.hid (by have h1 := HLEF.out; have h2 : atS s = j0 := (by rw [HJ0.out]; rfl); omega)
    have HNJ : Hid (join (nd 9) [t1, t2, t3] ≠ []) := Lib.hid (by simp [join])
    have HJN := Lib.hid (fun v W h => join_any (nd 9) v [((Value.slice q1 m1 c1), t1), ((Value.slice q2 m2 c2), t2), ((Value.slice q3 m3 c3), t3)] W h (by simp) (by simpa using HBG.out))
    simp only [Nd.cells, List.map_cons, List.map_nil] at HJN
    clear hk B6
    generalize join (nd 9) [t1, t2, t3] = tj at *
    go_wp2_with (first
     | (refine wpList_append_kr rfl (.tmp 33) (.tmp 36) 124 rfl i0 Tryz.underlying124 hi0 hy0 hy1 hy2 _ 2 [Value.slice q1 m1 c1, Value.slice q2 m2 c2] rfl HR6.out (by decide) (some ⟨v6.heap.size, 0, none⟩) 1 1 [Value.slice q3 m3 c3] rfl HY.out (by intro u hu; rw [List.mem_singleton.1 hu]; rfl) (by decide) (by decide) HV7.out ?_; intro g7 cap7 w7 hrow hgr; have HON := Lib.hid (Only.of_grown (F := fun k => some v3.heap.size = some k) hgr (fun _ h => h)); have HKS := Lib.hid (KsW.of_own hrow rfl (HKA.out w7 HON.out)); have J1 := Lib.hid (HJN.out _ _ HKS.out); clear hrow hgr)
     | (go_at_call 78; refine J1.out.mono ?_; rintro e v8 ⟨u4, rfl, hr2⟩; have HR8 := Lib.hid hr2; clear hr2))
    have V7 := Lib.hid ((V6.out.alloc (.cells #[Value.slice q3 m3 c3] 23)).own HON.out (fun i hi => by cases hi; have := V3.out.only.size; omega))
    have V8 := Lib.hid (V7.out.below HR8.out.below)
    have HX : Hid (NdX v8 (fun k => k < w.heap.size) u4 tj) := Lib.hid (NdX.of_own (_w := w) HR8.out.row HNJ.out (fun b hb hx => by have := V7.out.only.size; omega))
    go_ret
    exact ⟨_, tj, s7, rfl, ⟨HLD.out, V8.out.ps, V8.out.only, HX.out, HLE3.out, HZ.out⟩⟩
  | false =>
   rw [hq] at X1
   have F1 := Lib.hid hq
   have HTN := takeS_no hq
   rw [HTN] at X1
   clear hq HTN
   go_wp2_with fail
   refine X1.out.mono ?_
   rintro e w2 ⟨rfl, hp, ho⟩
   have O2 := Lib.hid (O1.out.call hp ho)
   clear hp ho X1 O1
   have X2 := Lib.hid (take_any O2.out.ps [119, 104, 105, 108, 101] (by decide))
   cases hq : isS L [119, 104, 105, 108, 101] s with
   | true =>
    rw [hq] at X2
    obtain ⟨j0, hj0, hg0, ht0⟩ := takeS_yes hq
    have HJ0 := Lib.hid hj0
    rw [ht0] at X2
    have hjl : j0 < L.length := sg_lt (by rw [hg0]; decide)
    have HM4 : Hid (mu L (.ok (j0 + 1)) < n) := Lib.hid (by
     have h1 := HMU.out
     rw [hj0] at h1
     exact Nat.lt_trans (show L.length - (j0 + 1) + 1 < L.length - j0 + 1 by omega) h1)
    have HST : Hid (∀ A, stmtA [119, 104, 105, 108, 101] = some A → Leads L [.stmt] [] s A [] (.ok (j0 + 1))) := Lib.hid (fun A hA => by
     rw [hj0]
     exact stmt_key (by rw [hg0]; exact hA))
    have HLE : Hid (atS s ≤ atS (.ok (j0 + 1))) := Lib.hid (by rw [hj0]; exact Nat.le_succ _)
    clear hq hj0 hg0 ht0 hjl
    go_wp2_with fail
    refine X2.out.mono ?_
    rintro e v1 ⟨rfl, hp, ho⟩
    have V1 := Lib.hid (O2.out.call hp ho)
    clear hp ho X2
    have E4 := Lib.hid (HE.out _ HM4.out g vt _ V1.out.ps)
    go_wp2_with fail
    refine E4.out.mono ?_
    rintro e v2 ⟨u1, t1, s5, rfl, hk⟩
    obtain ⟨q1, m1, c1, rfl⟩ := hk.row.form
    have V2 := Lib.hid (V1.out.call hk.rs hk.only)
    have HM5 : Hid (mu L s5 < n) := Lib.hid (Nat.lt_of_le_of_lt (mu_leR hk.leads.aft hk.le) HM4.out)
    have HK1 := Lib.hid hk
    have B4 := Lib.hid (HB.out _ HM5.out g vt _ V2.out.ps)
    clear hk E4
    go_wp2_with fail
    refine B4.out.mono ?_
    rintro e v3 ⟨u2, t2, s6, rfl, hk⟩
    obtain ⟨q2, m2, c2, rfl⟩ := hk.row.form
    have V3 := Lib.hid (V2.out.call hk.rs hk.only)
    have R3 : Hid (NdX v3 (fun k => k < v1.heap.size) (.slice q1 m1 c1) t1) := Lib.hid (HK1.out.row.only hk.only (fun k _ hk => by have := HLT.out; have := V1.out.only.size; omega))
    have HKS : Hid (KsW (v3.alloc (.cells #[Value.slice q1 m1 c1, Value.slice q2 m2 c2] 23)) (fun _ => False) (.slice (some ⟨v3.heap.size, 0, none⟩) 2 2) [(Value.slice q1 m1 c1, t1), (Value.slice q2 m2 c2, t2)]) := Lib.hid (ks_lit (cs := [(Value.slice q1 m1 c1, t1), (Value.slice q2 m2 c2, t2)]) (fun c hc => by
     rcases List.mem_cons.1 hc with rfl | hc
     · exact R3.out.weaken (fun _ _ h => h.elim)
     · rw [List.mem_singleton.1 hc]; exact hk.row.weaken (fun _ _ h => h.elim)) (by simp) _ 2 rfl)
    have HLD : Hid (Leads L [.stmt] [] s [] [join (nd 10) [t1, t2]] s6) := Lib.hid (by
     have h1 := HK1.out.leads.over [.blk, .mk (nd 10) 2] []
     have h2 := hk.leads.over [.mk (nd 10) 2] [t1]
     exact (((HST.out _ rfl).trans h1).trans h2).trans (Leads.mk (L := L) (nd 10) [t1, t2] 2 rfl _))
    have HSZ : Hid (t1.length + t2.length ≤ 4 * (atS s6 - (j0 + 1)) + 4) := Lib.hid (two_len HK1.out hk (Int.le_refl 0) (by decide))
    have HLE2 : Hid (j0 + 1 ≤ atS s6) := Lib.hid (Nat.le_trans HK1.out.le hk.le)
    have J1 := Lib.hid (join_any (nd 10) _ _ _ HKS.out (by simp) (by
     have h1 := HSZ.out; have h2 := hk.rs.le; have h3 := HFEW.out
     simpa using (by omega : t1.length + t2.length ≤ 10000000)))
    simp only [Nd.cells, List.map_cons, List.map_nil] at J1
    have HZ : Hid (Sz 3 s s6 (join (nd 10) [t1, t2]).length) := Lib.hid ⟨fun k hk => (by rw [HJ0.out] at hk; cases hk), fun i k h1 h2 => (by
     have e1 : i = j0 := (by rw [HJ0.out] at h1; cases h1; rfl)
     have e2 : atS s6 = k := (by rw [h2]; rfl)
     have e3 := HSZ.out
     have e4 := HLE2.out
     simp [join]
     omega)⟩
    have HLE3 : Hid (atS s ≤ atS s6) := Lib.hid (by have h1 := HLE2.out; have h2 : atS s = j0 := (by rw [HJ0.out]; rfl); omega)
    have HNJ : Hid (join (nd 10) [t1, t2] ≠ []) := Lib.hid (by simp [join])
    clear hk B4
    generalize join (nd 10) [t1, t2] = tj at *
    go_wp2_with (go_at_call 78; refine J1.out.mono ?_; rintro e v4 ⟨u3, rfl, hr2⟩; have HR4 := Lib.hid hr2; clear hr2)
    have V4 := Lib.hid ((V3.out.alloc (.cells #[Value.slice q1 m1 c1, Value.slice q2 m2 c2] 23)).below HR4.out.below)
    have HX : Hid (NdX v4 (fun k => k < w.heap.size) u3 tj) := Lib.hid (NdX.of_own (_w := w) HR4.out.row HNJ.out (fun b hb hx => by have := V3.out.only.size; simp at hb; omega))
    go_ret
    exact ⟨_, tj, s6, rfl, ⟨HLD.out, V4.out.ps, V4.out.only, HX.out, HLE3.out, HZ.out⟩⟩
   | false =>
    rw [hq] at X2
    have F2 := Lib.hid hq
    have HTN := takeS_no hq
    rw [HTN] at X2
    clear hq HTN
    go_wp2_with fail
    refine X2.out.mono ?_
    rintro e w3 ⟨rfl, hp, ho⟩
    have O3 := Lib.hid (O2.out.call hp ho)
    clear hp ho X2 O2
    have X3 := Lib.hid (take_any O3.out.ps [98, 114, 101, 97, 107] (by decide))
    cases hq : isS L [98, 114, 101, 97, 107] s with
    | true =>
     rw [hq] at X3
     obtain ⟨j0, hj0, hg0, ht0⟩ := takeS_yes hq
     have HJ0 := Lib.hid hj0
     rw [ht0] at X3
     have hjl : j0 < L.length := sg_lt (by rw [hg0]; decide)
     have HM4 : Hid (mu L (.ok (j0 + 1)) < n) := Lib.hid (by
      have h1 := HMU.out
      rw [hj0] at h1
      exact Nat.lt_trans (show L.length - (j0 + 1) + 1 < L.length - j0 + 1 by omega) h1)
     have HST : Hid (∀ A, stmtA [98, 114, 101, 97, 107] = some A → Leads L [.stmt] [] s A [] (.ok (j0 + 1))) := Lib.hid (fun A hA => by
      rw [hj0]
      exact stmt_key (by rw [hg0]; exact hA))
     have HLE : Hid (atS s ≤ atS (.ok (j0 + 1))) := Lib.hid (by rw [hj0]; exact Nat.le_succ _)
     clear hq hj0 hg0 ht0 hjl
     go_wp2_with fail
     refine X3.out.mono ?_
     rintro e v1 ⟨rfl, hp, ho⟩
     have V1 := Lib.hid (O3.out.call hp ho)
     clear hp ho X3
     have X := Lib.hid (must_any V1.out.ps [59] (by decide))
     have HA := Lib.hid (atS_mark L [59] (.ok (j0 + 1)))
     have HLD : Hid (Leads L [.stmt] [] s [] [[nd 11]] (markS L [59] (.ok (j0 + 1)))) := Lib.hid (by
      have h1 := (Leads.mark (L := L) [59] (.ok (j0 + 1))).over [.mk (nd 11) 0] []
      exact ((HST.out _ rfl).trans h1).trans (Leads.mk (L := L) (nd 11) [] 0 rfl _))
     have HLE2 : Hid (atS s ≤ atS (markS L [59] (.ok (j0 + 1)))) := Lib.hid (Nat.le_trans HLE.out HA.out.1)
     generalize markS L [59] (.ok (j0 + 1)) = s5 at *
     go_wp2_with fail
     refine X.out.mono ?_
     rintro e v2 ⟨rfl, hp, ho⟩
     have V2 := Lib.hid (V1.out.call hp ho)
     clear hp ho X
     go_wp2
     go_ret
     exact ⟨_, [nd 11], _, rfl, ⟨HLD.out, (V2.out.alloc _).ps, (V2.out.alloc _).only, one_node (nd 11) 29 (fun hi => by have := V2.out.only.size; omega), HLE2.out, (sz_one HJ0.out).up (by decide)⟩⟩
    | false =>
     rw [hq] at X3
     have F3 := Lib.hid hq
     have HTN := takeS_no hq
     rw [HTN] at X3
     clear hq HTN
     go_wp2_with fail
     refine X3.out.mono ?_
     rintro e w4 ⟨rfl, hp, ho⟩
     have O4 := Lib.hid (O3.out.call hp ho)
     clear hp ho X3 O3
     have X4 := Lib.hid (take_any O4.out.ps [99, 111, 110, 116, 105, 110, 117, 101] (by decide))
     cases hq : isS L [99, 111, 110, 116, 105, 110, 117, 101] s with
     | true =>
      rw [hq] at X4
      obtain ⟨j0, hj0, hg0, ht0⟩ := takeS_yes hq
      have HJ0 := Lib.hid hj0
      rw [ht0] at X4
      have hjl : j0 < L.length := sg_lt (by rw [hg0]; decide)
      have HM4 : Hid (mu L (.ok (j0 + 1)) < n) := Lib.hid (by
       have h1 := HMU.out
       rw [hj0] at h1
       exact Nat.lt_trans (show L.length - (j0 + 1) + 1 < L.length - j0 + 1 by omega) h1)
      have HST : Hid (∀ A, stmtA [99, 111, 110, 116, 105, 110, 117, 101] = some A → Leads L [.stmt] [] s A [] (.ok (j0 + 1))) := Lib.hid (fun A hA => by
       rw [hj0]
       exact stmt_key (by rw [hg0]; exact hA))
      have HLE : Hid (atS s ≤ atS (.ok (j0 + 1))) := Lib.hid (by rw [hj0]; exact Nat.le_succ _)
      clear hq hj0 hg0 ht0 hjl
      go_wp2_with fail
      refine X4.out.mono ?_
      rintro e v1 ⟨rfl, hp, ho⟩
      have V1 := Lib.hid (O4.out.call hp ho)
      clear hp ho X4
      have X := Lib.hid (must_any V1.out.ps [59] (by decide))
      have HA := Lib.hid (atS_mark L [59] (.ok (j0 + 1)))
      have HLD : Hid (Leads L [.stmt] [] s [] [[nd 12]] (markS L [59] (.ok (j0 + 1)))) := Lib.hid (by
       have h1 := (Leads.mark (L := L) [59] (.ok (j0 + 1))).over [.mk (nd 12) 0] []
       exact ((HST.out _ rfl).trans h1).trans (Leads.mk (L := L) (nd 12) [] 0 rfl _))
      have HLE2 : Hid (atS s ≤ atS (markS L [59] (.ok (j0 + 1)))) := Lib.hid (Nat.le_trans HLE.out HA.out.1)
      generalize markS L [59] (.ok (j0 + 1)) = s5 at *
      go_wp2_with fail
      refine X.out.mono ?_
      rintro e v2 ⟨rfl, hp, ho⟩
      have V2 := Lib.hid (V1.out.call hp ho)
      clear hp ho X
      go_wp2
      go_ret
      exact ⟨_, [nd 12], _, rfl, ⟨HLD.out, (V2.out.alloc _).ps, (V2.out.alloc _).only, one_node (nd 12) 29 (fun hi => by have := V2.out.only.size; omega), HLE2.out, (sz_one HJ0.out).up (by decide)⟩⟩
     | false =>
      rw [hq] at X4
      have F4 := Lib.hid hq
      have HTN := takeS_no hq
      rw [HTN] at X4
      clear hq HTN
      go_wp2_with fail
      refine X4.out.mono ?_
      rintro e w5 ⟨rfl, hp, ho⟩
      have O5 := Lib.hid (O4.out.call hp ho)
      clear hp ho X4 O4
      have X5 := Lib.hid (take_any O5.out.ps [121, 105, 101, 108, 100] (by decide))
      cases hq : isS L [121, 105, 101, 108, 100] s with
      | true =>
       rw [hq] at X5
       obtain ⟨j0, hj0, hg0, ht0⟩ := takeS_yes hq
       have HJ0 := Lib.hid hj0
       rw [ht0] at X5
       have hjl : j0 < L.length := sg_lt (by rw [hg0]; decide)
       have HM4 : Hid (mu L (.ok (j0 + 1)) < n) := Lib.hid (by
        have h1 := HMU.out
        rw [hj0] at h1
        exact Nat.lt_trans (show L.length - (j0 + 1) + 1 < L.length - j0 + 1 by omega) h1)
       have HST : Hid (∀ A, stmtA [121, 105, 101, 108, 100] = some A → Leads L [.stmt] [] s A [] (.ok (j0 + 1))) := Lib.hid (fun A hA => by
        rw [hj0]
        exact stmt_key (by rw [hg0]; exact hA))
       have HLE : Hid (atS s ≤ atS (.ok (j0 + 1))) := Lib.hid (by rw [hj0]; exact Nat.le_succ _)
       clear hq hj0 hg0 ht0 hjl
       go_wp2_with fail
       refine X5.out.mono ?_
       rintro e v1 ⟨rfl, hp, ho⟩
       have V1 := Lib.hid (O5.out.call hp ho)
       clear hp ho X5
       have X := Lib.hid (must_any V1.out.ps [59] (by decide))
       have HA := Lib.hid (atS_mark L [59] (.ok (j0 + 1)))
       have HLD : Hid (Leads L [.stmt] [] s [] [[nd 16]] (markS L [59] (.ok (j0 + 1)))) := Lib.hid (by
        have h1 := (Leads.mark (L := L) [59] (.ok (j0 + 1))).over [.mk (nd 16) 0] []
        exact ((HST.out _ rfl).trans h1).trans (Leads.mk (L := L) (nd 16) [] 0 rfl _))
       have HLE2 : Hid (atS s ≤ atS (markS L [59] (.ok (j0 + 1)))) := Lib.hid (Nat.le_trans HLE.out HA.out.1)
       generalize markS L [59] (.ok (j0 + 1)) = s5 at *
       go_wp2_with fail
       refine X.out.mono ?_
       rintro e v2 ⟨rfl, hp, ho⟩
       have V2 := Lib.hid (V1.out.call hp ho)
       clear hp ho X
       go_wp2
       go_ret
       exact ⟨_, [nd 16], _, rfl, ⟨HLD.out, (V2.out.alloc _).ps, (V2.out.alloc _).only, one_node (nd 16) 29 (fun hi => by have := V2.out.only.size; omega), HLE2.out, (sz_one HJ0.out).up (by decide)⟩⟩
      | false =>
       rw [hq] at X5
       have F5 := Lib.hid hq
       have HTN := takeS_no hq
       rw [HTN] at X5
       clear hq HTN
       go_wp2_with fail
       refine X5.out.mono ?_
       rintro e w6 ⟨rfl, hp, ho⟩
       have O6 := Lib.hid (O5.out.call hp ho)
       clear hp ho X5 O5
       have X6 := Lib.hid (take_any O6.out.ps [114, 101, 116, 117, 114, 110] (by decide))
       cases hq : isS L [114, 101, 116, 117, 114, 110] s with
       | true =>
        rw [hq] at X6
        obtain ⟨j0, hj0, hg0, ht0⟩ := takeS_yes hq
        have HJ0 := Lib.hid hj0
        rw [ht0] at X6
        have hjl : j0 < L.length := sg_lt (by rw [hg0]; decide)
        have HM4 : Hid (mu L (.ok (j0 + 1)) < n) := Lib.hid (by
         have h1 := HMU.out
         rw [hj0] at h1
         exact Nat.lt_trans (show L.length - (j0 + 1) + 1 < L.length - j0 + 1 by omega) h1)
        have HST : Hid (∀ A, stmtA [114, 101, 116, 117, 114, 110] = some A → Leads L [.stmt] [] s A [] (.ok (j0 + 1))) := Lib.hid (fun A hA => by
         rw [hj0]
         exact stmt_key (by rw [hg0]; exact hA))
        have HLE : Hid (atS s ≤ atS (.ok (j0 + 1))) := Lib.hid (by rw [hj0]; exact Nat.le_succ _)
        clear hq hj0 hg0 ht0 hjl
        go_wp2_with fail
        refine X6.out.mono ?_
        rintro e v1 ⟨rfl, hp, ho⟩
        have V1 := Lib.hid (O6.out.call hp ho)
        clear hp ho X6
        have HLM : Hid (Leads L [.stmt] [] s [.e 0, .mark [59], .mk (nd 13) 1] [] (.ok (j0 + 1))) := Lib.hid (HST.out _ rfl)
        have HAT : Hid (j0 + 1 ≤ atS (.ok (j0 + 1))) := Lib.hid (Nat.le_refl _)
        have E4 := Lib.hid (HEND.out (nd 13) (.ok (j0 + 1)) HM4.out v1 V1.out.ps)
        simp only [Nd.cells] at E4
        clear HEND
        go_wp2_with fail
        refine E4.out.mono ?_
        rintro e v4 ⟨v, t, s5, rfl, hl, hon, hnd, hle, -, hsz⟩
        have V4 := Lib.hid (V1.out.call hon.ps hon.only)
        have HLD : Hid (Leads L [.stmt] [] s [] [t] s5) := Lib.hid (HLM.out.trans hl)
        have R4 : Hid (NdX v4 (fun k => k < w.heap.size) v t) := Lib.hid (hnd.weaken (fun i _ hi => by have := V1.out.only.size; omega))
        have HLE2 : Hid (atS s ≤ atS s5) := Lib.hid (by have h1 := HAT.out; have h2 : atS s = j0 := (by rw [HJ0.out]; rfl); omega)
        have HZ : Hid (Sz 3 s s5 t.length) := Lib.hid ⟨fun k hk => (by rw [HJ0.out] at hk; cases hk), fun i k h1 h2 => (by
         have e1 : i = j0 := (by rw [HJ0.out] at h1; cases h1; rfl)
         have e2 : atS s5 = k := (by rw [h2]; rfl)
         have e3 := HAT.out
         omega)⟩
        clear hl hon hnd hle hsz E4
        obtain ⟨up, un, uc, rfl⟩ := R4.out.form
        go_wp2
        go_ret
        exact ⟨_, t, s5, rfl, ⟨HLD.out, V4.out.ps, V4.out.only, R4.out, HLE2.out, HZ.out⟩⟩
       | false =>
        rw [hq] at X6
        have F6 := Lib.hid hq
        have HTN := takeS_no hq
        rw [HTN] at X6
        clear hq HTN
        go_wp2_with fail
        refine X6.out.mono ?_
        rintro e w7 ⟨rfl, hp, ho⟩
        have O7 := Lib.hid (O6.out.call hp ho)
        clear hp ho X6 O6
        have X7 := Lib.hid (take_any O7.out.ps [112, 117, 116] (by decide))
        cases hq : isS L [112, 117, 116] s with
        | true =>
         rw [hq] at X7
         obtain ⟨j0, hj0, hg0, ht0⟩ := takeS_yes hq
         have HJ0 := Lib.hid hj0
         rw [ht0] at X7
         have hjl : j0 < L.length := sg_lt (by rw [hg0]; decide)
         have HM4 : Hid (mu L (.ok (j0 + 1)) < n) := Lib.hid (by
          have h1 := HMU.out
          rw [hj0] at h1
          exact Nat.lt_trans (show L.length - (j0 + 1) + 1 < L.length - j0 + 1 by omega) h1)
         have HST : Hid (∀ A, stmtA [112, 117, 116] = some A → Leads L [.stmt] [] s A [] (.ok (j0 + 1))) := Lib.hid (fun A hA => by
          rw [hj0]
          exact stmt_key (by rw [hg0]; exact hA))
         have HLE : Hid (atS s ≤ atS (.ok (j0 + 1))) := Lib.hid (by rw [hj0]; exact Nat.le_succ _)
         clear hq hj0 hg0 ht0 hjl
         go_wp2_with fail
         refine X7.out.mono ?_
         rintro e v1 ⟨rfl, hp, ho⟩
         have V1 := Lib.hid (O7.out.call hp ho)
         clear hp ho X7
         have HLM : Hid (Leads L [.stmt] [] s [.e 0, .mark [59], .mk (nd 14) 1] [] (.ok (j0 + 1))) := Lib.hid (HST.out _ rfl)
         have HAT : Hid (j0 + 1 ≤ atS (.ok (j0 + 1))) := Lib.hid (Nat.le_refl _)
         have E4 := Lib.hid (HEND.out (nd 14) (.ok (j0 + 1)) HM4.out v1 V1.out.ps)
         simp only [Nd.cells] at E4
         clear HEND
         go_wp2_with fail
         refine E4.out.mono ?_
         rintro e v4 ⟨v, t, s5, rfl, hl, hon, hnd, hle, -, hsz⟩
         have V4 := Lib.hid (V1.out.call hon.ps hon.only)
         have HLD : Hid (Leads L [.stmt] [] s [] [t] s5) := Lib.hid (HLM.out.trans hl)
         have R4 : Hid (NdX v4 (fun k => k < w.heap.size) v t) := Lib.hid (hnd.weaken (fun i _ hi => by have := V1.out.only.size; omega))
         have HLE2 : Hid (atS s ≤ atS s5) := Lib.hid (by have h1 := HAT.out; have h2 : atS s = j0 := (by rw [HJ0.out]; rfl); omega)
         have HZ : Hid (Sz 3 s s5 t.length) := Lib.hid ⟨fun k hk => (by rw [HJ0.out] at hk; cases hk), fun i k h1 h2 => (by
          have e1 : i = j0 := (by rw [HJ0.out] at h1; cases h1; rfl)
          have e2 : atS s5 = k := (by rw [h2]; rfl)
          have e3 := HAT.out
          omega)⟩
         clear hl hon hnd hle hsz E4
         obtain ⟨up, un, uc, rfl⟩ := R4.out.form
         go_wp2
         go_ret
         exact ⟨_, t, s5, rfl, ⟨HLD.out, V4.out.ps, V4.out.only, R4.out, HLE2.out, HZ.out⟩⟩
        | false =>
         rw [hq] at X7
         have F7 := Lib.hid hq
         have HTN := takeS_no hq
         rw [HTN] at X7
         clear hq HTN
         go_wp2_with fail
         refine X7.out.mono ?_
         rintro e w8 ⟨rfl, hp, ho⟩
         have O8 := Lib.hid (O7.out.call hp ho)
         clear hp ho X7 O7
         have X8 := Lib.hid (take_any O8.out.ps [101, 109, 105, 116] (by decide))
         cases hq : isS L [101, 109, 105, 116] s with
         | true =>
          rw [hq] at X8
          obtain ⟨j0, hj0, hg0, ht0⟩ := takeS_yes hq
          have HJ0 := Lib.hid hj0
          rw [ht0] at X8
          have hjl : j0 < L.length := sg_lt (by rw [hg0]; decide)
          have HM4 : Hid (mu L (.ok (j0 + 1)) < n) := Lib.hid (by
           have h1 := HMU.out
           rw [hj0] at h1
           exact Nat.lt_trans (show L.length - (j0 + 1) + 1 < L.length - j0 + 1 by omega) h1)
          have HST : Hid (∀ A, stmtA [101, 109, 105, 116] = some A → Leads L [.stmt] [] s A [] (.ok (j0 + 1))) := Lib.hid (fun A hA => by
           rw [hj0]
           exact stmt_key (by rw [hg0]; exact hA))
          have HLE : Hid (atS s ≤ atS (.ok (j0 + 1))) := Lib.hid (by rw [hj0]; exact Nat.le_succ _)
          clear hq hj0 hg0 ht0 hjl
          go_wp2_with fail
          refine X8.out.mono ?_
          rintro e v1 ⟨rfl, hp, ho⟩
          have V1 := Lib.hid (O8.out.call hp ho)
          clear hp ho X8
          have HLM : Hid (Leads L [.stmt] [] s [.e 0, .mark [59], .mk (nd 15) 1] [] (.ok (j0 + 1))) := Lib.hid (HST.out _ rfl)
          have HAT : Hid (j0 + 1 ≤ atS (.ok (j0 + 1))) := Lib.hid (Nat.le_refl _)
          have E4 := Lib.hid (HEND.out (nd 15) (.ok (j0 + 1)) HM4.out v1 V1.out.ps)
          simp only [Nd.cells] at E4
          clear HEND
          go_wp2_with fail
          refine E4.out.mono ?_
          rintro e v4 ⟨v, t, s5, rfl, hl, hon, hnd, hle, -, hsz⟩
          have V4 := Lib.hid (V1.out.call hon.ps hon.only)
          have HLD : Hid (Leads L [.stmt] [] s [] [t] s5) := Lib.hid (HLM.out.trans hl)
          have R4 : Hid (NdX v4 (fun k => k < w.heap.size) v t) := Lib.hid (hnd.weaken (fun i _ hi => by have := V1.out.only.size; omega))
          have HLE2 : Hid (atS s ≤ atS s5) := Lib.hid (by have h1 := HAT.out; have h2 : atS s = j0 := (by rw [HJ0.out]; rfl); omega)
          have HZ : Hid (Sz 3 s s5 t.length) := Lib.hid ⟨fun k hk => (by rw [HJ0.out] at hk; cases hk), fun i k h1 h2 => (by
           have e1 : i = j0 := (by rw [HJ0.out] at h1; cases h1; rfl)
           have e2 : atS s5 = k := (by rw [h2]; rfl)
           have e3 := HAT.out
           omega)⟩
          clear hl hon hnd hle hsz E4
          obtain ⟨up, un, uc, rfl⟩ := R4.out.form
          go_wp2
          go_ret
          exact ⟨_, t, s5, rfl, ⟨HLD.out, V4.out.ps, V4.out.only, R4.out, HLE2.out, HZ.out⟩⟩
         | false =>
          rw [hq] at X8
          have F8 := Lib.hid hq
          have HTN := takeS_no hq
          rw [HTN] at X8
          clear hq HTN
          go_wp2_with fail
          refine X8.out.mono ?_
          rintro e w9 ⟨rfl, hp, ho⟩
          have O9 := Lib.hid (O8.out.call hp ho)
          clear hp ho X8 O8
          have HS9 : Hid (Leads L [.stmt] [] s [.e 0, .asg] [] s) := Lib.hid (by
           have hj : ∃ j, s = .ok j := by
            cases s with
            | bad k => exact absurd HBD.out (by intro h; cases h)
            | ok j => exact ⟨j, rfl⟩
           obtain ⟨j, rfl⟩ := hj
           refine stmt_else (s := .ok j) ?_
           show stmtA (sg L j) = none
           unfold stmtA
           rw [if_neg (sg_not F0.out), if_neg (sg_not F1.out), if_neg (sg_not F2.out), if_neg (sg_not F3.out), if_neg (sg_not F4.out), if_neg (sg_not F5.out), if_neg (sg_not F6.out), if_neg (sg_not F7.out), if_neg (sg_not F8.out)])
          clear F0 F1 F2 F3 F4 F5 F6 F7 F8
          have E4 := Lib.hid (HE.out _ HMU.out g vt _ O9.out.ps)
          go_wp2_with fail
          refine E4.out.mono ?_
          rintro e v1 ⟨u, t, s5, rfl, hk⟩
          obtain ⟨q1, m1, c1, rfl⟩ := hk.row.form
          have V1 := Lib.hid (O9.out.call hk.rs hk.only)
          have HK := Lib.hid hk
          have HL5 : Hid (Leads L [.stmt] [] s [.asg] [t] s5) := Lib.hid (HS9.out.trans (hk.leads.over [.asg] []))
          clear hk E4
          have c2 := V1.out.ps.at.2.2
          cases hb : isBad s5 with
          | true =>
           rw [hb] at c2
           have HNO : Hid (isS L [61] s5 = false) := Lib.hid (by
            cases s5 with
            | ok j => cases hb
            | bad k => rfl)
           have R1 := Lib.hid HK.out.row
           clear hb
           have X := Lib.hid (must_any V1.out.ps [59] (by decide))
           have HA := Lib.hid (atS_mark L [59] s5)
           have HLD : Hid (Leads L [.stmt] [] s [] [join (nd 17) [t]] (markS L [59] s5)) := Lib.hid (by
            have h1 := HL5.out.trans (asg_noF t HNO.out)
            have h2 := (Leads.mark (L := L) [59] s5).over [.mk (nd 17) 1] [t]
            exact (h1.trans h2).trans (Leads.mk (L := L) (nd 17) [t] 1 rfl _))
           have HLE2 : Hid (atS s ≤ atS (markS L [59] s5)) := Lib.hid (Nat.le_trans HK.out.le HA.out.1)
           have HZ : Hid (Sz 3 s (markS L [59] s5) (join (nd 17) [t]).length) := Lib.hid (by
            refine ⟨fun k hk => absurd HBD.out (by rw [hk]; intro h; cases h), fun i k h1 h2 => ?_⟩
            have e2 : atS (markS L [59] s5) = k := by rw [h2]; rfl
            have e3 := HA.out.1
            have e4 : t.length ≤ 4 * (atS s5 - i) + 2 := by
             have h5 := HK.out
             rw [h1] at h5
             cases hs5 : s5 with
             | bad k5 => exact h5.size.2 i k5 rfl hs5
             | ok j5 =>
              rw [hs5] at h5
              have h6 := Leads.few h5.leads (Int.le_refl 0)
              show t.length ≤ 4 * (j5 - i) + 2
              omega
            simp [join]
            omega)
           generalize markS L [59] s5 = s6 at *
           go_wp2_with fail
           refine X.out.mono ?_
           rintro e v3 ⟨rfl, hp, ho⟩
           have V3 := Lib.hid (V1.out.call hp ho)
           have R3 : Hid (NdX v3 (fun _ => False) (.slice q1 m1 c1) t) := Lib.hid ((R1.out.only ho (fun k _ hk => by have := HLT.out; have := O9.out.only.size; omega)).weaken (fun _ _ h => h.elim))
           clear hp ho X
           have J1 := Lib.hid (join_any (nd 17) _ [((Value.slice q1 m1 c1), t)] _ (ks_lit (W := v3) (cs := [((Value.slice q1 m1 c1), t)]) (fun c hc => by rw [List.mem_singleton.1 hc]; exact R3.out) (by simp) 23 1 rfl) (by simp) (by
            have h1 := HK.out.len (Int.le_refl 0); have h2 := HK.out.rs.le; have h3 := HFEW.out
            simpa using (by omega : t.length ≤ 10000000)))
           simp only [Nd.cells, List.map_cons, List.map_nil] at J1
           go_wp2_with (go_at_call 78; refine J1.out.mono ?_; rintro e v4 ⟨u3, rfl, hr2⟩; have HR4 := Lib.hid hr2; clear hr2)
           have V4 := Lib.hid ((V3.out.alloc (.cells #[Value.slice q1 m1 c1] 23)).below HR4.out.below)
           have HX : Hid (NdX v4 (fun k => k < w.heap.size) u3 (join (nd 17) [t])) := Lib.hid (NdX.of_own (_w := w) HR4.out.row (by simp [join]) (fun b hb hx => by have := V3.out.only.size; simp at hb; omega))
           go_ret
           exact ⟨_, _, s6, rfl, ⟨HLD.out, V4.out.ps, V4.out.only, HX.out, HLE2.out, HZ.out⟩⟩
          | false =>
           rw [hb] at c2
           have HI := Lib.hid (is_any V1.out.ps [61] (by decide))
           cases hq : isS L [61] s5 with
           | false =>
            rw [hq] at HI
            have HNO := Lib.hid hq
            clear hb hq
            go_wp2_with fail
            refine HI.out.mono ?_
            rintro e v2 ⟨rfl, hb2⟩
            have V2 := Lib.hid (V1.out.below hb2)
            have R2 := Lib.hid (HK.out.row.only (Only.of_below (F := fun _ => False) hb2) (fun _ _ h => h.elim))
            clear hb2 HI
            have X := Lib.hid (must_any V2.out.ps [59] (by decide))
            have HA := Lib.hid (atS_mark L [59] s5)
            have HLD : Hid (Leads L [.stmt] [] s [] [join (nd 17) [t]] (markS L [59] s5)) := Lib.hid (by
             have h1 := HL5.out.trans (asg_noF t HNO.out)
             have h2 := (Leads.mark (L := L) [59] s5).over [.mk (nd 17) 1] [t]
             exact (h1.trans h2).trans (Leads.mk (L := L) (nd 17) [t] 1 rfl _))
            have HLE2 : Hid (atS s ≤ atS (markS L [59] s5)) := Lib.hid (Nat.le_trans HK.out.le HA.out.1)
            have HZ : Hid (Sz 3 s (markS L [59] s5) (join (nd 17) [t]).length) := Lib.hid (by
             refine ⟨fun k hk => absurd HBD.out (by rw [hk]; intro h; cases h), fun i k h1 h2 => ?_⟩
             have e2 : atS (markS L [59] s5) = k := by rw [h2]; rfl
             have e3 := HA.out.1
             have e4 : t.length ≤ 4 * (atS s5 - i) + 2 := by
              have h5 := HK.out
              rw [h1] at h5
              cases hs5 : s5 with
              | bad k5 => exact h5.size.2 i k5 rfl hs5
              | ok j5 =>
               rw [hs5] at h5
               have h6 := Leads.few h5.leads (Int.le_refl 0)
               show t.length ≤ 4 * (j5 - i) + 2
               omega
             simp [join]
             omega)
            generalize markS L [59] s5 = s6 at *
            go_wp2_with fail
            refine X.out.mono ?_
            rintro e v3 ⟨rfl, hp, ho⟩
            have V3 := Lib.hid (V2.out.call hp ho)
            have R3 : Hid (NdX v3 (fun _ => False) (.slice q1 m1 c1) t) := Lib.hid ((R2.out.only ho (fun k _ hk => by have := HLT.out; have := O9.out.only.size; omega)).weaken (fun _ _ h => h.elim))
            clear hp ho X
            have J1 := Lib.hid (join_any (nd 17) _ [((Value.slice q1 m1 c1), t)] _ (ks_lit (W := v3) (cs := [((Value.slice q1 m1 c1), t)]) (fun c hc => by rw [List.mem_singleton.1 hc]; exact R3.out) (by simp) 23 1 rfl) (by simp) (by
             have h1 := HK.out.len (Int.le_refl 0); have h2 := HK.out.rs.le; have h3 := HFEW.out
             simpa using (by omega : t.length ≤ 10000000)))
            simp only [Nd.cells, List.map_cons, List.map_nil] at J1
            go_wp2_with (go_at_call 78; refine J1.out.mono ?_; rintro e v4 ⟨u3, rfl, hr2⟩; have HR4 := Lib.hid hr2; clear hr2)
            have V4 := Lib.hid ((V3.out.alloc (.cells #[Value.slice q1 m1 c1] 23)).below HR4.out.below)
            have HX : Hid (NdX v4 (fun k => k < w.heap.size) u3 (join (nd 17) [t])) := Lib.hid (NdX.of_own (_w := w) HR4.out.row (by simp [join]) (fun b hb hx => by have := V3.out.only.size; simp at hb; omega))
            go_ret
            exact ⟨_, _, s6, rfl, ⟨HLD.out, V4.out.ps, V4.out.only, HX.out, HLE2.out, HZ.out⟩⟩
           | true =>
            rw [hq] at HI
            obtain ⟨j5, rfl, hg5, ht5⟩ := takeS_yes hq
            have HG5 := Lib.hid hg5
            have hjl : j5 < L.length := sg_lt (by rw [hg5]; decide)
            have HS0 : Hid (∃ i0, s = .ok i0 ∧ i0 ≤ j5) := Lib.hid (by
             have h1 := HK.out.le
             cases hs : s with
             | bad k => exact absurd HBD.out (by rw [hs]; intro h; cases h)
             | ok i => rw [hs] at h1; exact ⟨i, rfl, h1⟩)
            have HM6 : Hid (mu L (.ok (j5 + 1)) < n) := Lib.hid (by
             obtain ⟨i0, hi0, h1⟩ := HS0.out
             have h2 := HMU.out
             rw [hi0] at h2
             exact Nat.lt_of_le_of_lt (show L.length - (j5 + 1) + 1 ≤ L.length - i0 + 1 by omega) h2)
            have HTO : Hid (Tok K t) := Lib.hid (by
             obtain ⟨i0, hi0, h1⟩ := HS0.out
             have h2 := HK.out.leads
             rw [hi0] at h2
             exact Leads.tok HTK.out h2 trivial)
            have HMS : Hid (markS L [61] (.ok j5) = .ok (j5 + 1)) := Lib.hid (if_pos hg5)
            cases t with
            | nil => exact absurd HTO.out.whole (by decide)
            | cons x b =>
                          clear hb hq hg5 ht5
                          go_wp2_with fail
                          refine HI.out.mono ?_
                          rintro e v2 ⟨rfl, hb2⟩
                          have V2 := Lib.hid (V1.out.below hb2)
                          have R2 := Lib.hid (HK.out.row.only (Only.of_below (F := fun _ => False) hb2) (fun _ _ h => h.elim))
                          clear hb2 HI
                          obtain ⟨bb, o, hq1, hbb⟩ := cell_of R2.out
                          obtain ⟨rfl, rfl⟩ : q1 = some ⟨bb, o, none⟩ ∧ m1 = b.length + 1 := hq1
                          have hc0 := (hbb v2 R2.out).1
                          have z1 : (0 : Int) < ((b.length + 1 : Nat) : Int) := by omega
                          have X6 := Lib.hid (must_any V2.out.ps [61] (by decide))
                          rw [HMS.out] at X6
                          by_cases hx : x.kind = 21
                          · have y1 : (x.kind == 21) = true := by rw [hx]; rfl
                            have HLM : Hid (Leads L [.stmt] [] s [.e 0, .mark [59], .mk { nd 7 with name := x.name } 1] [] (.ok (j5 + 1))) := Lib.hid (HL5.out.trans (asg_nameF b hx HG5.out))
                            clear hx
                            go_wp2_with fail
                            refine X6.out.mono ?_
                            rintro e v3 ⟨rfl, hp, ho⟩
                            have V3 := Lib.hid (V2.out.call hp ho)
                            have R3 := Lib.hid (R2.out.only ho (fun k _ hk => by have := HLT.out; have := O9.out.only.size; omega))
                            have hc3 := (hbb v3 R3.out).2
                            clear hp ho X6 hc0
                            have E4 := Lib.hid (HEND.out { nd 7 with name := x.name } (.ok (j5 + 1)) HM6.out v3 V3.out.ps)
                            simp only [Nd.cells] at E4
                            clear HEND
                            go_wp2_with fail
                            refine E4.out.mono ?_
                            rintro e v4 ⟨v, t, s6, rfl, hl, hon, hnd, hle, -, hsz⟩
                            have V4 := Lib.hid (V3.out.call hon.ps hon.only)
                            have HLD : Hid (Leads L [.stmt] [] s [] [t] s6) := Lib.hid (HLM.out.trans hl)
                            have R4 : Hid (NdX v4 (fun k => k < w.heap.size) v t) := Lib.hid (hnd.weaken (fun i _ hi => by have := V3.out.only.size; omega))
                            have hle2 : j5 + 1 ≤ atS s6 := hle
                            have HLE2 : Hid (atS s ≤ atS s6) := Lib.hid (by
                              obtain ⟨i0, hi0, h1⟩ := HS0.out
                              have h2 : atS s = i0 := (by rw [hi0]; rfl)
                              omega)
                            have HZ : Hid (Sz 3 s s6 t.length) := Lib.hid ⟨fun k hk => absurd HBD.out (by rw [hk]; intro h; cases h), fun i k h1 h2 => (by
                              obtain ⟨i0, hi0, h4⟩ := HS0.out
                              have e1 : i = i0 := (by rw [hi0] at h1; cases h1; rfl)
                              have e2 : atS s6 = k := (by rw [h2]; rfl)
                              have e3 : atS (.ok (j5 + 1)) = j5 + 1 := rfl
                              omega)⟩
                            clear hl hon hnd hle hle2 hsz E4
                            obtain ⟨up, un, uc, rfl⟩ := R4.out.form
                            go_wp2
                            go_ret
                            exact ⟨_, t, s6, rfl, ⟨HLD.out, V4.out.ps, V4.out.only, R4.out, HLE2.out, HZ.out⟩⟩
                          · have y1 : (x.kind == 21) = false := by rw [beq_eq_false_iff_ne]; exact hx
                            by_cases hx2 : x.kind = 26
                            · have y2 : (x.kind != 26) = false := by rw [hx2]; rfl
                              have HLM : Hid (Leads L [.stmt] [] s [.e 0, .mark [59], .mk (nd 8) 3] [b.take (firstZ b), b.drop (firstZ b)] (.ok (j5 + 1))) := Lib.hid (HL5.out.trans (asg_idxF b hx2 HG5.out))
                              have HTW := Lib.hid (two_kids HTO.out hx2)
                              have HT12 : Hid (b.take (firstZ b) ≠ [] ∧ b.drop (firstZ b) ≠ [] ∧ (b.take (firstZ b)).length + (b.drop (firstZ b)).length = b.length) := Lib.hid (by
                                obtain ⟨k1, k2⟩ := tok_two HTO.out hx2
                                refine ⟨fun e => ?_, fun e => ?_, ?_⟩
                                · have h1 := (endW_le _ _ _ k1.whole).1
                                  rw [e] at h1; exact absurd h1 (by decide)
                                · have h1 := (endW_le _ _ _ k2.whole).1
                                  rw [e] at h1; exact absurd h1 (by decide)
                                · rw [← List.length_append, List.take_append_drop])
                              have HCN : Hid (b.length + 1 ≤ j5 ∧ ∀ i0, s = .ok i0 → b.length + 1 + i0 ≤ j5) := Lib.hid (by
                                have key : ∀ i0, s = .ok i0 → b.length + 1 + i0 ≤ j5 := fun i0 hi0 => by
                                  have h2 := HK.out.leads
                                  rw [hi0] at h2
                                  have h3 := Leads.few h2 (Int.le_refl 0)
                                  rw [List.length_cons] at h3
                                  exact h3
                                obtain ⟨i0, hi0, h1⟩ := HS0.out
                                exact ⟨by have := key i0 hi0; omega, key⟩)
                              have HLEN : Hid ((x :: b).length ≤ 4000) := Lib.hid (by
                                have h1 := HCN.out.1; have h2 := H4K.out
                                rw [List.length_cons]; omega)
                              have HFIT : Hid (Fit (x :: b)) := Lib.hid (whole_fit HTO.out.whole (by have := HLEN.out; omega))
                              generalize b.take (firstZ b) = T1 at *
                              generalize b.drop (firstZ b) = T2 at *
                              generalize hZ : ((1 + firstZ b : Nat) : Int) = Z at *
                              clear hx hx2 hZ
                              go_wp2_with fail
                              refine X6.out.mono ?_
                              rintro e v3 ⟨rfl, hp, ho⟩
                              have V3 := Lib.hid (V2.out.call hp ho)
                              have R3 := Lib.hid (R2.out.only ho (fun k _ hk => by have := HLT.out; have := O9.out.only.size; omega))
                              clear hp ho X6 hc0
                              have E4 := Lib.hid (HE.out _ HM6.out g vt _ V3.out.ps)
                              go_wp2_with fail
                              refine E4.out.mono ?_
                              rintro e v4 ⟨u2, t2, s6, rfl, hk⟩
                              obtain ⟨q2, m2, c2', rfl⟩ := hk.row.form
                              have V4 := Lib.hid (V3.out.call hk.rs hk.only)
                              have R4 : Hid (NdX v4 (fun k => k = g) (.slice (some ⟨bb, o, none⟩) (b.length + 1) c1) (x :: b)) := Lib.hid ((R3.out.only hk.only (fun k _ hk => by have := HLT.out; have := O9.out.only.size; omega)).weaken (fun i _ hi => by have := HLT.out; have := O9.out.only.size; omega))
                              have R4b : Hid (NdX v4 (fun k => k = g) (.slice q2 m2 c2') t2) := Lib.hid (hk.row.weaken (fun i hi h => by have := HLT.out; have := V3.out.only.size; omega))
                              have HK2 := Lib.hid hk
                              clear hk E4
                              have X7 := Lib.hid (must_any V4.out.ps [59] (by decide))
                              have HA := Lib.hid (atS_mark L [59] s6)
                              have HLD : Hid (Leads L [.stmt] [] s [] [join (nd 8) [T1, T2, t2]] (markS L [59] s6)) := Lib.hid (by
                                have h1 := HLM.out.trans (HK2.out.leads.over [.mark [59], .mk (nd 8) 3] [T1, T2])
                                have h2 := (Leads.mark (L := L) [59] s6).over [.mk (nd 8) 3] [T1, T2, t2]
                                exact (h1.trans h2).trans (Leads.mk (L := L) (nd 8) [T1, T2, t2] 3 rfl _))
                              have hle2 : j5 + 1 ≤ atS s6 := HK2.out.le
                              have HLE2 : Hid (atS s ≤ atS (markS L [59] s6)) := Lib.hid (by
                                obtain ⟨i0, hi0, h1⟩ := HS0.out
                                have h2 : atS s = i0 := (by rw [hi0]; rfl)
                                have h3 := HA.out.1
                                omega)
                              have HT2 : Hid (t2.length ≤ 4 * (atS s6 - (j5 + 1)) + 3) := Lib.hid (by
                                have h2 := HK2.out.len (Int.le_refl 0)
                                exact h2)
                              have HZ : Hid (Sz 3 s (markS L [59] s6) (join (nd 8) [T1, T2, t2]).length) := Lib.hid ⟨fun k hk => absurd HBD.out (by rw [hk]; intro h; cases h), fun i k h1 h2 => (by
                                have e1 := HCN.out.2 i h1
                                have e2 : atS (markS L [59] s6) = k := by rw [h2]; rfl
                                have e3 := HA.out.1
                                have e4 := HT12.out.2.2
                                have e5 := HT2.out
                                simp only [join, List.length_cons, List.flatten_cons, List.flatten_nil, List.length_append, List.length_nil]
                                omega)⟩
                              clear hle2
                              generalize markS L [59] s6 = s7 at *
                              go_wp2_with fail
                              refine X7.out.mono ?_
                              rintro e v5 ⟨rfl, hp, ho⟩
                              have V5 := Lib.hid (V4.out.call hp ho)
                              have R5 := Lib.hid (R4.out.only ho (fun k _ hk => hk))
                              have R5b := Lib.hid (R4b.out.only ho (fun k _ hk => hk))
                              clear hp ho X7
                              have CK := Lib.hid (rkids_any (x :: b) _ 0 v5 (R5.out.nds HFIT.out) HLEN.out)
                              go_wp2_with fail
                              refine CK.out.mono ?_
                              rintro e v6 ⟨kv, rfl, hir⟩
                              rw [HTW.out.1] at hir
                              have hkr : v6.ownsRow v5.heap.size 3 1 kv 2 [.int .i64 1, .int .i64 Z] := hir.row
                              obtain ⟨gk, ck, rfl⟩ := Tr.own_form hkr (by decide)
                              have hrk := ownsRow_range hkr
                              have HGK := Lib.hid (Tr.own_lo hkr gk rfl)
                              have k0 : v6.cell? ⟨gk, 0, none⟩ = some (.int .i64 1) := hrk 0 _ rfl
                              have k1 : v6.cell? ⟨gk, 1, none⟩ = some (.int .i64 Z) := hrk 1 _ rfl
                              have V6 := Lib.hid (V5.out.below hir.below)
                              have R6 := Lib.hid (R5.out.only (Only.of_below (F := fun _ => False) hir.below) (fun _ _ h => h.elim))
                              have R6b := Lib.hid (R5b.out.only (Only.of_below (F := fun _ => False) hir.below) (fun _ _ h => h.elim))
                              have S1 : Hid (∀ W, Below v6.heap.size v6 W → Calls Tryz.prog 206 #[.slice (some ⟨bb, o, none⟩) (b.length + 1) c1, .int .i64 1] W fun e w' => ∃ v, e = .returned v ∧ NR W w' v T1) := Lib.hid (fun W hb => by
                                have := rsub_any (x :: b) _ 1 W ((R6.out.nds HFIT.out).later hb) HLEN.out
                                unfold SubOk at this
                                rw [HTW.out.2.1] at this
                                exact this)
                              have S2 : Hid (∀ W, Below v6.heap.size v6 W → Calls Tryz.prog 206 #[.slice (some ⟨bb, o, none⟩) (b.length + 1) c1, .int .i64 Z] W fun e w' => ∃ v, e = .returned v ∧ NR W w' v T2) := Lib.hid (fun W hb => by
                                have := rsub_any (x :: b) _ Z W ((R6.out.nds HFIT.out).later hb) HLEN.out
                                unfold SubOk at this
                                rw [HTW.out.2.2] at this
                                exact this)
                              have M0 : Hid True := Lib.hid trivial
                              clear hir hkr hrk CK R5 R5b R4 R4b R3 R2 HTW
                              go_upto_region 43 with fail
                              go_region_law (first
                                | (clear M0; go_simp; go_at_call 206; refine (S1.out v6.drew (Below.refl v6.heap.size v6).drew).mono ?_; rintro e w7 ⟨va, rfl, hna⟩; have HNA := Lib.hid (NdX.of_own (_w := w) (X := fun _ => False) hna.row HT12.out.1 (fun _ _ h => h)); have HB7 : Hid (Below v6.heap.size v6 w7) := Lib.hid (chain2 (Below.refl v6.heap.size v6).drew hna.below); obtain ⟨pa, na, ca, rfl⟩ := HNA.out.form; have k1b : w7.cell? ⟨gk, 1, none⟩ = some (.int .i64 Z) := (World.cell?_of_block (a := ⟨gk, 1, none⟩) (HB7.out.block gk HGK.out.2)).trans k1; clear hna)
                                | (go_simp; go_at_call 206; refine (S2.out _ HB7.out).mono ?_; rintro e w8 ⟨vb, rfl, hnb⟩; have HNB := Lib.hid (NdX.of_own (_w := w) (X := fun _ => False) hnb.row HT12.out.2.1 (fun _ _ h => h)); have HB8 := Lib.hid hnb.below; obtain ⟨pb, nb, cb, rfl⟩ := HNB.out.form; have J1 := Lib.hid (join_any (nd 8) _ [((Value.slice pa na ca), T1), ((Value.slice pb nb cb), T2), ((Value.slice q2 m2 c2'), t2)] _ (ks_lit (W := w8) (fun c hc => by
                                      simp only [List.mem_cons, List.not_mem_nil, or_false] at hc
                                      rcases hc with rfl | rfl | rfl
                                      · exact HNA.out.only (Only.of_below (F := fun _ => False) HB8.out) (fun _ _ h => h)
                                      · exact HNB.out
                                      · exact ((R6b.out.only (Only.of_below (F := fun _ => False) HB7.out) (fun _ _ h => h.elim)).only (Only.of_below (F := fun _ => False) HB8.out) (fun _ _ h => h.elim)).weaken (fun _ _ h => h.elim)) (by simp) 23 3 rfl) (by simp) (by
                                      have h1 := HT12.out.2.2; have h2 := HT2.out; have h3 := HCN.out.1; have h4 := HK2.out.rs.le; have h5 := HFEW.out
                                      simpa using (by omega : T1.length + (T2.length + t2.length) ≤ 10000000))); simp only [Nd.cells, List.map_cons, List.map_nil] at J1; clear hnb)
                                | (go_simp; go_at_call 78; refine J1.out.mono ?_; rintro e w9 ⟨u3, rfl, hr2⟩; have HR4 := Lib.hid hr2; clear hr2))
                              all_goals
                                have V8 := Lib.hid ((((V6.out.below HB7.out).below HB8.out).alloc (.cells #[Value.slice pa na ca, Value.slice pb nb cb, Value.slice q2 m2 c2'] 23)).below HR4.out.below)
                                have HX : Hid (NdX w9 (fun k => k < w.heap.size) u3 (join (nd 8) [T1, T2, t2])) := Lib.hid (NdX.of_own (_w := w) HR4.out.row (by simp [join]) (fun b hb hx => by have := ((V6.out.below HB7.out).below HB8.out).only.size; simp at hb; omega))
                                generalize join (nd 8) [T1, T2, t2] = tj at *
                                go_wp2
                                go_ret
                                exact ⟨_, tj, s7, rfl, ⟨HLD.out, V8.out.ps, V8.out.only, HX.out, HLE2.out, HZ.out⟩⟩
                            · have y2 : (x.kind != 26) = true := by rw [bne_iff_ne]; exact hx2
                              have HLD : Hid (Leads L [.stmt] [] s [] [[]] (.bad j5)) := Lib.hid (HL5.out.trans (asg_oddF b hx hx2 HG5.out))
                              have d2 := V2.out.ps.at.2.2
                              have f2 := V2.out.free.2
                              have V3 := Lib.hid (V2.out.call V2.out.ps.failed (Only.of_setCell _))
                              have HLE2 : Hid (atS s ≤ j5) := Lib.hid HK.out.le
                              clear hx hx2 X6
                              go_upto_region 38 with fail
                              generalize World.setCell _ _ _ = w7 at V3 ⊢
                              clear d2 f2
                              go_wp2
                              go_ret
                              exact ⟨_, [], .bad j5, rfl, ⟨HLD.out, V3.out.ps, V3.out.only, NdX.nil _ _, HLE2.out, ⟨fun _ _ => Nat.zero_le _, fun _ _ _ _ => Nat.zero_le _⟩⟩⟩
end Go.Proofs.YtemlceicmpcboaaGreatDoor.Pa
