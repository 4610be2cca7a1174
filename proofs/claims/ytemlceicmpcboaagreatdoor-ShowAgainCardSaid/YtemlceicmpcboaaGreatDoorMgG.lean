/- The walk of function: its contract. An append of a row that a call handed back; the walk of post: its contract. The walk of post: its contract. The walk of block: its contract. What preorder keeps from round to round. The walk of preorder: its contract. No condition but those that each states. -/
import Derived.Test.YtemlceicmpcboaaGreatDoorMgE
import Derived.Test.YtemlceicmpcboaaGreatDoorMgD
import Derived.Test.YtemlceicmpcboaaGreatDoorMgF
import Derived.Maps.OwnIn
namespace Go.Proofs.YtemlceicmpcboaaGreatDoor.Pa
open Go.RowKit Dk Lx Tr

theorem fn_lead {L : List Tk} (x : Nd) (s : St) : Leads L [.fn x] [] s [.mark [40], .lF true x 0] [] s := by
  cases s with
  | bad k => exact rfl
  | ok j => exact .yes (fun V => rfl)
theorem lC_params {L : List Tk} {x : Nd} {m : Nat} (us : List (List Nd)) (s : St) : Leads L [.lC true x m] us s [.blk, .mk x (m + 1)] us s := by
  cases s with
  | bad k => exact rfl
  | ok j => exact .yes (fun V => rfl)
theorem param_all (L : List Tk) (n : Nat) : RdN L 131 [elS true] n := fun s _ => param_rd L s

/-- Where function stands behind the parameters. -/
structure Fn1 (L : List Tk) (g : Nat) (vt : Value) (x : Nd) (s : St) (w wx : World) (b : Nat) (q : Option Addr) (m c : Nat) (cs : List (Nat × List Nd)) (s1 : St) : Prop where
  on : On L g vt w wx s1
  fb : FB w wx b x x.kids (.slice q m c) cs s1
  hm : m = cs.length
  leads : Leads L [.fn x] [] s [.blk, .mk x (m + 1)] (cs.map (·.2)) s1
  le : nx L s ≤ nx L s1
  few : m ≤ 1000001

theorem five_only {W W' : World} {B g : Nat} {a0 a1 a2 a3 a4 : Value} (h : W.cell? ⟨B, 0, none⟩ = some a0 ∧ W.cell? ⟨B, 1, none⟩ = some a1 ∧ W.cell? ⟨B, 2, none⟩ = some a2 ∧ W.cell? ⟨B, 3, none⟩ = some a3 ∧ W.cell? ⟨B, 4, none⟩ = some a4) (ho : Only (fun k => k = g) W W') (hg : B ≠ g) (hB : B < W.heap.size) :
    W'.cell? ⟨B, 0, none⟩ = some a0 ∧ W'.cell? ⟨B, 1, none⟩ = some a1 ∧ W'.cell? ⟨B, 2, none⟩ = some a2 ∧ W'.cell? ⟨B, 3, none⟩ = some a3 ∧ W'.cell? ⟨B, 4, none⟩ = some a4 := by
  have q : ∀ j, W'.cell? ⟨B, j, none⟩ = W.cell? ⟨B, j, none⟩ := fun j => World.cell?_of_block (a := ⟨B, j, none⟩) (ho.block B hB hg)
  rw [q, q, q, q, q]
  exact h

/-- .. and behind the block. -/
structure Fn2 (L : List Tk) (g : Nat) (vt : Value) (x : Nd) (s : St) (w wx : World) (b : Nat) (cs : List (Nat × List Nd)) (s1 : St) : Prop where
  on : On L g vt w wx s1
  sb : SB wx (fun k => k < w.heap.size) b (join x (cs.map (·.2))) s1
  leads : Leads L [.fn x] [] s [] [join x (cs.map (·.2))] s1
  le : nx L s ≤ nx L s1

set_option maxHeartbeats 4000000 in
set_option maxRecDepth 100000 in
theorem function_rd (L : List Tk) (n : Nat) (hB : RdN L 132 [.blk] n) (x : Nd) (s : St) (hs : mu L s < n) : FnRd L x s := by
  intro g vt w h
  have HB := Lib.hid hB
  have HMU := Lib.hid hs
  have H0 := Lib.hid (On.start h)
  have LS := Lib.hid (fun W (hp : PS L g vt W s) => list_any L 131 enters_param true (mu L (markS L [40] s) + 1) (param_all L _) s (Nat.lt_succ_self _) g vt W hp)
  have HLT := Lib.hid h.lt
  have HNX := Lib.hid h.le
  have HNE : Hid (w.heap.size ≠ g) := Lib.hid (by have := h.lt; omega)
  have HFEW := Lib.hid h.few
  have G := Lib.hid (fun p m c W => grow_any x p m c W)
  obtain ⟨xk, xd, xq, xz, xs⟩ := x
  simp only [Nd.cells] at G ⊢
  clear hB hs h
  go_enter Tryz.func72, Tryz.ntmps72
  go_upto_region 1 with fail
  have d0 : (w.alloc (Obj.cells #[.int .i64 xk, .int .i64 xd, .string (strOf xq), .int .i64 xz, .string (strOf xs)] 29)).rangeAt w.heap.size 0 (Nd.cells ⟨xk, xd, xq, xz, xs⟩) := range_new w (Nd.cells ⟨xk, xd, xq, xz, xs⟩) _
  have H1 := Lib.hid (H0.out.alloc (Obj.cells #[.int .i64 xk, .int .i64 xd, .string (strOf xq), .int .i64 xz, .string (strOf xs)] 29))
  have hsz : w.heap.size < (w.alloc (Obj.cells #[.int .i64 xk, .int .i64 xd, .string (strOf xq), .int .i64 xz, .string (strOf xs)] 29)).heap.size := by simp
  generalize w.alloc (Obj.cells #[.int .i64 xk, .int .i64 xd, .string (strOf xq), .int .i64 xz, .string (strOf xs)] 29) = w1 at *
  have HSZ := Lib.hid hsz
  go_cut [5] (fun v5 wx => ∃ b q m c cs s1, v5 = ptr b ∧ Hid (Fn1 L g vt ⟨xk, xd, xq, xz, xs⟩ s w wx b q m c cs s1))
  case first =>
    have e0 : w1.cell? ⟨w.heap.size, 0, none⟩ = some (.int .i64 xk) := d0 0 _ rfl
    have e1 : w1.cell? ⟨w.heap.size, 1, none⟩ = some (.int .i64 xd) := d0 1 _ rfl
    have e2 : w1.cell? ⟨w.heap.size, 2, none⟩ = some (.string (strOf xq)) := d0 2 _ rfl
    have e3 : w1.cell? ⟨w.heap.size, 3, none⟩ = some (.int .i64 xz) := d0 3 _ rfl
    have e4 : w1.cell? ⟨w.heap.size, 4, none⟩ = some (.string (strOf xs)) := d0 4 _ rfl
    have HS1 := And.intro e0 (And.intro e1 (And.intro e2 (And.intro e3 e4)))
    clear d0 hsz e0 e1 e2 e3 e4
    go_region_held3 (fun W => W.cell? ⟨w.heap.size, 0, none⟩ = some (.int .i64 xk) ∧ W.cell? ⟨w.heap.size, 1, none⟩ = some (.int .i64 xd) ∧ W.cell? ⟨w.heap.size, 2, none⟩ = some (.string (strOf xq)) ∧ W.cell? ⟨w.heap.size, 3, none⟩ = some (.int .i64 xz) ∧ W.cell? ⟨w.heap.size, 4, none⟩ = some (.string (strOf xs))) (first | exact HS1 | exact HS3 | exact HS4) (first
      | (go_at_call 130; refine (LS.out _ (H1.out.below (Below.refl _ _).drew).ps).mono ?_; rintro e w3 ⟨v, cs, s3, hk⟩; have hle := hk.leads; have hnx := hk.le HNX.out; obtain ⟨rfl, hon, hlr, -, -, hfew, ⟨q, c, rfl⟩, -⟩ := hk; have HK := Lib.hid (And.intro hon (And.intro hlr (And.intro hle (And.intro hnx hfew)))); clear hon hlr hle hnx hfew; have HS3 := five_only (B := w.heap.size) (g := g) HS1 ((Only.refl (fun k => k = g) w1).drew.trans HK.out.1.only (fun _ _ h => h)) HNE.out HSZ.out)
      | (go_at_call 67; refine (G.out _ _ _ _).mono ?_; rintro e w4 ⟨b, rfl, hb, hB, hbel⟩; have HG := Lib.hid (And.intro hb (And.intro hB hbel)); clear hb hB hbel; have HS4 := five_only (B := w.heap.size) (g := g) HS3 (Only.of_below HG.out.2.2) HNE.out (Nat.lt_of_lt_of_le HSZ.out HK.out.1.only.size)))
    go_wp2_with fail
    go_meet
    refine ⟨b, q, _, c, cs, s3, rfl, Lib.hid ⟨((H1.out.below (Below.refl _ _).drew).call HK.out.1.ps HK.out.1.only).below HG.out.2.2, FB.start (LR.base HK.out.2.1 (Nat.le_of_lt HSZ.out)) (Nat.le_trans (Nat.le_of_lt HSZ.out) HK.out.1.only.size) HG.out.1 HG.out.2.1 HG.out.2.2, rfl, ?_, HK.out.2.2.2.1, ?_⟩⟩
    · refine (fn_lead _ s).trans ((HK.out.2.2.1 _ 0).trans ?_)
      rw [Nat.zero_add]
      exact lC_params _ _
    · have := HK.out.2.2.2.2
      have h2 := HK.out.1.ps.le
      have := HFEW.out
      omega
  case rest =>
    obtain ⟨b, q, m, c, cs, s1, rfl, HF⟩ := hcut
    have HS1 : Hid (mu L s1 < n) := Lib.hid (Nat.lt_of_le_of_lt (mu_le HF.out.leads.aft HF.out.le) HMU.out)
    have B1 := Lib.hid (HB.out s1 HS1.out)
    obtain ⟨-, -, -, -, -, c5⟩ := HF.out.fb.bb.at
    obtain ⟨i0, hi0, hy0, hy1, hy2⟩ := info_parts ptr_info3
    have HM1 : Hid (m + 1 = cs.length + 1) := Lib.hid (by rw [HF.out.hm])
    have HRW : Hid (∀ W s', FB w W b ⟨xk, xd, xq, xz, xs⟩ xd (.slice q m c) cs s' → ∀ b', (W.alloc (.cells #[ptr b'] 76)).ownsRow w.heap.size 76 1 (.slice q m c) m (bp (cs.map (·.1)))) := Lib.hid (fun W s' hf b' => by have := hf.row.alloc (.cells #[ptr b'] 76); rw [← HF.out.hm] at this; exact this)
    have HB1 : Hid (m + 1 ≤ maxLen) := Lib.hid (by have := HF.out.few; unfold maxLen; omega)
    have HB2 : Hid ((m + 1) * 8 ≤ 140737488355328) := Lib.hid (by have := HF.out.few; omega)
    have HB3 : Hid (∀ W s', On L g vt w W s' → ∀ b', w.heap.size ≤ (W.alloc (.cells #[ptr b'] 76)).heap.size) := Lib.hid (fun W s' ho b' => by have := ho.only.size; simp; omega)
    clear d0 hsz
    generalize w1 = w1' at *
    go_upto_region 2 with fail
    go_cut [] (fun wx => ∃ cs s1, Hid (Fn2 L g vt ⟨xk, xd, xq, xz, xs⟩ s w wx b cs s1))
    case first =>
      go_region_law (first
        | (go_simp; go_at_call 132; refine (B1.out g vt _ (HF.out.on.below (Below.refl _ _).drew).ps).mono ?_; rintro e w4 ⟨b', t', s4, hk⟩; obtain ⟨rfl, hl, hps, honly, hbr, hle⟩ := hk; have O4 := Lib.hid ((HF.out.on.below (Below.refl _ _).drew).call hps honly); have F4 := Lib.hid (FB.aft (FB.call (FB.below HF.out.fb (Below.refl _ _).drew) honly HLT.out) hl.aft); have N4 := Lib.hid (Kids.add (Kids.nil w4 (fun k => (k < w.heap.size ∨ (Value.slice q m c).ownBlock = some k) ∨ k = b) s4) (FB.news (FB.aft (FB.below HF.out.fb (Below.refl _ _).drew) hl.aft) hbr HF.out.on.only.size)); have K4 := Lib.hid (And.intro hl hle); obtain ⟨-, -, -, -, -, c5'⟩ := F4.out.bb.at; obtain ⟨-, -, -, -, -, c5a⟩ := (FB.below F4.out ((Below.refl _ _).alloc (Nat.le_refl _) (.cells #[ptr b'] 76))).bb.at; have N1 := Lib.hid (news_at w4 #[ptr b'] 76); clear hl hps honly hbr hle)
        | (refine step_append_lies _ (by rfl) (.tmp 16) (.tmp 19) 116 (by rfl) w.heap.size 76 i0 (.pointer none) 1 8 Tryz.underlying116 hi0 hy0 hy1 hy2 (by rfl) (by decide) _ m (bp (cs.map (·.1))) (by rfl) (HRW.out _ _ F4.out _) ⟨w4.heap.size, 0, none⟩ 1 1 [ptr b'] (by rfl) (by rfl) N1.out (by simp [Value.oneCell']) (by decide) HB1.out HB2.out (HB3.out _ _ O4.out _) (w4.heap.size + 1) (by simp) ?_; intro g' cap w7 hrow hgr hgl hlt7; have HA := Lib.hid (FB.app F4.out ((Below.refl _ _).alloc (Nat.le_refl _) (.cells #[ptr b'] 76)) hgr); have HP := Lib.hid (FB.push F4.out N4.out ((Below.refl _ _).alloc (Nat.le_refl _) (.cells #[ptr b'] 76)) HM1.out hrow hgr (hgl.imp id (fun e => e.trans (by simp)))); clear hrow hgr hgl hlt7; obtain ⟨-, -, -, -, -, c7⟩ := HA.out.1.at; have f7 := HA.out.1.free 5 (by decide)))
      all_goals
        go_wp2_with fail
        go_meet
        refine ⟨cs ++ [(b', t')], s4, Lib.hid ⟨On.fb O4.out F4.out HP.out.2, FB.sb HP.out.1, ?_, Nat.le_trans HF.out.le K4.out.2⟩⟩
        refine (HF.out.leads.trans (by
          have := K4.out.1.over [.mk ⟨xk, xd, xq, xz, xs⟩ (m + 1)] (cs.map (·.2))
          rw [List.append_nil] at this
          exact this)).trans ?_
        rw [List.map_append]
        exact Leads.mk _ _ _ (by rw [HF.out.hm]; simp) _
    case rest =>
      obtain ⟨cs5, s5, H5⟩ := hcut
      go_wp2
      go_ret
      exact ⟨b, _, s5, rfl, H5.out.leads, H5.out.on.ps, H5.out.on.only, H5.out.sb, H5.out.le⟩

end Go.Proofs.YtemlceicmpcboaaGreatDoor.Pa
namespace Go.Proofs.YtemlceicmpcboaaGreatDoor.Pa
open Go.RowKit Dk Lx Tr

theorem append_nil {P : Program} {w : World} (base : Nat) (t ty e : TypeId) (i : TypeInfo) (size : Nat) (ht : P.underlying t = some (.slice e)) (hi : P.info? e = some i)
    (v : Value) (n : Nat) (xs : List Value) (hown : w.ownsRow base e size v n xs) :
    (Builtin.append_ #[t, t] ty #[v, .slice none 0 0]).run P w = .ok v w := by
  rcases hown.2 with ⟨rfl, rfl⟩ | ⟨g, cap, cur, rfl, _, _, hnc, _⟩
  · simp [Builtin.append_, run_underlying ht, sizeOf, typeInfo, hi, Builtin.lenOf, Builtin.firstCells]
  · simp [Builtin.append_, run_underlying ht, sizeOf, typeInfo, hi, Builtin.lenOf, Builtin.firstCells, hnc, storeCells, loadCells]

theorem grown_refl (w : World) (row : Option Nat) : w.grownBy w row := ⟨rfl, rfl, rfl, Nat.le_refl _, fun _ _ _ => rfl⟩

/-- A row of pointers that a call handed back, nil where it is empty, put behind a row of the call's own. -/
theorem run_append_ls {W : World} {base base2 : Nat} (t ty : TypeId) (i : TypeInfo) (ht : Tryz.prog.underlying t = some (.slice 76)) (hi : Tryz.prog.info? 76 = some i) (hz : i.zero = some (.pointer none)) (hsz : i.size = 1) (hby : i.bytes = 8)
    (v : Value) (n : Nat) (xs : List Value) (hown : W.ownsRow base 76 1 v n xs) (hn : 0 < n) (q : Option Addr) (m c : Nat) (ys : List Value) (hy : W.ownsRow base2 76 1 (.slice q m c) m ys) (hnil : m = 0 → q = none ∧ c = 0) (hone : ∀ u ∈ ys, u.oneCell' = true)
    (h63 : n + m ≤ maxLen) (hbytes : (n + m) * 8 ≤ 140737488355328) (hbase : base ≤ W.heap.size) :
    ∃ g cap W', (Builtin.append_ #[t, t] ty #[v, .slice q m c]).run Tryz.prog W = .ok (.slice (some ⟨g, 0, none⟩) (n + m) cap) W' ∧ W'.ownsRow base 76 1 (.slice (some ⟨g, 0, none⟩) (n + m) cap) (n + m) (xs ++ ys) ∧ W.grownBy W' v.ownBlock ∧ (v.ownBlock = some g ∨ g = W.heap.size) := by
  by_cases hm : m = 0
  · subst hm
    obtain ⟨rfl, rfl⟩ := hnil rfl
    have hys : ys = [] := List.eq_nil_of_length_eq_zero (by have := hy.1; omega)
    subst hys
    obtain ⟨g, cap, rfl⟩ := Tr.own_form hown hn
    exact ⟨g, cap, W, append_nil base t ty _ i 1 ht hi _ n xs hown, by rw [List.append_nil]; exact hown, grown_refl _ _, .inl rfl⟩
  · obtain ⟨r, cr, hr⟩ := Tr.own_form hy (by omega)
    cases hr
    obtain ⟨g, cap, W', h1, h2, h3, h4, -⟩ := run_append_lies (P := Tryz.prog) W t ty base _ i (.pointer none) 1 8 ht hi hz hsz hby rfl (by decide) v n xs hown ⟨r, 0, none⟩ m c ys (by have := hy.1; omega) (fun j u hu => hy.cells (g := r) rfl j u hu) hone (by omega) h63 hbytes hbase _ rfl
    exact ⟨g, cap, W', h1, h2, h3, h4⟩

theorem step_append_ls {W : World} {ops : Array Oper} {o : Oper} {a : Act} {K : Act → World → Prop} {Q : Exit → Act → World → Prop} {E : Prop} (hgd : o.guard = none) (s x : Operand) (t : TypeId)
    (ho : o.op = .call { callee := .builtin .append, args := #[s, x], argTypes := #[t, t] }) {base base2 : Nat} (i : TypeInfo) (ht : Tryz.prog.underlying t = some (.slice 76)) (hi : Tryz.prog.info? 76 = some i) (hz : i.zero = some (.pointer none)) (hsz : i.size = 1) (hby : i.bytes = 8)
    (v : Value) (n : Nat) (xs : List Value) (hs : a.eval s = v) (hown : W.ownsRow base 76 1 v n xs) (hn : 0 < n) (q : Option Addr) (m c : Nat) (ys : List Value) (hx : a.eval x = .slice q m c) (hy : W.ownsRow base2 76 1 (.slice q m c) m ys) (hnil : m = 0 → q = none ∧ c = 0) (hone : ∀ u ∈ ys, u.oneCell' = true)
    (h63 : n + m ≤ maxLen) (hbytes : (n + m) * 8 ≤ 140737488355328) (hbase : base ≤ W.heap.size)
    (h : ∀ g cap w', w'.ownsRow base 76 1 (.slice (some ⟨g, 0, none⟩) (n + m) cap) (n + m) (xs ++ ys) → W.grownBy w' v.ownBlock → (v.ownBlock = some g ∨ g = W.heap.size) → K (a.put o.dst (.slice (some ⟨g, 0, none⟩) (n + m) cap)) w') :
    if Region.wanted o (yielded ops a.tmps) = true then Oper.wp Tryz.prog o a W K Q else E := by
  have hw : Region.wanted o (yielded ops a.tmps) = true := by simp [Region.wanted, hgd]
  rw [if_pos hw]
  obtain ⟨g, cap, w', hr, h2, h3, h4⟩ := run_append_ls (W := W) t o.type i ht hi hz hsz hby v n xs hown hn q m c ys hy hnil hone h63 hbytes hbase
  unfold Oper.wp execOp
  simp only [ho, resolve, invoke, builtin, Sem.run_bind, Sem.run_pure, Result.andThen_ok, List.map_toArray, List.map_cons, List.map_nil, hs, hx, hr]
  exact h g cap w' h2 h3 h4

theorem one_post (L : List Tk) (V : List (List Nd)) (i : Nat) : one L .post V i = if sg L i = [40] then some ([.lF false (nd 22) 1, .post], V, i + 1)
      else if sg L i = [91] then some ([.e 0, .mark [93], .mk (nd 26) 2, .post], V, i + 1)
      else some ([], V, i) := rfl
theorem post_call {L : List Tk} {j : Nat} (us : List (List Nd)) (h : sg L j = [40]) : Leads L [.post] us (.ok j) [.lF false (nd 22) 1, .post] us (.ok (j + 1)) := .yes (fun V => by rw [one_post, if_pos h])
theorem post_index {L : List Tk} {j : Nat} (us : List (List Nd)) (h : sg L j = [91]) : Leads L [.post] us (.ok j) [.e 0, .mark [93], .mk (nd 26) 2, .post] us (.ok (j + 1)) := .yes (fun V => by rw [one_post, if_neg (by rw [h]; decide), if_pos h])
theorem post_end {L : List Tk} (us : List (List Nd)) {s : St} (h1 : sgS L s ≠ [40]) (h2 : sgS L s ≠ [91]) : Leads L [.post] us s [] us s := by
  cases s with
  | bad k => exact rfl
  | ok j => exact .yes (fun V => by rw [one_post, if_neg (show ¬sg L j = _ from h1), if_neg (show ¬sg L j = _ from h2)])

/-- Where post stands behind a call's arguments. -/
structure Po (L : List Tk) (g : Nat) (vt : Value) (s : St) (w wx : World) (n j : Nat) (b : Nat) (t : List Nd) (s1 : St) : Prop where
  on : On L g vt w wx s1
  sb : SB wx (fun k => k < w.heap.size) b t s1
  leads : Leads L [.prim, .post] [] s [.post] [t] s1
  le : nx L s ≤ nx L s1
  far : j < nx L s1
  mu : mu L s1 ≤ n

theorem FB.newsK {w W0 W : World} {b : Nat} {x : Nd} {k : Int} {v : Value} {cs ds : List (Nat × List Nd)} {s s' : St} {Y : Nat → Prop} (h : FB w W0 b x k v cs s') (hb : Kids W (fun k => k < W0.heap.size ∨ Y k) ds s) (hw : w.heap.size ≤ W0.heap.size) : Kids W (fun k => (k < w.heap.size ∨ v.ownBlock = some k) ∨ k = b) ds s :=
  Kids.weaken hb (fun i _ hi => .inl (by
    rcases hi with (hi | hi) | hi
    · omega
    · exact (Tr.own_lo h.row i hi).2
    · have := h.bb.lt; omega))

end Go.Proofs.YtemlceicmpcboaaGreatDoor.Pa
namespace Go.Proofs.YtemlceicmpcboaaGreatDoor.Pa
open Go.RowKit Dk Lx Tr

theorem few_max {m : Nat} (h : m ≤ 1000000 + 1) : 1 + m ≤ maxLen ∧ (1 + m) * 8 ≤ 140737488355328 := by
  unfold maxLen
  omega

set_option maxHeartbeats 8000000 in
set_option maxRecDepth 100000 in
theorem post_rd (L : List Tk) (n : Nat) (hE : RdN L 203 [.e 0] n) (s : St) (hP : Rd L 267 [.prim] s) (hs : mu L s ≤ n) : Rd L 266 [.prim, .post] s := by
  intro g vt w h
  have HE := Lib.hid hE
  have HP := Lib.hid hP
  have H0 := Lib.hid (On.start h)
  have HLT := Lib.hid h.lt
  have HMU := Lib.hid hs
  have HFEW := Lib.hid h.few
  obtain ⟨i0, hi0, hy0, hy1, hy2⟩ := info_parts ptr_info3
  clear hE hP h hs
  go_enter Tryz.func266, Tryz.ntmps266
  go_wp2_with fail
  refine (HP.out g vt w H0.out.ps).mono ?_
  rintro e w1 ⟨b, t, s1, hk⟩
  obtain ⟨rfl, hl, hps, honly, hbr, hle⟩ := hk
  have H1 := Lib.hid (H0.out.call hps honly)
  have HL1 : Hid (Leads L [.prim, .post] [] s [.post] [t] s1) := Lib.hid (by
    have := hl.over [.post] []
    exact this)
  have HB1 := Lib.hid hbr
  have HLE1 := Lib.hid hle
  have HM1 := Lib.hid (Nat.le_trans (mu_le hl.aft hle) HMU.out)
  clear hl hps honly hbr hle HP HMU
  go_wp2
  go_loopg [3] (L.length - nx L s1) (fun q vl wr => ∃ (b : Nat) (t : List Nd) (s1 : St), vl = ptr b ∧ Hid (SB wr (fun k => k < w.heap.size) b t s1) ∧ Hid (On L g vt w wr s1) ∧ Hid (Leads L [.prim, .post] [] s [.post] [t] s1) ∧ Hid (nx L s ≤ nx L s1) ∧ Hid (mu L s1 ≤ n) ∧ Hid (q = L.length - nx L s1))
  case atStart => exact ⟨b, t, s1, rfl, HB1, H1, HL1, HLE1, HM1, Lib.hid rfl⟩
  case round =>
    clear HB1 H1 HL1 HLE1 HM1
    obtain ⟨b, t, s2, rfl, HB, HON, HL, HLE, HMU, HK⟩ := hrel
    have SG := Lib.hid (sign_any HON.out.ps)
    have q1 := str_beq' (sgS L s2) [40]
    have q2 := str_beq' (sgS L s2) [91]
    by_cases hq : sgS L s2 = [40]
    · obtain ⟨j, rfl, hj, hjl⟩ := sgS_ok hq (by decide)
      have HL2 := Lib.hid (HL.out.trans (post_call [t] hj))
      have HMK : Hid (markS L [40] (.ok j) = .ok (j + 1)) := Lib.hid (if_pos hj)
      have LS := Lib.hid (fun W (hp : PS L g vt W (.ok j)) => list_any L 203 enters_expr false n HE.out (.ok j) (by rw [HMK.out]; exact Nat.lt_of_lt_of_le (mu_next hjl) HMU.out) g vt W hp)
      rw [decide_eq_true hq] at q1
      generalize strOf (sgS L (.ok j)) = o at *
      have G := Lib.hid (fun p W => grow_any (nd 22) p 1 1 W)
      unfold nd Nd.cells at G
      have HJ := Lib.hid hjl
      clear q2 hq hj hjl HL
      go_wp2_with fail
      refine SG.out.mono ?_
      rintro e v1 ⟨rfl, hb⟩
      have O1 := Lib.hid (HON.out.below hb)
      have B1 := Lib.hid (SB.below HB.out hb)
      clear hb
      go_wp2_with fail
      refine (G.out _ _).mono ?_
      rintro e v3 ⟨b6, rfl, hb, hB, hbel⟩
      have O3 := Lib.hid ((O1.out.alloc (.cells #[ptr b] 76)).below hbel)
      have F3 : Hid (FB w v3 b6 (nd 22) 0 (.slice (some ⟨v1.heap.size, 0, none⟩) 1 1) [(b, t)] (.ok j)) := Lib.hid (FB.start (LR.lit (cs := [(b, t)]) (Kids.add (cs := []) (Kids.nil _ _ _) B1.out) O1.out.only.size rfl rfl (by decide)) ((O1.out.alloc _).only.size) hb hB hbel)
      clear hb hB hbel G LS
      have LS := Lib.hid (fun W (hp : PS L g vt W (.ok j)) => list_any L 203 enters_expr false n HE.out (.ok j) (by rw [HMK.out]; exact Nat.lt_of_lt_of_le (mu_next HJ.out) HMU.out) g vt W hp)
      go_upto_region 6 with fail
      obtain ⟨-, -, -, -, -, c5⟩ := F3.out.bb.at
      generalize v1.heap.size = B5 at *
      go_region_law (first
        | (go_simp; go_at_call 130; refine (LS.out _ (O3.out.below (Below.refl _ _).drew).ps).mono ?_; rintro e v4 ⟨v, cs, s4, hk⟩; have hfar := hk.far; rw [HMK.out] at hfar; have htl := hk.tail; rw [HMK.out] at htl; obtain ⟨rfl, hon, hlr, -, -, hfew, ⟨q, c, rfl⟩, hnil⟩ := hk; have O4 := Lib.hid ((O3.out.below (Below.refl _ _).drew).call hon.ps hon.only); have F4 : Hid (FB w v4 b6 (nd 22) 0 (.slice (some ⟨B5, 0, none⟩) 1 1) [(b, t)] s4) := Lib.hid (FB.aft (FB.call (FB.below F3.out (Below.refl _ _).drew) hon.only HLT.out) (fun _ _ => ⟨j, rfl⟩)); have N4 := Lib.hid (FB.newsK (FB.below F3.out (Below.refl _ _).drew) hlr.kids O3.out.only.size); have R4 := Lib.hid hlr.row; have K4 := Lib.hid (And.intro hfar (And.intro htl hnil)); have HB1 := Lib.hid (few_max (Nat.le_trans hfew (Nat.succ_le_succ (Nat.le_trans O4.out.ps.le HFEW.out)))); obtain ⟨-, -, -, -, -, c5'⟩ := F4.out.bb.at; clear hfar htl hon hlr hfew hnil)
        | (refine step_append_ls (by rfl) (.tmp 19) (.tmp 23) 116 (by rfl) i0 Tryz.underlying116 hi0 hy0 hy1 hy2 _ 1 (bp [b]) (by rfl) F4.out.row (by decide) q cs.length c (bp (cs.map (·.1))) (by rfl) R4.out (fun h => by have h3 := K4.out.2.2 (List.eq_nil_of_length_eq_zero h); simp only [Value.slice.injEq] at h3; exact ⟨h3.1, h3.2.2⟩) (bp_one _) HB1.out.1 HB1.out.2 O4.out.only.size ?_; intro g' cap w7 hrow hgr hgl; have HA := Lib.hid (FB.app F4.out (Below.refl _ _) hgr); have HP := Lib.hid (FB.push (n := 1 + cs.length) F4.out N4.out (Below.refl _ _) rfl hrow hgr hgl); clear hrow hgr hgl; obtain ⟨-, -, -, -, -, c7⟩ := HA.out.1.at; have f7 := HA.out.1.free 5 (by decide)))
      all_goals
        have HR : Hid (SB (w7.setCell ⟨b6, 5, none⟩ (.slice (some ⟨g', 0, none⟩) (1 + cs.length) cap)) (fun k => k < w.heap.size) b6 (join (nd 22) (t :: cs.map (·.2))) s4 ∧ On L g vt w (w7.setCell ⟨b6, 5, none⟩ (.slice (some ⟨g', 0, none⟩) (1 + cs.length) cap)) s4) := Lib.hid ⟨FB.sb HP.out.1, On.fb O4.out F4.out HP.out.2⟩
        have HLN : Hid (Leads L [.prim, .post] [] s [.post] [join (nd 22) (t :: cs.map (·.2))] s4) := Lib.hid (HL2.out.trans ((by
          have := (K4.out.2.1 (nd 22) 1).over [.post] [t]
          rw [List.append_nil] at this
          exact this : Leads L [.lF false (nd 22) 1, .post] [t] (.ok (j + 1)) [.lC false (nd 22) (1 + cs.length), .post] (t :: cs.map (·.2)) s4).trans (by
          have := ((lC_args (x := nd 22) (m := 1 + cs.length) (t :: cs.map (·.2)) s4).trans (Leads.mk (L := L) (nd 22) (t :: cs.map (·.2)) (1 + cs.length) (by simp [Nat.add_comm]) s4)).over [.post] []
          exact this)))
        have HMN : Hid (mu L s4 ≤ n) := Lib.hid (Nat.le_trans (mu_le (s := .ok j) (fun _ _ => ⟨j, rfl⟩) (Nat.le_trans (Nat.le_succ j) K4.out.1)) HMU.out)
        clear HA HP c7 f7 c5
        go_wp2
        go_roundg (L.length - nx L s4)
        case rel => exact ⟨b6, _, s4, rfl, Lib.hid HR.out.1, Lib.hid HR.out.2, HLN, Lib.hid (Nat.le_trans HLE.out (Nat.le_trans (Nat.le_succ j) K4.out.1)), HMN, Lib.hid rfl⟩
        case measure => have := HK.out; have := K4.out.1; have := HJ.out; have e : nx L (.ok j) = j := rfl; have e2 : nx L (.ok (j + 1)) = j + 1 := rfl; omega
    · rw [decide_eq_false hq] at q1
      by_cases hq2 : sgS L s2 = [91]
      · obtain ⟨j, rfl, hj, hjl⟩ := sgS_ok hq2 (by decide)
        rw [decide_eq_true hq2] at q2
        have HL2 := Lib.hid (HL.out.trans (post_index [t] hj))
        have hmu : mu L (.ok (j + 1)) < n := Nat.lt_of_lt_of_le (mu_next hjl) HMU.out
        have E2 := Lib.hid (HE.out (.ok (j + 1)) hmu)
        generalize strOf (sgS L (.ok j)) = o at *
        have G := Lib.hid (fun p W => grow_any (nd 26) p 2 2 W)
        unfold nd Nd.cells at G
        have HJ := Lib.hid hjl
        have z9 : (j : Int) ≤ 1000000 := by have := HFEW.out; omega
        clear hq hq2 hj hjl HL hmu
        go_wp2_with fail
        refine SG.out.mono ?_
        rintro e v1 ⟨rfl, hb⟩
        have O1 := Lib.hid (HON.out.below hb)
        have B1 := Lib.hid (SB.below HB.out hb)
        clear hb
        obtain ⟨-, c1, -, -⟩ := O1.out.ps.at
        obtain ⟨f1, -, -⟩ := O1.out.ps.free
        rw [show nx L (.ok j) = j from rfl] at c1
        have O2 := Lib.hid (O1.out.call (O1.out.ps.next HJ.out) (Only.of_setCell _))
        have B2 := Lib.hid (SB.aft (SB.call B1.out (Only.of_setCell (g := g) (j := 1) (.int .i64 ((j : Int) + 1))) HLT.out) (s' := .ok (j + 1)) (fun _ _ => ⟨j, rfl⟩))
        go_wp2_with fail
        generalize World.setCell _ _ _ = v3 at O2 B2 ⊢
        clear c1 f1
        refine (E2.out g vt v3 O2.out.ps).mono ?_
        rintro e v4 ⟨b', t', s4, hk⟩
        obtain ⟨rfl, hl, hps, honly, hbr, hle⟩ := hk
        have O4 := Lib.hid (O2.out.call hps honly)
        have B4 := Lib.hid (SB.aft (SB.call B2.out honly HLT.out) hl.aft)
        have B4' : Hid (SB v4 (fun k => k < w.heap.size) b' t' s4) := Lib.hid (SB.weaken hbr (fun i _ hi => by have := O2.out.only.size; omega))
        have HL4 : Hid (Leads L [.prim, .post] [] s [.post] [join (nd 26) [t, t']] (markS L [93] s4)) := Lib.hid (HL2.out.trans ((by
          have := hl.over [.mark [93], .mk (nd 26) 2, .post] [t]
          rw [List.append_nil] at this
          exact this : Leads L [.e 0, .mark [93], .mk (nd 26) 2, .post] [t] (.ok (j + 1)) [.mark [93], .mk (nd 26) 2, .post] [t, t'] s4).trans ((by
          have := (Leads.mark (L := L) [93] s4).over [.mk (nd 26) 2, .post] [t, t']
          exact this : Leads L [.mark [93], .mk (nd 26) 2, .post] [t, t'] s4 [.mk (nd 26) 2, .post] [t, t'] (markS L [93] s4)).trans (by
          have := (Leads.mk (L := L) (nd 26) [t, t'] 2 rfl (markS L [93] s4)).over [.post] []
          exact this))))
        have HAF : Hid (Aft s4 (markS L [93] s4)) := Lib.hid (Leads.mark (L := L) [93] s4).aft
        have HFA : Hid (j + 1 ≤ nx L (markS L [93] s4)) := Lib.hid (Nat.le_trans hle (mark_le [93] hps.le))
        have X := Lib.hid (fun W (hp : PS L g vt W s4) => expect_any [93] hp (by decide))
        generalize markS L [93] s4 = s5 at *
        have R4 : Hid (LR w (v4.alloc (.cells #[ptr b, ptr b'] 76)) (.slice (some ⟨v4.heap.size, 0, none⟩) 2 2) [(b, t), (b', t')] s4) := Lib.hid (LR.lit (Kids.add (Kids.add (Kids.nil _ _ _) B4.out) B4'.out) O4.out.only.size rfl rfl (by decide))
        have O5 := Lib.hid (O4.out.alloc (.cells #[ptr b, ptr b'] 76))
        clear hl hps honly hbr hle HL2 E2
        go_wp2_with fail
        refine (G.out _ _).mono ?_
        rintro e v6 ⟨b6, rfl, hb, hB, hbel⟩
        have O6 := Lib.hid (O5.out.below hbel)
        have HSB : Hid (SB v6 (fun k => k < w.heap.size) b6 (join (nd 26) [t, t']) s4) := Lib.hid (sb_node (cs := [(b, t), (b', t')]) hB (by have := O5.out.only.size; omega) (R4.out.below hbel))
        clear hbel hb hB G
        go_wp2_with fail
        refine (X.out _ O6.out.ps).mono ?_
        rintro e v7 ⟨rfl, hp, ho⟩
        have O7 := Lib.hid (O6.out.call hp ho)
        have HS7 := Lib.hid (SB.aft (SB.call HSB.out ho HLT.out) HAF.out)
        have HMN : Hid (mu L s5 ≤ n) := Lib.hid (Nat.le_trans (mu_le (s := .ok j) (fun _ _ => ⟨j, rfl⟩) (Nat.le_trans (Nat.le_succ j) HFA.out)) HMU.out)
        clear hp ho
        go_wp2
        go_roundg (L.length - nx L s5)
        case rel => exact ⟨b6, _, s5, rfl, HS7, O7, HL4, Lib.hid (Nat.le_trans HLE.out (Nat.le_trans (Nat.le_succ j) HFA.out)), HMN, Lib.hid rfl⟩
        case measure => have := HK.out; have := HFA.out; have := HJ.out; have e : nx L (.ok j) = j := rfl; omega
      · rw [decide_eq_false hq2] at q2
        have HL2 := Lib.hid (HL.out.trans (post_end [t] hq hq2))
        generalize strOf (sgS L s2) = o at *
        clear hq hq2 HL
        go_wp2_with fail
        refine SG.out.mono ?_
        rintro e v1 ⟨rfl, hb⟩
        have O1 := Lib.hid (HON.out.below hb)
        have B1 := Lib.hid (SB.below HB.out hb)
        clear hb
        go_wp2
        go_ret
        exact ⟨b, t, s2, rfl, HL2.out, O1.out.ps, O1.out.only, B1.out, HLE.out⟩

end Go.Proofs.YtemlceicmpcboaaGreatDoor.Pa
namespace Go.Proofs.YtemlceicmpcboaaGreatDoor.Pa
open Go.RowKit Dk Lx Tr

/-- The reader of a statement: it reads a token at least, or fails. -/
def StRd (L : List Tk) (s : St) : Prop := ∀ (g : Nat) (vt : Value) (w : World), PS L g vt w s →
  Calls Tryz.prog 178 #[ptr g] w fun e w' => ∃ b t s', RdOk L g vt [.stmt] s w e w' b t s' ∧ ∀ i j, s = .ok i → s' = .ok j → i < j

theorem blk_lead {L : List Tk} (s : St) : Leads L [.blk] [] s [.mark [123], .sts 0] [] s := by
  cases s with
  | bad k => exact rfl
  | ok j => exact .yes (fun V => rfl)
theorem one_sts (L : List Tk) (m : Nat) (V : List (List Nd)) (i : Nat) : one L (.sts m) V i = if sg L i = [125] then some ([.mk (nd 5) m], V, i + 1) else some ([.stmt, .sts (m + 1)], V, i) := rfl
theorem sts_end {L : List Tk} {m j : Nat} (us : List (List Nd)) (h : sg L j = [125]) : Leads L [.sts m] us (.ok j) [.mk (nd 5) m] us (.ok (j + 1)) := .yes (fun V => by rw [one_sts, if_pos h])
theorem sts_more {L : List Tk} {m j : Nat} (us : List (List Nd)) (h : sg L j ≠ [125]) : Leads L [.sts m] us (.ok j) [.stmt, .sts (m + 1)] us (.ok j) := .yes (fun V => by rw [one_sts, if_neg h])

set_option maxHeartbeats 8000000 in
set_option maxRecDepth 100000 in
theorem block_rd (L : List Tk) (n : Nat) (hS : ∀ s, mu L s < n → StRd L s) (s : St) (hs : mu L s ≤ n) : Rd L 132 [.blk] s := by
  intro g vt w h
  have HS := Lib.hid hS
  have X1 := Lib.hid (expect_any [123] h (by decide))
  have HL1 : Hid (Leads L [.blk] [] s [.sts 0] [] (markS L [123] s)) := Lib.hid ((blk_lead s).trans (by
    have := (Leads.mark (L := L) [123] s).over [.sts 0] []
    exact this))
  have HLE1 := Lib.hid (mark_le [123] h.le)
  have HM1 : Hid (∀ i, markS L [123] s = .ok i → mu L (.ok i) < n) := Lib.hid (fun i hi => by
    obtain ⟨j, rfl, rfl⟩ := mark_ok rfl i hi
    have hjl : j < L.length := by
      unfold markS at hi
      dsimp only at hi
      split at hi
      · rename_i h3; exact sg_lt (by rw [h3]; simp)
      · cases hi
    exact Nat.lt_of_lt_of_le (mu_next hjl) hs)
  generalize markS L [123] s = s1 at *
  have H0 := Lib.hid (On.start h)
  have HLT := Lib.hid h.lt
  have HFEW := Lib.hid h.few
  have G := Lib.hid (fun W => grow_any (nd 5) none 0 0 W)
  unfold nd Nd.cells at G
  obtain ⟨i0, hi0, hy0, hy1, hy2⟩ := info_parts ptr_info3
  clear hS h hs
  go_enter Tryz.func132, Tryz.ntmps132
  go_wp2_with fail
  refine X1.out.mono ?_
  rintro e w1 ⟨rfl, hp, ho⟩
  have H1 := Lib.hid (H0.out.call hp ho)
  clear hp ho
  go_wp2_with fail
  refine (G.out _).mono ?_
  rintro e w2 ⟨b, rfl, hb, hB, hbel⟩
  have H2 := Lib.hid (H1.out.below hbel)
  have F2 : Hid (FB w w2 b (nd 5) 0 (.slice none 0 0) [] s1) := Lib.hid (FB.start (LR.nil w w1 s1) H1.out.only.size hb hB hbel)
  clear hb hB hbel G X1
  go_wp2
  go_loopg [] (mu L s1) (fun k wr => ∃ (cs : List (Nat × List Nd)) (s2 : St) (q : Option Addr) (m c : Nat), Hid (m = cs.length) ∧ Hid (FB w wr b (nd 5) 0 (.slice q m c) cs s2) ∧ Hid (On L g vt w wr s2) ∧ Hid (Leads L [.blk] [] s [.sts m] (cs.map (·.2)) s2) ∧ Hid (nx L s ≤ nx L s2) ∧ Hid (∀ i, s2 = .ok i → mu L (.ok i) < n) ∧ Hid (m ≤ nx L s2 + 1 ∧ ∀ i, s2 = .ok i → m ≤ i) ∧ Hid (k = mu L s2))
  case atStart => exact ⟨[], s1, none, 0, 0, Lib.hid rfl, F2, H2, HL1, HLE1, HM1, Lib.hid ⟨Nat.zero_le _, fun _ _ => Nat.zero_le _⟩, Lib.hid rfl⟩
  case round =>
    clear F2 H2 HL1 HLE1 HM1
    obtain ⟨cs, s2, q, m, c, HM, HF, HO, HL, HLE, HMU, HC, HK⟩ := hrel
    obtain ⟨-, -, c2, -⟩ := HO.out.ps.at
    cases s2 with
    | bad k =>
      rw [show isBad (.bad k) = true from rfl] at c2
      go_wp2
      go_ret
      exact ⟨b, _, .bad k, rfl, Leads.any' _ _ HL.out, HO.out.ps, HO.out.only, FB.sb HF.out, HLE.out⟩
    | ok i =>
      rw [show isBad (.ok i) = false from rfl] at c2
      by_cases hq : sg L i = [125]
      · have A := Lib.hid (accept_yes [125] HO.out.ps (by decide) hq)
        have HL2 : Hid (Leads L [.blk] [] s [] [join (nd 5) (cs.map (·.2))] (.ok (i + 1))) := Lib.hid (HL.out.trans ((sts_end _ hq).trans (Leads.mk _ _ _ (by rw [HM.out]; simp) _)))
        clear hq
        go_wp2_with fail
        refine A.out.mono ?_
        rintro e v2 ⟨rfl, hp, ho⟩
        have O2 := Lib.hid (HO.out.call hp ho)
        have F3 : Hid (FB w v2 b (nd 5) 0 (.slice q m c) cs (.ok (i + 1))) := Lib.hid (FB.aft (FB.call HF.out ho HLT.out) (fun _ _ => ⟨i, rfl⟩))
        clear hp ho
        go_wp2
        go_ret
        exact ⟨b, _, .ok (i + 1), rfl, HL2.out, O2.out.ps, O2.out.only, FB.sb F3.out, Nat.le_trans HLE.out (Nat.le_succ _)⟩
      · have A := Lib.hid (accept_no [125] HO.out.ps hq)
        have HL2 : Hid (Leads L [.blk] [] s [.stmt, .sts (m + 1)] (cs.map (·.2)) (.ok i)) := Lib.hid (HL.out.trans (sts_more _ hq))
        have S1 := Lib.hid (HS.out (.ok i) (HMU.out i rfl))
        have HM1 : Hid (m + 1 = cs.length + 1) := Lib.hid (by rw [HM.out])
        have HRW : Hid (∀ W s', FB w W b (nd 5) 0 (.slice q m c) cs s' → ∀ b', (W.alloc (.cells #[ptr b'] 76)).ownsRow w.heap.size 76 1 (.slice q m c) m (bp (cs.map (·.1)))) := Lib.hid (fun W s' hf b' => by have := hf.row.alloc (.cells #[ptr b'] 76); rw [← HM.out] at this; exact this)
        have hmm : m ≤ 1000001 := by have := HC.out.1; have := HO.out.ps.le; have := HFEW.out; omega
        have HB1 : Hid (m + 1 ≤ maxLen) := Lib.hid (by unfold maxLen; omega)
        have HB2 : Hid ((m + 1) * 8 ≤ 140737488355328) := Lib.hid (by omega)
        have HB3 : Hid (∀ W s', On L g vt w W s' → ∀ b', w.heap.size ≤ (W.alloc (.cells #[ptr b'] 76)).heap.size) := Lib.hid (fun W s' ho b' => by have := ho.only.size; simp; omega)
        clear hq hmm
        go_wp2_with fail
        refine A.out.mono ?_
        rintro e v2 ⟨rfl, hb⟩
        have O2 := Lib.hid (HO.out.below hb)
        have F2 := Lib.hid (FB.below HF.out hb)
        clear hb c2 A
        go_upto_region 4 with fail
        obtain ⟨-, -, -, -, -, c5⟩ := F2.out.bb.at
        go_region_law (first
          | (go_simp; go_at_call 178; refine (S1.out g vt _ (O2.out.below (Below.refl _ _).drew).ps).mono ?_; rintro e w4 ⟨b', t', s4, hk, hst⟩; obtain ⟨rfl, hl, hps, honly, hbr, hle⟩ := hk; have O4 := Lib.hid ((O2.out.below (Below.refl _ _).drew).call hps honly); have F4 := Lib.hid (FB.aft (FB.call (FB.below F2.out (Below.refl _ _).drew) honly HLT.out) hl.aft); have N4 := Lib.hid (Kids.add (Kids.nil w4 (fun k => (k < w.heap.size ∨ (Value.slice q m c).ownBlock = some k) ∨ k = b) s4) (FB.news (FB.aft (FB.below F2.out (Below.refl _ _).drew) hl.aft) hbr O2.out.only.size)); have K4 := Lib.hid (And.intro hl (And.intro hle hst)); obtain ⟨-, -, -, -, -, c5'⟩ := F4.out.bb.at; obtain ⟨-, -, -, -, -, c5a⟩ := (FB.below F4.out ((Below.refl _ _).alloc (Nat.le_refl _) (.cells #[ptr b'] 76))).bb.at; have N1 := Lib.hid (news_at w4 #[ptr b'] 76); clear hl hps honly hbr hle hst)
          | (refine step_append_lies _ (by rfl) (.tmp 22) (.tmp 25) 116 (by rfl) w.heap.size 76 i0 (.pointer none) 1 8 Tryz.underlying116 hi0 hy0 hy1 hy2 (by rfl) (by decide) _ m (bp (cs.map (·.1))) (by rfl) (HRW.out _ _ F4.out _) ⟨w4.heap.size, 0, none⟩ 1 1 [ptr b'] (by rfl) (by rfl) N1.out (by simp [Value.oneCell']) (by decide) HB1.out HB2.out (HB3.out _ _ O4.out _) (w4.heap.size + 1) (by simp) ?_; intro g' cap w7 hrow hgr hgl hlt7; have HA := Lib.hid (FB.app F4.out ((Below.refl _ _).alloc (Nat.le_refl _) (.cells #[ptr b'] 76)) hgr); have HP := Lib.hid (FB.push F4.out N4.out ((Below.refl _ _).alloc (Nat.le_refl _) (.cells #[ptr b'] 76)) HM1.out hrow hgr (hgl.imp id (fun e => e.trans (by simp)))); clear hrow hgr hgl hlt7; obtain ⟨-, -, -, -, -, c7⟩ := HA.out.1.at; have f7 := HA.out.1.free 5 (by decide)))
        all_goals
          have O7 := Lib.hid (On.fb O4.out F4.out HP.out.2)
          have HLN : Hid (Leads L [.blk] [] s [.sts (m + 1)] ((cs ++ [(b', t')]).map (·.2)) s4) := Lib.hid (HL2.out.trans (by
            have := K4.out.1.over [.sts (m + 1)] (cs.map (·.2))
            rw [List.append_nil] at this
            rw [List.map_append]
            exact this))
          have HMN : Hid (∀ j, s4 = .ok j → mu L (.ok j) < n) := Lib.hid (fun j hj => by
            have h1 := K4.out.2.2 i j rfl hj
            have h2 := HMU.out i rfl
            have h3 : mu L (.ok j) ≤ mu L (.ok i) := mu_le (fun _ _ => ⟨i, rfl⟩) (Nat.le_of_lt h1)
            omega)
          have HCN : Hid (m + 1 ≤ nx L s4 + 1 ∧ ∀ j, s4 = .ok j → m + 1 ≤ j) := Lib.hid ⟨by have := HC.out.2 i rfl; have h2 : i ≤ nx L s4 := K4.out.2.1; omega, fun j hj => by have := HC.out.2 i rfl; have := K4.out.2.2 i j rfl hj; omega⟩
          have HMS : Hid (mu L s4 < mu L (.ok i)) := Lib.hid (by
            cases s4 with
            | bad k => exact Nat.succ_pos _
            | ok j =>
              have h1 := K4.out.2.2 i j rfl rfl
              have h2 : j ≤ L.length := O4.out.ps.le
              show L.length - j + 1 < L.length - i + 1
              omega)
          clear HA c7 f7 c5
          go_wp2
          go_roundg (mu L s4)
          case rel => exact ⟨_, s4, _, _, _, Lib.hid (by rw [List.length_append, ← HM.out]; rfl), Lib.hid HP.out.1, O7, HLN, Lib.hid (Nat.le_trans HLE.out K4.out.2.1), HMN, HCN, Lib.hid rfl⟩
          case measure => have := HK.out; have := HMS.out; omega

end Go.Proofs.YtemlceicmpcboaaGreatDoor.Pa
namespace Go.Proofs.YtemlceicmpcboaaGreatDoor.Pa
open Go.RowKit Go.Shelf Dk Lx Tr

/-- The number of kids of a branch is put: no tree is another one. -/
theorem br_put {W : World} {X : Nat → Prop} {b c : Nat} {t : List Nd} {k0 k : Int} (h : Br W X b t) (hc : W.cell? ⟨c, 1, none⟩ = some (.int .i64 k0)) : Br (W.setCell ⟨c, 1, none⟩ (.int .i64 k)) X b t := by
  induction h with
  | mk b x k1 v cs hcs ht hb hX hr hs ih =>
    have hrow : Row (W.setCell ⟨c, 1, none⟩ (.int .i64 k)) X v (cs.map (·.1)) := by
      obtain ⟨p, cp, hv, hcap, h0 | ⟨r, o, hp, hr0, hx, hq⟩⟩ := hr
      · exact ⟨p, cp, hv, hcap, .inl h0⟩
      · refine ⟨p, cp, hv, hcap, .inr ⟨r, o, hp, by simpa using hr0, hx, fun j u hu => ?_⟩⟩
        have h1 := hq j u hu
        by_cases e : (⟨r, o + j, none⟩ : Addr) = ⟨c, 1, none⟩
        · rw [e, hc] at h1
          simp only [bp, List.getElem?_map, Option.map_eq_some_iff] at hu
          obtain ⟨a, -, rfl⟩ := hu
          cases h1
        · rw [World.cell?_setCell_other _ _ _ _ (fun e2 => e e2.symm)]
          exact h1
    by_cases e : b = c
    · subst e
      refine .mk b x k v cs (fun j u hu => ?_) (there_setCell ht _ _) (by simpa using hb) hX hrow ih
      rw [Nat.zero_add]
      by_cases ej : j = 1
      · subst ej
        rw [World.cell?_setCell_same _ _ _ hc]
        exact hu
      · rw [World.cell?_setCell_other _ _ _ _ (by simp [])]
        have := hcs j u (by
          rcases j with _ | _ | j
          · exact hu
          · exact absurd rfl ej
          · exact hu)
        rwa [Nat.zero_add] at this
    · refine .mk b x k1 v cs (fun j u hu => ?_) (there_setCell ht _ _) (by simpa using hb) hX hrow ih
      rw [World.cell?_setCell_other _ _ _ _ (by simp [])]
      exact hcs j u hu

/-- What a branch's block holds, and its kids. -/
theorem br_open {W : World} {X : Nat → Prop} {b : Nat} {t : List Nd} (h : Br W X b t) : ∃ (x : Nd) (k : Int) (v : Value) (cs : List (Nat × List Nd)), t = join x (cs.map (·.2)) ∧ W.rangeAt b 0 (bcells x k v) ∧ W.there b 0 6 ∧ b < W.heap.size ∧ ¬X b ∧ Row W X v (cs.map (·.1)) ∧ ∀ c ∈ cs, Br W X c.1 c.2 := by
  cases h with
  | mk b x k v cs hc ht hb hX hr hs => exact ⟨x, k, v, cs, rfl, hc, ht, hb, hX, hr, hs⟩

/-- What lies between two rounds. -/
structure Pre (b0 : Nat) (w W : World) (ob : Nat) (vn vo : Value) (nodes : List Nd) (opn : List (Nat × List Nd)) (Ds : List Nat) : Prop where
  box : Boxed W ob 116 vo
  own : w.heap.size ≤ ob
  open' : W.ownsRow w.heap.size 76 1 vo opn.length (bp (opn.map (·.1)))
  nodes' : W.ownsRow w.heap.size 29 5 vn nodes.length (ncells nodes)
  kids : ∀ c ∈ opn, Br W (fun k => k < b0 ∨ w.heap.size ≤ k) c.1 c.2
  old : Only (fun k => b0 ≤ k) w W
  marks : ∀ D ∈ Ds, w.heap.size ≤ D ∧ W.heap[D]? = some (.deferred (some []))
  nodup : Ds.Nodup

def rest (opn : List (Nat × List Nd)) : List Nd := (opn.reverse.map (·.2)).flatten

end Go.Proofs.YtemlceicmpcboaaGreatDoor.Pa
namespace Go.Proofs.YtemlceicmpcboaaGreatDoor.Pa
open Go.RowKit Go.Shelf Dk Lx Tr

attribute [local go_sem] Oper.semAt_some

def mark (D : Nat) : Deferred := { target := .collected D, args := #[] }
/-- A frame leaves by its marks, each of them empty. -/
theorem leaves_marks {F : Fence} {n : Nat} {P : Program} {fn : Func} {tmps : Array Value} {R : Ending → World → Prop} (J : World → Prop) :
    ∀ (Ds : List Nat) (W : World), Ds.Nodup → (∀ D ∈ Ds, W.heap[D]? = some (.deferred (some []))) → (∀ D ∈ Ds, ∀ W, J W → W.heap[D]? = some (.deferred (some [])) → J (W.putObj D (.deferred none))) →
    (∀ W, J W → ∃ v, (results fn tmps).run P W = .ok v W ∧ R (.returned v) W) → J W → LeavesInM F n P fn tmps R (Ds.map mark) .returning W
  | [], W, _, _, _, hR, h0 => hR W h0
  | D :: Ds, W, hn, hm, hJ, hR, h0 => by
    have hD := hm D (List.mem_cons_self ..)
    refine ⟨by simp, .inl ⟨_, _, rfl, run_takeDeferred hD, ?_⟩⟩
    refine leaves_marks J Ds _ (List.nodup_cons.mp hn).2 (fun E hE => ?_) (fun E hE => hJ E (List.mem_cons_of_mem _ hE)) hR (hJ D (List.mem_cons_self ..) W h0 hD)
    rw [World.putObj_heap_other (fun e : E = D => (List.nodup_cons.mp hn).1 (by rw [← e]; exact hE))]
    exact hm E (List.mem_cons_of_mem _ hE)

theorem Only.putObj {G : Nat → Prop} {a b : World} (h : Only G a b) {D : Nat} (hD : G D) (o : Obj) : Only G a (b.putObj D o) :=
  ⟨h.os, h.tape, h.output, by simpa using h.size, fun k hk hg => (World.putObj_heap_other (fun e : k = D => hg (by rw [e]; exact hD))).trans (h.block k hk hg)⟩

theorem rows_ne {w : World} {b1 b2 s1 s2 n1 n2 : Nat} {e1 e2 : TypeId} {v1 v2 : Value} {x1 x2 : List Value} (h1 : w.ownsRow b1 e1 s1 v1 n1 x1) (h2 : w.ownsRow b2 e2 s2 v2 n2 x2) (he : e1 ≠ e2) : v1.ownBlock = none ∨ v1.ownBlock ≠ v2.ownBlock := by
  rcases h1.2 with ⟨rfl, _⟩ | ⟨g, cap, cur, rfl, _, hg, _⟩
  · exact .inl rfl
  · right
    rcases h2.2 with ⟨rfl, _⟩ | ⟨g', cap', cur', rfl, _, hg', _⟩
    · simp [Value.ownBlock]
    · intro e
      obtain rfl : g = g' := by simpa [Value.ownBlock] using e
      rw [hg] at hg'
      cases hg'
      exact he rfl

theorem own_cells {w : World} {b s n : Nat} {e : TypeId} {v : Value} {x : List Value} (h : w.ownsRow b e s v n x) {k : Nat} (hk : v.ownBlock = some k) : ∃ o : Obj, w.heap[k]? = some o ∧ o.isCells = true := by
  rcases h.2 with ⟨rfl, _⟩ | ⟨g, cap, cur, rfl, _, hg, _⟩
  · cases hk
  · obtain rfl : g = k := by simpa [Value.ownBlock] using hk
    exact ⟨_, hg, rfl⟩

theorem upto_back (ps : List Nat) : (upto (back ps) ps.length).map (·.2) = ps.reverse := by
  refine List.ext_getElem (by simp [upto]) (fun i h1 h2 => ?_)
  have hi : i < ps.length := by simpa using h2
  have h3 : ps.length - 1 - i < ps.length := by omega
  simp [upto, back, h3]

theorem ownFrom_only {β : Type} {F : Nat → Prop} {w0 : World} {B : Nat} (hB : w0.heap.size ≤ B) : OwnFrom B (fun (_ : β) W => Only F w0 W) := fun _ _ _ _ hs hg hr =>
  hs.trans (Only.of_grown (F := fun k => B ≤ k) hg (fun k e => (hr k e).1)) (fun i hi hG => absurd hG (by omega))

theorem row_put {W : World} {X : Nat → Prop} {c : Nat} {v : Value} {ps : List Nat} {k0 k : Int} (hr : Row W X v ps) (hc : W.cell? ⟨c, 1, none⟩ = some (.int .i64 k0)) : Row (W.setCell ⟨c, 1, none⟩ (.int .i64 k)) X v ps := by
  obtain ⟨p, cp, hv, hcap, h0 | ⟨r, o, hp, hr0, hx, hq⟩⟩ := hr
  · exact ⟨p, cp, hv, hcap, .inl h0⟩
  · refine ⟨p, cp, hv, hcap, .inr ⟨r, o, hp, by simpa using hr0, hx, fun j u hu => ?_⟩⟩
    have h1 := hq j u hu
    by_cases e : (⟨r, o + j, none⟩ : Addr) = ⟨c, 1, none⟩
    · rw [e, hc] at h1
      simp only [bp, List.getElem?_map, Option.map_eq_some_iff] at hu
      obtain ⟨a, -, rfl⟩ := hu
      cases h1
    · rw [World.cell?_setCell_other _ _ _ _ (fun e2 => e e2.symm)]
      exact h1

theorem rest_app (a b : List (Nat × List Nd)) : rest (a ++ b) = rest b ++ rest a := by simp [rest]
theorem rest_rev (cs : List (Nat × List Nd)) : rest cs.reverse = (cs.map (·.2)).flatten := by simp [rest]
theorem br_pos {W : World} {X : Nat → Prop} {b : Nat} {t : List Nd} (h : Br W X b t) : 1 ≤ t.length := by cases h with | mk => simp [join]
theorem kids_few : ∀ (cs : List (Nat × List Nd)), (∀ c ∈ cs, 1 ≤ c.2.length) → cs.length ≤ ((cs.map (·.2)).flatten).length
  | [], _ => by simp
  | c :: cs, h => by
    have h1 := kids_few cs (fun d hd => h d (List.mem_cons_of_mem _ hd))
    have h2 := h c (List.mem_cons_self ..)
    simp only [List.map_cons, List.flatten_cons, List.length_append, List.length_cons]
    omega

/-- The frame at the loop's head. -/
def PreI (p0 b0 : Nat) (T : List Nd) (w : World) (ob : Nat) (a : Act) (W : World) : Prop := ∃ (vn vo : Value) (nodes : List Nd) (opn : List (Nat × List Nd)) (Ds : List Nat) (u5 u6 u7 u8 u9 u10 u11 u12 u13 u14 u15 u16 u17 u18 u19 u20 u21 u22 u23 u24 u25 u26 u27 u28 u29 u30 u31 u32 u33 u34 u35 u36 u37 u38 u39 u40 u41 u42 u43 u44 u45 u46 u47 u48 u49 u50 u51 : Value),
  a = { tmps := #[ptr p0, undef, .slice none 0 0, vn, .pointer (some ⟨ob, 0, none⟩), u5, u6, u7, u8, u9, u10, u11, u12, u13, u14, u15, u16, u17, u18, u19, u20, u21, u22, u23, u24, u25, u26, u27, u28, u29, u30, u31, u32, u33, u34, u35, u36, u37, u38, u39, u40, u41, u42, u43, u44, u45, u46, u47, u48, u49, u50, u51], defers := Ds.map mark } ∧ Pre b0 w W ob vn vo nodes opn Ds ∧ nodes ++ rest opn = T

set_option maxRecDepth 100000 in
set_option maxHeartbeats 4000000 in
theorem preorder_in (F : Fence) (n : Nat) (hF1 : F.fn 39) (hF2 : F.fn 74) (hF3 : F.fn 133) (hro : F.round = none) (hn : 3 ≤ n)
    (b0 p0 : Nat) (T : List Nd) (w : World) (hT : T.length ≤ 1000000) (hb0 : b0 ≤ w.heap.size) (hb : Br w (fun k => k < b0) p0 T) :
    CallsIn F n Tryz.prog 39 #[ptr p0] w fun e w' => ∃ v, e = .returned v ∧ w'.ownsRow w.heap.size 29 5 v T.length (ncells T) ∧ Only (fun k => b0 ≤ k) w w' := by
  have h1 : 1 ≤ n := by omega
  refine callsIn_of_wp_marks Tryz.func39 rfl hF1 ?_ hro
  simp only [Tryz.ntmps39, List.size_toArray, List.length_cons, List.length_nil, Nat.reduceAdd, Nat.reduceSub, Array.replicate_succ, Array.replicate_zero, List.push_toArray, List.append_toArray, List.nil_append, List.cons_append]
  gi_wp2
  refine wpIn_loop (PreI p0 b0 T w (w.heap.size + 1)) (fun a _ => T.length - (match a.tmps.getD 3 undef with | .slice _ l _ => l | _ => 0)) ?_ ?_
  · unfold PreI
    refine ⟨_, .slice (some ⟨w.heap.size, 0, none⟩) 1 1, [], [(p0, T)], [], _, _, _, _, _, _, _, _, _, _, _, _, _, _, _, _, _, _, _, _, _, _, _, _, _, _, _, _, _, _, _, _, _, _, _, _, _, _, _, _, _, _, _, _, _, _, _, rfl, ?_, by simp [rest]⟩
    refine ⟨?_, by omega, ?_, World.ownsRow_nil _ _ _ _, ?_, ?_, by simp, List.nodup_nil⟩
    · have := Boxed.new (w.alloc (.cells #[ptr p0] 76)) 116 (.slice (some ⟨w.heap.size, 0, none⟩) 1 1)
      rwa [World.size_alloc] at this
    · exact (World.ownsRow_lit w #[ptr p0] 1 (Nat.le_refl _) (by decide) rfl).alloc _
    · intro c hc
      obtain rfl : c = (p0, T) := by simpa using hc
      exact Br.only (hb.weaken (fun i hi hx => hx.elim id (fun h => absurd h (by omega)))) (((Only.refl (fun _ => False) w).alloc _).alloc _) (fun _ _ h => h.elim)
    · exact ((Only.refl _ w).alloc _).alloc _
  · rintro a W ⟨vn, vo, nodes, opn, Ds, u5, u6, u7, u8, u9, u10, u11, u12, u13, u14, u15, u16, u17, u18, u19, u20, u21, u22, u23, u24, u25, u26, u27, u28, u29, u30, u31, u32, u33, u34, u35, u36, u37, u38, u39, u40, u41, u42, u43, u44, u45, u46, u47, u48, u49, u50, u51, rfl, hP, hT'⟩
    generalize w.heap.size + 1 = ob at *
    obtain ⟨qn, cn, rfl, -, -⟩ := Tr.own_form0 hP.nodes'
    rcases List.eq_nil_or_concat opn with rfl | ⟨ini, ⟨b, t⟩, rfl⟩
    · obtain ⟨qo, co, rfl, -, -⟩ := Tr.own_form0 hP.open'
      have hc := hP.box.cell
      have e0 : nodes = T := by simpa [rest] using hT'
      subst e0
      gi_wp2
      refine leaves_marks (fun W' => W'.ownsRow w.heap.size 29 5 (.slice qn nodes.length cn) nodes.length (ncells nodes) ∧ Only (fun k => b0 ≤ k) w W') Ds W hP.nodup (fun D hD => (hP.marks D hD).2) (fun D hD W1 h1 hD1 => ⟨ownsRow_putObj h1.1 _ hD1 rfl, Only.putObj h1.2 (by have := (hP.marks D hD).1; omega) _⟩) (fun W1 h1 => ⟨_, results_tmp rfl _ _ _, .slice qn nodes.length cn, by rfl, h1⟩) ⟨hP.nodes', hP.old⟩
    · rw [List.concat_eq_append] at *
      have hk := hP.kids (b, t) (by simp)
      obtain ⟨x, k, v, cs, et, hbc, hroom, hbl, hbX, hrow, hcs⟩ := br_open hk
      replace et : t = join x (cs.map (·.2)) := et
      have hop : W.ownsRow w.heap.size 76 1 vo (ini.length + 1) (bp (ini.map (·.1)) ++ [ptr b]) := by
        have := hP.open'
        simpa [bp] using this
      obtain ⟨go, co, rfl⟩ := ownsRow_succ hop
      obtain ⟨pv, cv, rfl, hcv, hpv⟩ := hrow
      have hlast : W.cell? ⟨go, ini.length, none⟩ = some (ptr b) := (hop.cellAt ini.length (by omega)).trans (by simp [bp])
      have hc := hP.box.cell
      have hcf := hP.box.frozen
      have hbo : b ≠ ob := by have := hP.own; omega
      have hbo' : b ≠ go := by have := (hop.lt go rfl).1; omega
      have hoo : go ≠ ob := fun e => hP.box.not_row (by decide) hop (by rw [← e]; rfl)
      have hco : ini.length + 1 ≤ co ∧ co ≤ 9223372036854775807 := by
        rcases hop.2 with ⟨h', _⟩ | ⟨g', cap', cur, h', _, hg, hh, hm, _, htake⟩
        · simp at h'
        · simp only [Value.slice.injEq, Option.some.injEq, Addr.mk.injEq, and_true, true_and] at h'
          obtain ⟨rfl, rfl⟩ := h'
          exact ⟨hh, by unfold maxLen at hm; omega⟩
      have hbk : W.cell? ⟨b, 1, none⟩ = some (.int .i64 k) := hbc 1 _ rfl
      have hbv : W.cell? ⟨b, 5, none⟩ = some (.slice pv cs.length cv) := by simpa using hbc 5 _ rfl
      have hbf : W.frozen? ⟨b, 1, none⟩ = false := by have := (hroom 1 (by omega)).2; rwa [Nat.zero_add] at this
      have hbc0 : W.cell? ⟨b, 0, none⟩ = some (.int .i64 x.kind) := hbc 0 _ rfl
      have hbc2 : W.cell? ⟨b, 2, none⟩ = some (.string (strOf x.name)) := by simpa using hbc 2 _ rfl
      have hbc3 : W.cell? ⟨b, 3, none⟩ = some (.int .i64 x.n) := by simpa using hbc 3 _ rfl
      have hbc4 : W.cell? ⟨b, 4, none⟩ = some (.string (strOf x.text)) := by simpa using hbc 4 _ rfl
      have hnl : nodes.length ≤ 1000000 := by have := congrArg List.length hT'; rw [List.length_append] at this; omega
      obtain ⟨V, hV⟩ : ∃ V : Value, V = .slice (some ⟨go, 0, none⟩) ini.length co := ⟨_, rfl⟩
      obtain ⟨K, hK⟩ : ∃ K : Value, K = .int .i64 (cs.length : Int) := ⟨_, rfl⟩
      obtain ⟨W2, hW2⟩ : ∃ W2 : World, W2 = (W.setCell ⟨ob, 0, none⟩ V).setCell ⟨b, 1, none⟩ K := ⟨_, rfl⟩
      have hO2 : Only (fun k => k = ob ∨ k = b) W W2 := by rw [hW2]; exact ((Only.refl _ W).setCell ⟨ob, 0, none⟩ (.inl rfl) _).setCell ⟨b, 1, none⟩ (.inr rfl) _
      have hz2' : W2.heap.size = W.heap.size := by rw [hW2]; simp
      have hb2 : Boxed W2 ob 116 V := by
        rw [hW2]
        exact ((Only.setCell (F := fun k => k = b) (Only.refl _ _) ⟨b, 1, none⟩ rfl _).block ob (by simpa using hP.box.lt) (fun e => hbo e.symm)).trans (hP.box.set V)
      have hn2 : W2.ownsRow w.heap.size 29 5 (.slice qn nodes.length cn) nodes.length (ncells nodes) := ownsRow_block hP.nodes' (fun i hi => hO2.block i (Tr.own_lo hP.nodes' i hi).2 (by
        rintro (rfl | rfl)
        · exact hP.box.not_row (by decide) hP.nodes' hi.symm
        · have := (Tr.own_lo hP.nodes' _ hi).1; omega))
      have hb25 : W2.cell? ⟨b, 5, none⟩ = some (.slice pv cs.length cv) := by
        rw [hW2, World.cell?_setCell_other _ _ _ _ (by simp), World.cell?_setCell_other _ _ _ _ (by simp [])]
        exact hbv
      have hop2 : W2.ownsRow w.heap.size 76 1 V ini.length (bp (ini.map (·.1))) := by
        rw [hV]
        refine ownsRow_pop (last := [ptr b]) (by simp [bp]) (ownsRow_block hop (fun i hi => hO2.block i (Tr.own_lo hop i hi).2 ?_))
        obtain rfl : go = i := by simpa [Value.ownBlock] using hi
        rintro (e | e)
        · exact hoo e
        · exact hbo' e.symm
      have hVb : V.ownBlock = some go := by rw [hV]; rfl
      have hbk' : (W.setCell ⟨ob, 0, none⟩ V).cell? ⟨b, 1, none⟩ = some (.int .i64 k) := by rw [World.cell?_setCell_other _ _ _ _ (by simp [])]; exact hbk
      have hob1 : Only (fun k => k = ob) W (W.setCell ⟨ob, 0, none⟩ V) := Only.of_setCell _
      have hkid2 : ∀ c : Nat × List Nd, Br W (fun k => k < b0 ∨ w.heap.size ≤ k) c.1 c.2 → Br W2 (fun k => k < b0 ∨ w.heap.size ≤ k) c.1 c.2 := fun c hc => by
        rw [hW2, hK]
        exact br_put (hc.only hob1 (fun i _ hi => .inr (by have := hP.own; omega))) hbk'
      have hrow2 : Row W2 (fun k => k < b0 ∨ w.heap.size ≤ k) (.slice pv (cs.map (·.1)).length cv) (cs.map (·.1)) := by
        rw [hW2, hK]
        exact row_put (Row.only ⟨pv, cv, rfl, hcv, hpv⟩ hob1 (fun i _ hi => .inr (by have := hP.own; omega))) hbk'
      have hcf2 : cs.length + 1 ≤ t.length := by
        have := kids_few cs (fun c hc => br_pos (hcs c hc))
        rw [et]
        simp only [join, List.length_cons]
        omega
      have htT : nodes.length + t.length + (rest ini).length = T.length := by
        have := congrArg List.length hT'
        rw [rest_app, List.length_append, List.length_append] at this
        simp [rest] at this ⊢
        omega
      have hiT : ini.length ≤ (rest ini).length := by
        have := kids_few ini.reverse (fun c hc => br_pos (hP.kids c (by simp at hc; simp [hc])))
        simpa [rest] using this
      have hm2 : ∀ D ∈ Ds, W2.heap[D]? = some (.deferred (some [])) := fun D hD => by
        obtain ⟨h1, h2⟩ := hP.marks D hD
        refine (hO2.block D (Array.getElem?_eq_some_iff.1 h2).1 ?_).trans h2
        rintro (e | e)
        · have := hP.box
          unfold Boxed at this
          rw [← e, h2] at this
          cases this
        · omega
      have AFT : ∀ (o : Obj) (w1 : World), (W2.alloc o).grownBy w1 (Value.slice qn nodes.length cn).ownBlock → w1.cell? ⟨b, 5, none⟩ = some (.slice pv cs.length cv) ∧ Boxed w1 ob 116 V ∧ w1.ownsRow w.heap.size 76 1 V ini.length (bp (ini.map (·.1))) ∧
          (∀ c : Nat × List Nd, Br W (fun k => k < b0 ∨ w.heap.size ≤ k) c.1 c.2 → Br w1 (fun k => k < b0 ∨ w.heap.size ≤ k) c.1 c.2) ∧ Row w1 (fun k => k < b0 ∨ w.heap.size ≤ k) (.slice pv (cs.map (·.1)).length cv) (cs.map (·.1)) ∧
          Only (fun k => k = ob ∨ k = b ∨ w.heap.size ≤ k) W w1 ∧ (∀ D ∈ Ds, w1.heap[D]? = some (.deferred (some []))) := by
        intro o w1 hg
        have h1 : Only (fun k => w.heap.size ≤ k) W2 w1 := ((Only.refl _ W2).alloc o).trans (Only.of_grown (F := fun k => w.heap.size ≤ k) hg (fun k hk => (Tr.own_lo hP.nodes' k hk).1)) (fun _ _ h => h)
        refine ⟨(World.cell?_of_block (a := ⟨b, 5, none⟩) (h1.block b (by omega) (by omega))).trans hb25, (hb2.alloc o).kept hg (hb2.not_row (by decide) hn2), (hop2.alloc o).kept hg (rows_ne hop2 hn2 (by decide)),
          fun c hc => (hkid2 c hc).only h1 (fun i _ hi => .inr hi), hrow2.only h1 (fun i _ hi => .inr hi), (hO2.mono (fun i hi => hi.elim .inl (fun e => .inr (.inl e)))).trans h1 (fun i _ hi => .inr (.inr hi)), fun D hD => ?_⟩
        have hD2 := hm2 D hD
        have hD3 : (W2.alloc o).heap[D]? = some (.deferred (some [])) := (Below.heap_alloc W2 o D (Array.getElem?_eq_some_iff.1 hD2).1).trans hD2
        refine (hg.block D (Array.getElem?_eq_some_iff.1 hD3).1 (fun e => ?_)).trans hD3
        obtain ⟨o', ho', hc'⟩ := own_cells (hn2.alloc o) e.symm
        rw [hD3] at ho'
        cases ho'
        cases hc'
      have hnew := (World.ownsRow_lit (base := 0) (e := 29) (size := 5) W2 #[.int .i64 x.kind, .int .i64 (cs.length : Int), .string (strOf x.name), .int .i64 x.n, .string (strOf x.text)] 1 (Nat.zero_le _) (by decide) rfl).cells rfl
      rw [hz2'] at hnew
      obtain ⟨i0, hi0, hz0, hz1, hz2⟩ := info_parts n_info3
      subst hW2 hV hK
      gi_wp2_with (gi_at_builtin; refine wpListIn_append_own_at _ rfl _ _ 23 rfl w.heap.size 29 i0 _ 5 56 Tryz.underlying23 hi0 hz0 hz1 hz2 rfl (by decide) _ _ _ rfl (hn2.alloc _) ⟨W.heap.size, 0, none⟩ 1 1 _ rfl rfl hnew (by simp [Value.oneCell']) (by unfold maxLen; omega) (by omega) (by have := hP.old.size; simp; omega) ?_; intro vn' w1 hown' hgrow _ hat; obtain ⟨hb15, hbox1, hop1, hkid1, hrow1, hO1, hm1⟩ := AFT _ _ hgrow; obtain ⟨gn, cn', rfl⟩ := ownsRow_succ hown')
      refine (back_in F (n - 1) hF2 hro _ _ _ w1).mono ?_
      rintro e w' ⟨rfl, rfl⟩
      gi_wp2
      have hsz1 : W.heap.size ≤ w1.heap.size := hO1.size
      have hwW : w.heap.size ≤ W.heap.size := hP.old.size
      obtain ⟨Wr, hWr⟩ : ∃ Wr, Wr = w1.alloc (.cells #[.slice pv cs.length cv] 116) := ⟨_, rfl⟩
      have hszr : Wr.heap.size = w1.heap.size + 1 := by rw [hWr]; simp
      have hboxr : Boxed Wr ob 116 (.slice (some ⟨go, 0, none⟩) ini.length co) := by rw [hWr]; exact hbox1.alloc _
      have hopr : Wr.ownsRow w.heap.size 76 1 (.slice (some ⟨go, 0, none⟩) ini.length co) ini.length (bp (ini.map (·.1))) := by rw [hWr]; exact hop1.alloc _
      have hnr : Wr.ownsRow w.heap.size 29 5 (.slice (some ⟨gn, 0, none⟩) (nodes.length + 1) cn') (nodes.length + 1) (ncells (nodes ++ [{ x with kids := (cs.length : Int) }])) := by rw [hWr, ncells_app]; exact hown'.alloc _
      have hOr1 : Only (fun _ => False) w1 Wr := by rw [hWr]; exact (Only.refl _ _).alloc _
      have hOr : Only (fun k => k = ob ∨ k = b ∨ w.heap.size ≤ k) W Wr := hO1.trans hOr1 (fun _ _ h => h.elim)
      have hrowr := hrow1.only hOr1 (fun _ _ h => h.elim)
      have hboxB : Wr.cell? ⟨w1.heap.size, 0, none⟩ = some (.slice pv cs.length cv) := by rw [hWr]; exact (Boxed.new w1 116 (.slice pv cs.length cv)).cell
      have hmr : ∀ D ∈ Ds, Wr.heap[D]? = some (.deferred (some [])) := fun D hD => (hOr1.block D (Array.getElem?_eq_some_iff.1 (hm1 D hD)).1 id).trans (hm1 D hD)
      have hgoW : w.heap.size ≤ go ∧ go < W.heap.size := hop.lt go rfl
      have hobW : ob < W.heap.size := hP.box.lt
      obtain ⟨i1, hi1, hy0, hy1, hy2⟩ := info_parts ptr_info3
      rw [← hWr]
      refine wpIn_rangeFunc_ownG hro h1 (gf := 133) (lb := #[.pointer (some ⟨w1.heap.size, 0, none⟩)]) rfl hF3 (enters_of Tryz.func133 (by kernel_rfl) rfl)
        (back_stops F (n - 1) hF3 hro (by omega) (fun k => k = w1.heap.size ∨ k < w.heap.size) w1.heap.size (.inl rfl) (.slice pv cs.length cv) (cs.map (·.1)) (by rw [List.length_map]; omega) Wr (by omega) hboxB ?ptrz) (fun h k => h.trans k) ?keepb (Below.refl _ _) (fun _ => rfl)
        (fun pre W3 => (∃ v, Boxed W3 ob 116 v ∧ W3.ownsRow w.heap.size 76 1 v (ini.length + pre.length) (bp (ini.map (·.1)) ++ bp (pre.map (·.2))) ∧ (v.ownBlock = some go ∨ ∃ g, v.ownBlock = some g ∧ Wr.heap.size ≤ g)) ∧ Only (fun k => k = ob ∨ k = go) Wr W3)
        (fun _ _ _ => False)
        (OwnFrom.and (Own.from (holdsRow_own w.heap.size ob 116 76 1 (fun pre : List (Nat × Nat) => ini.length + pre.length) (fun pre => bp (ini.map (·.1)) ++ bp (pre.map (·.2))) (fun _ v => v.ownBlock = some go ∨ ∃ g, v.ownBlock = some g ∧ Wr.heap.size ≤ g)) _) (ownFrom_only (Nat.le_refl _)))
        (fun _ _ _ _ _ hs _ _ => hs)
        ⟨⟨_, hboxr, by simpa [bp] using hopr, .inl rfl⟩, Only.refl _ _⟩
        (fun x' => { tmps := #[ptr p0, undef, .slice none 0 0, .slice (some ⟨gn, 0, none⟩) (nodes.length + 1) cn', .pointer (some ⟨ob, 0, none⟩), .int .i64 (ini.length : Int), ptr b, u7, ptr x'.2, u9, u10,
        .slice (some ⟨go, 0, none⟩) (ini.length + 1) co, .int .i64 ((ini.length : Int) + 1), .bool true, .slice (some ⟨go, 0, none⟩) (ini.length + 1) co, .int .i64 ((ini.length : Int) + 1), .int .i64 (ini.length : Int),
        .slice (some ⟨go, 0, none⟩) (ini.length + 1) co, .int .i64 (ini.length : Int), .pointer (some ⟨go, ini.length, none⟩), ptr b, .slice (some ⟨go, 0, none⟩) (ini.length + 1) co, .int .i64 (ini.length : Int),
        .slice (some ⟨go, 0, none⟩) ini.length co, ptr b, ptr b, .pointer (some ⟨b, 0, none⟩), .pointer (some ⟨b, 5, none⟩), .slice pv cs.length cv, .int .i64 (cs.length : Int), .pointer (some ⟨b, 0, none⟩), .pointer (some ⟨b, 0, none⟩), .pointer (some ⟨b, 1, none⟩),
        .slice qn nodes.length cn, ptr b, .pointer (some ⟨b, 0, none⟩), .pointer (some ⟨b, 0, none⟩), .agg #[.int .i64 x.kind, .int .i64 (cs.length : Int), .string (strOf x.name), .int .i64 x.n, .string (strOf x.text)],
        .slice (some ⟨W.heap.size, 0, none⟩) 1 1, .slice (some ⟨gn, 0, none⟩) (nodes.length + 1) cn', ptr b, .pointer (some ⟨b, 0, none⟩), .pointer (some ⟨b, 5, none⟩), .slice pv cs.length cv, .func (.func 133) #[] #[.pointer (some ⟨w1.heap.size, 0, none⟩)], .int .i64 (x'.1 : Int), ptr x'.2, u47, u48, u49, u50, u51], defers := [] }) ?assign ?body ?done ?stop
      case ptrz =>
        obtain ⟨p', c', e, hc', h⟩ := hrowr
        cases e
        refine ⟨pv, cv, by rw [List.length_map], h.imp id ?_⟩
        rintro ⟨r, o, hp, hr, hx, hq⟩
        exact ⟨r, o, hp, .inr (by omega), hr, hq⟩
      case keepb =>
        intro W3 l o o' hl _ _ _ k' hk'
        exact World.putObj_heap_other (by rcases hk' with e | e <;> omega)
      case assign =>
        intro l x' W3 K hK
        unfold encB
        gi_wp2
        exact hK
      case body =>
        rintro l pre ⟨xi, xp⟩ W3 ⟨⟨vo', hv, hrow3, hg3⟩, hO3⟩ hlt
        have hc3 := hv.cell
        have hsz3 := hO3.size
        rw [List.length_map] at hlt
        have hvb : ∀ q, vo'.ownBlock = some q → q = go ∨ Wr.heap.size ≤ q := fun q hq => hg3.elim (fun e => .inl (by rw [hq] at e; exact Option.some.inj e)) (fun ⟨g, e, hg⟩ => .inr (by rw [hq] at e; rw [Option.some.inj e]; exact hg))
        gi_wp2_with (gi_at_builtin; refine wpListIn_append_own_at _ rfl _ _ 116 rfl w.heap.size 76 i1 _ 1 8 Tryz.underlying116 hi1 hy0 hy1 hy2 rfl (by decide) _ _ _ rfl (hrow3.alloc _) ⟨W3.heap.size, 0, none⟩ 1 1 [ptr xp] rfl rfl (cell_one_new _ _ _) (by simp [Value.oneCell']) (by unfold maxLen; omega) (by omega) (by simp; omega) ?_; intro v' w4 hown4 hgrow4 _ hat4; obtain ⟨g', cap', rfl⟩ := ownsRow_succ hown4; obtain ⟨hv1, hv2, hr2, hk2, hb2'⟩ := hv.appended (by decide) hrow3 (by omega) hP.own hown4 hgrow4; have hc4 := hv1.cell; have hf4 := hv1.frozen)
        have hgr4 : Only (fun k => vo'.ownBlock = some k) W3 w4 := ((Only.refl _ W3).alloc _).trans (Only.of_grown (F := fun k => vo'.ownBlock = some k) hgrow4 (fun k hk => hk)) (fun _ _ h => h)
        have hgr5 : Only (fun k => k = ob ∨ vo'.ownBlock = some k) W3 (w4.setCell ⟨ob, 0, none⟩ (.slice (some ⟨g', 0, none⟩) (ini.length + pre.length + 1) cap')) := (hgr4.mono (fun i hi => .inr hi)).trans (Only.of_setCell (g := ob) _) (fun i _ hi => .inl hi)
        refine ⟨hk2.from _, ?_, ⟨_, hv2, ?_, ?_⟩, ?_⟩
        · intro k' hk'
          refine hgr5.block k' (by rcases hk' with e | e <;> omega) ?_
          have := hP.own
          rintro (e | e)
          · rcases hk' with e2 | e2 <;> omega
          · have := (Tr.own_lo hrow3 k' e).1
            rcases hvb k' e with e2 | e2 <;> rcases hk' with e3 | e3 <;> omega
        · rw [List.length_append, List.map_append, bp_app, ← List.append_assoc, ← Nat.add_assoc]
          exact hr2
        · rcases hat4 with e | e
          · rw [e]; exact hg3
          · exact .inr ⟨_, e, by simp; omega⟩
        · exact hO3.trans hgr5 (fun i hi h => h.elim .inl (fun e => (hvb i e).elim .inr (fun e2 => absurd e2 (by omega))))
      case stop =>
        rintro D c pre W3 _ _ h _
        exact h.elim
      case done =>
        rintro D ys W3 hD rfl ⟨⟨vo', hv, hrow3, hg3⟩, hO3⟩ hKD
        gi_wp2
        refine ⟨?_, show T.length - (nodes.length + 1) < T.length - nodes.length by omega⟩
        unfold PreI
        refine ⟨_, vo', nodes ++ [{ x with kids := (cs.length : Int) }], ini ++ cs.reverse, D :: Ds, _, _, _, _, _, _, _, _, _, _, _, _, _, _, _, _, _, _, _, _, _, _, _, _, _, _, _, _, _, _, _, _, _, _, _, _, _, _, _, _, _, _, _, _, _, _, _, rfl, ?_, ?_⟩
        · refine ⟨hv, hP.own, ?_, ?_, ?_, ?_, ?_, ?_⟩
          · have e1 : ini.length + (upto (back (cs.map (·.1))) (cs.map (·.1)).length).length = (ini ++ cs.reverse).length := by rw [upto_length]; simp
            have e2 : bp (ini.map (·.1)) ++ bp ((upto (back (cs.map (·.1))) (cs.map (·.1)).length).map (·.2)) = bp ((ini ++ cs.reverse).map (·.1)) := by rw [upto_back, ← bp_app]; simp
            rw [e1, e2] at hrow3
            exact hrow3
          · have := ownsRow_block hnr (fun i hi => hO3.block i (Tr.own_lo hnr i hi).2 (by
              rintro (rfl | rfl)
              · exact hboxr.not_row (by decide) hnr hi.symm
              · exact (rows_ne hopr hnr (by decide)).elim (fun e => by cases e) (fun e => e hi.symm)))
            simpa using this
          · intro c hc
            have hcW : Br W (fun k => k < b0 ∨ w.heap.size ≤ k) c.1 c.2 := by
              rcases List.mem_append.1 hc with h | h
              · exact hP.kids c (List.mem_append_left _ h)
              · exact hcs c (by simpa using h)
            exact ((hkid1 c hcW).only hOr1 (fun _ _ h => h.elim)).only hO3 (fun i _ hi => .inr (by have := hP.own; rcases hi with e | e <;> omega))
          · exact hP.old.trans (hOr.trans hO3 (fun i _ hi => hi.elim .inl (fun e => .inr (.inr (by omega))))) (fun i _ hi => by have := hP.own; rcases hi with e | e | e <;> omega)
          · intro E hE
            rcases List.mem_cons.1 hE with rfl | hE
            · exact ⟨by omega, hKD⟩
            · refine ⟨(hP.marks E hE).1, (hO3.block E (Array.getElem?_eq_some_iff.1 (hmr E hE)).1 ?_).trans (hmr E hE)⟩
              have h0 := hmr E hE
              rintro (e | e)
              · have := hboxr
                unfold Boxed at this
                rw [← e, h0] at this
                cases this
              · obtain ⟨o', ho', hc'⟩ := own_cells hopr (k := E) (by rw [e]; rfl)
                rw [h0] at ho'
                cases ho'
                cases hc'
          · exact List.nodup_cons.2 ⟨fun hE => by have := (Array.getElem?_eq_some_iff.1 (hP.marks D hE).2).1; omega, hP.nodup⟩
        · rw [rest_app, rest_rev, ← hT', rest_app, et]
          simp [rest, join]

end Go.Proofs.YtemlceicmpcboaaGreatDoor.Pa
