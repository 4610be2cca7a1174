/- The walk of the document's Sync: its contract. No condition but those that each states. -/
import Derived.Test.YthddiijnomhpfaaDkRd
namespace Go.Proofs.Ythddiijnomhpfaa.Dk
open Go.RowKit

set_option maxHeartbeats 2000000 in
set_option maxRecDepth 100000 in
theorem ref_sync_on (r : Nat) (S0 : DS) (F0 : Nat → Prop) (w0 : World) (h : RefAt w0 F0 r S0) (hon : S0.on = true) (hc : S0.c ≤ 2 ^ 40) (hops : S0.ops ≤ 2 ^ 40) :
    Calls Try.prog 44 #[.pointer (some ⟨r, 0, none⟩)] w0 fun e w' => e = .returned (.int .i64 (errOf S0.sync.2)) ∧ RefAt w' (More F0 w0) r S0.sync.1 ∧ Only F0 w0 w' := by
  have C := Lib.hid (ref_cut r S0 F0 w0 h hon hc hops)
  have c2 : w0.cell? ⟨r, 2, none⟩ = some (.bool false) := by
    obtain ⟨vl0, vw, a, m, hR, -⟩ := h
    have := hR.cell (i := 2) rfl
    rwa [hon] at this
  clear h
  cases hs : S0.step.2 with
  | false =>
    have e1 : S0.sync = S0.step := by unfold DS.sync; rw [hs]; rfl
    rw [e1, hs]
    rw [hs] at C
    go_enter Try.func44, Try.ntmps44
    go_wp2_with fail
    refine C.out.mono ?_
    rintro e w ⟨rfl, hr, ho⟩
    have HZ := Lib.hid (And.intro hr ho)
    clear hr ho
    go_wp2
    go_ret
    exact ⟨rfl, HZ.out⟩
  | true =>
    have e1 : S0.sync = (S0.step.1.settled allM, true) := by unfold DS.sync; rw [hs]; rfl
    rw [e1]
    rw [hs] at C
    have hcs : S0.step.1.c ≤ 2 ^ 40 := by
      have : S0.step.1.c = S0.c := by unfold DS.step; split <;> rfl
      omega
    obtain ⟨S, hS⟩ : ∃ S, S = S0.step.1 := ⟨_, rfl⟩
    obtain ⟨F, hF⟩ : ∃ F, F = More F0 w0 := ⟨_, rfl⟩
    rw [← hS] at C hcs ⊢
    rw [← hF] at C
    go_enter Try.func44, Try.ntmps44
    go_wp2_with fail
    refine C.out.mono ?_
    rintro e w ⟨rfl, hr, ho⟩
    have HO0 := Lib.hid ho
    have hw0 := ho.size
    clear ho C c2 hs e1 hS
    obtain ⟨vl0, vw, a, m, hR, hF1, hF2, hF3⟩ := hr
    obtain ⟨pw, cw, rfl, hpw⟩ := hR.formW
    have hfew := hR.ok.few
    have HOK := Lib.hid hR.ok
    have HF := Lib.hid (And.intro hF1 hF3)
    have H0 : Hid (RefIn w r vl0 (.slice pw S.W.length cw) a m (S.part allM 0)) := Lib.hid hR
    have HB0 : Hid (Only F w w ∧ ∀ b, vl0.ownBlock = some b → F b ∨ w.heap.size ≤ b) := Lib.hid ⟨Only.refl _ _, fun b hb => .inl (hF2 b hb)⟩
    obtain ⟨n, hn⟩ : ∃ n, n = S.W.length := ⟨_, rfl⟩
    rw [← hn] at H0 hfew hpw HF
    have HN := Lib.hid hn
    clear hR hF1 hF2 hF3 hn
    go_wp2
    go_loopw [3] (fun vk wr => ∃ (k : Nat) (vl : Value), k ≤ n ∧ vk = .int .i64 k ∧ Hid (RefIn wr r vl (.slice pw n cw) a m (S.part allM k)) ∧ Hid (Only F w wr ∧ ∀ b, vl.ownBlock = some b → F b ∨ w.heap.size ≤ b)) (fun vk _ => n - (intOf vk).toNat)
    case atStart => exact ⟨0, vl0, Nat.zero_le _, rfl, H0, HB0⟩
    case round =>
      clear H0 HB0
      obtain ⟨k, vl, hk, rfl, hI, hB⟩ := hrel
      have c1 := hI.out.cell (i := 1) rfl
      have y2 : (n : Int) ≤ 1099511627776 := by omega
      by_cases hkn : k < n
      · obtain ⟨gw, rfl⟩ := hpw (by omega)
        obtain ⟨gl, cl, hvl⟩ := hI.out.formL
        obtain ⟨nl, hnl⟩ : ∃ nl, nl = S.L.length := ⟨_, rfl⟩
        rw [show (S.part allM k).L.length = nl from (stl_length _ _ _ _).trans hnl.symm] at hvl
        subst hvl
        have HNL := Lib.hid hnl
        have y0 : (0 : Int) ≤ (k : Int) := by omega
        have y1 : (k : Int) < (n : Int) := by omega
        have hbit := bit_all k
        clear hnl
        go_wp2_with fail
        obtain ⟨hS0, cset⟩ := ref_one HOK.out HN.out hkn hbit HNL.out hI.out HF.out.1 hB.out.1
        have CS := Lib.hid cset
        have hS1 := hS0
        have c0 := hI.out.cell (i := 0) rfl
        have c0d : wr.drew.cell? ⟨r, 0, none⟩ = some (.slice (some ⟨gl, 0, none⟩) nl cl) := c0
        clear cset
        generalize hp : wAt S.W k = p at hS0 hS1 CS
        obtain ⟨p1, p2⟩ := p
        replace hS0 : RefS wr.drew r gw k n cw (p1, p2) := hS0
        unfold RefS at hS0 hS1 CS
        clear hp hI hB
        refine wp_region_noPanic (wp_region_held_drew (S := fun W => W.cell? ⟨r, 1, none⟩ = some (.slice (some ⟨gw, 0, none⟩) n cw) ∧ W.cell? ⟨gw, k * 2, none⟩ = some (.int .i64 (p1 : Int)) ∧ W.cell? ⟨gw, k * 2 + 1, none⟩ = some (.string (strOf p2))) (by kernel_rfl) hS0 (fun hHeld => ?_))
        refine wpAnyH_take (i := 0) (v := ?_) rfl (by kernel_rfl) (by kernel_rfl) (by kernel_rfl) (fun _ _ _ h => h) (Or.inl ⟨by rfl, ?_⟩) (by assumption) ?_
        rotate_left
        · intro w' hSw
          try dsimp only at hSw
          go_simp
          first | done | with_reducible rfl
        simp only [Act.put, List.setIfInBounds_toArray]
        refine wpAnyH_take (i := 1) (v := ?_) rfl (by kernel_rfl) (by kernel_rfl) (by kernel_rfl) (fun _ _ _ h => h) (Or.inl ⟨by rfl, ?_⟩) (by assumption) ?_
        rotate_left
        · intro w' hSw
          try dsimp only at hSw
          go_simp
          first | done | with_reducible rfl
        simp only [Act.put]
        refine wpAnyH_take (i := 2) (v := ?_) rfl (by kernel_rfl) (by kernel_rfl) (by kernel_rfl) (fun _ _ _ h => h) (Or.inl ⟨by rfl, ?_⟩) (by assumption) ?_
        rotate_left
        · intro w' hSw
          try dsimp only at hSw
          go_simp
          first | done | with_reducible rfl
        simp only [Act.put]
        refine wpAnyH_take (i := 3) (v := ?_) rfl (by kernel_rfl) (by kernel_rfl) (by kernel_rfl) (fun _ _ _ h => h) (Or.inl ⟨by rfl, ?_⟩) (by assumption) ?_
        rotate_left
        · intro w' hSw
          try dsimp only at hSw
          go_simp
          first | done | with_reducible rfl
        simp only [Act.put]
        refine wpAnyH_take (i := 5) (v := ?_) rfl (by kernel_rfl) (by kernel_rfl) (by kernel_rfl) (fun _ _ _ h => h) (Or.inl ⟨by rfl, ?_⟩) (by assumption) ?_
        rotate_left
        · intro w' hSw
          try dsimp only at hSw
          go_simp
          first | done | with_reducible rfl
        simp only [Act.put]
        refine wpAnyH_take (i := 6) (v := ?_) rfl (by kernel_rfl) (by kernel_rfl) (by kernel_rfl) (fun _ _ _ h => h) (Or.inl ⟨by rfl, ?_⟩) (by assumption) ?_
        rotate_left
        · intro w' hSw
          try dsimp only at hSw
          go_simp
          first | done | with_reducible rfl
        simp only [Act.put]
        refine wpAnyH_take (i := 7) (v := ?_) rfl (by kernel_rfl) (by kernel_rfl) (by kernel_rfl) (fun _ _ _ h => h) (Or.inl ⟨by rfl, ?_⟩) (by assumption) ?_
        rotate_left
        · intro w' hSw
          try dsimp only at hSw
          go_simp
          first | done | with_reducible rfl
        simp only [Act.put]
        refine wpAnyH_take (i := 8) (v := ?_) rfl (by kernel_rfl) (by kernel_rfl) (by kernel_rfl) (fun _ _ _ h => h) (Or.inl ⟨by rfl, ?_⟩) (by assumption) ?_
        rotate_left
        · intro w' hSw
          try dsimp only at hSw
          go_simp
          first | done | with_reducible rfl
        simp only [Act.put]
        refine wpAnyH_take (i := 9) (v := ?_) rfl (by kernel_rfl) (by kernel_rfl) (by kernel_rfl) (fun _ _ _ h => h) (Or.inl ⟨by rfl, ?_⟩) (by assumption) ?_
        rotate_left
        · intro w' hSw
          try dsimp only at hSw
          go_simp
          first | done | with_reducible rfl
        simp only [Act.put]
        refine wpAnyH_take (i := 10) (v := ?_) rfl (by kernel_rfl) (by kernel_rfl) (by kernel_rfl) (fun _ _ _ h => h) (Or.inl ⟨by rfl, ?_⟩) (by assumption) ?_
        rotate_left
        · intro w' hSw
          try dsimp only at hSw
          go_simp
          first | done | with_reducible rfl
        simp only [Act.put]
        refine wpAnyH_take (i := 11) (v := ?_) rfl (by kernel_rfl) (by kernel_rfl) (by kernel_rfl) (fun _ _ _ h => h) (Or.inl ⟨by rfl, ?_⟩) (by assumption) ?_
        rotate_left
        · intro w' hSw
          try dsimp only at hSw
          go_simp
          first | done | with_reducible rfl
        simp only [Act.put]
        refine wpAnyH_take (i := 12) (v := ?_) rfl (by kernel_rfl) (by kernel_rfl) (by kernel_rfl) (fun _ _ _ h => h) (Or.inl ⟨by rfl, ?_⟩) (by assumption) ?_
        rotate_left
        · intro w' hSw
          try dsimp only at hSw
          go_simp
          first | done | with_reducible rfl
        simp only [Act.put]
        refine wpAnyH_take (i := 13) (v := ?_) rfl (by kernel_rfl) (by kernel_rfl) (by kernel_rfl) (fun _ _ _ h => h) (Or.inl ⟨by rfl, ?_⟩) (by assumption) ?_
        rotate_left
        · intro w' hSw
          try dsimp only at hSw
          go_simp
          first | done | with_reducible rfl
        simp only [Act.put]
        refine wpAnyH_take (i := 14) (v := ?_) rfl (by kernel_rfl) (by kernel_rfl) (by kernel_rfl) (fun _ _ _ h => h) (Or.inl ⟨by rfl, ?_⟩) (by assumption) ?_
        rotate_left
        · intro w' hSw
          try dsimp only at hSw
          go_simp
          first | done | with_reducible rfl
        simp only [Act.put]
        refine wpAnyH_take (i := 15) (v := ?_) rfl (by kernel_rfl) (by kernel_rfl) (by kernel_rfl) (fun _ _ _ h => h) (Or.inl ⟨by rfl, ?_⟩) (by assumption) ?_
        rotate_left
        · intro w' hSw
          try dsimp only at hSw
          go_simp
          first | done | with_reducible rfl
        simp only [Act.put]
        refine wpAnyH_take (i := 16) (v := ?_) rfl (by kernel_rfl) (by kernel_rfl) (by kernel_rfl) (fun _ _ _ h => h) (Or.inl ⟨by rfl, ?_⟩) (by assumption) ?_
        rotate_left
        · intro w' hSw
          try dsimp only at hSw
          go_simp
          first | done | with_reducible rfl
        simp only [Act.put]
        refine wpAnyH_take (i := 17) (v := ?_) rfl (by kernel_rfl) (by kernel_rfl) (by kernel_rfl) (fun _ _ _ h => h) (Or.inl ⟨by rfl, ?_⟩) (by assumption) ?_
        rotate_left
        · intro w' hSw
          try dsimp only at hSw
          go_simp
          first | done | with_reducible rfl
        simp only [Act.put]
        refine wpAnyH_take (i := 18) (v := ?_) rfl (by kernel_rfl) (by kernel_rfl) (by kernel_rfl) (fun _ _ _ h => h) (Or.inl ⟨by rfl, ?_⟩) (by assumption) ?_
        rotate_left
        · intro w' hSw
          try dsimp only at hSw
          go_simp
          first | done | with_reducible rfl
        simp only [Act.put]
        refine wpAnyH_take (i := 19) (v := ?_) rfl (by kernel_rfl) (by kernel_rfl) (by kernel_rfl) (fun _ _ _ h => h) (Or.inl ⟨by rfl, ?_⟩) (by assumption) ?_
        rotate_left
        · intro w' hSw
          try dsimp only at hSw
          go_simp
          first | done | with_reducible rfl
        simp only [Act.put]
        refine wpAnyH_take (i := 20) (v := ?_) rfl (by kernel_rfl) (by kernel_rfl) (by kernel_rfl) (fun _ _ _ h => h) (Or.inl ⟨by rfl, ?_⟩) (by assumption) ?_
        rotate_left
        · intro w' hSw
          try dsimp only at hSw
          go_simp
          first | done | with_reducible rfl
        simp only [Act.put]

        refine wpAnyH_ready (rs := [4]) (by kernel_rfl) (by simp) ?_
        refine AllReadyH.cons (o := { dst := some 25, op := .load 36 (.tmp 24), type := 36, pos := "ref.go:113", after := #[{ on := 3, ground := Ground.data }], guard := none }) rfl (fun K hK => ?_) AllReadyH.nil
        go_simp
        refine hK.out _ _ (by assumption) (fun hHeld => ?_)
        clear hK K
        try simp only [Act.put, List.setIfInBounds_toArray, List.set_cons_zero, List.set_cons_succ]
        refine wpAnyH_ready (rs := [21]) (by kernel_rfl) (by simp) ?_
        refine AllReadyH.cons (o := { dst := some 42, op := .call { callee := .value (.func 45), args := #[.tmp 25, .tmp 33, .tmp 41], argTypes := #[36, 3, 9] }, type := 36, pos := "ref.go:113", after := #[{ on := 4, ground := Ground.data }, { on := 12, ground := Ground.data }, { on := 20, ground := Ground.data }], guard := none }) rfl (fun K hK => ?_) AllReadyH.nil
        go_simp
        go_at_call 45
        refine CS.out.mono ?_
        rintro e W3 ⟨g', c', rfl, hS3, hS4, c30, f30, HZ⟩
        refine hK.out _ _ (by assumption) (fun hHeld => ?_)
        clear hK K
        try simp only [Act.put, List.setIfInBounds_toArray, List.set_cons_zero, List.set_cons_succ]
        refine wpAnyH_take (i := 22) (v := ?_) rfl (by kernel_rfl) (by kernel_rfl) (by kernel_rfl) (fun _ _ _ h => h) (Or.inl ⟨by rfl, ?_⟩) (by assumption) ?_
        rotate_left
        · intro w' hSw
          try dsimp only at hSw
          go_simp
          first | done | with_reducible rfl
        simp only [Act.put, List.setIfInBounds_toArray]
        refine wpAnyH_take (i := 23) (v := ?_) rfl (by kernel_rfl) (by kernel_rfl) (by kernel_rfl) (fun _ _ _ h => h) (Or.inl ⟨by rfl, ?_⟩) (by assumption) ?_
        rotate_left
        · intro w' hSw
          try dsimp only at hSw
          go_simp
          first | done | with_reducible rfl
        simp only [Act.put]

        refine wpAnyH_ready (rs := [24]) (by kernel_rfl) (by simp) ?_
        refine AllReadyH.cons (o := { dst := none, op := .store 36 (.tmp 44) (.tmp 42), type := 0, pos := "ref.go:113", after := #[{ on := 23, ground := Ground.data }, { on := 21, ground := Ground.data }, { on := 21, ground := Ground.chain }, { on := 0, ground := Ground.phase }, { on := 1, ground := Ground.phase }, { on := 2, ground := Ground.phase }, { on := 3, ground := Ground.phase }, { on := 4, ground := Ground.phase }, { on := 5, ground := Ground.phase }, { on := 6, ground := Ground.phase }, { on := 7, ground := Ground.phase }, { on := 8, ground := Ground.phase }, { on := 9, ground := Ground.phase }, { on := 10, ground := Ground.phase }, { on := 11, ground := Ground.phase }, { on := 12, ground := Ground.phase }, { on := 13, ground := Ground.phase }, { on := 14, ground := Ground.phase }, { on := 15, ground := Ground.phase }, { on := 16, ground := Ground.phase }, { on := 17, ground := Ground.phase }, { on := 18, ground := Ground.phase }, { on := 19, ground := Ground.phase }, { on := 20, ground := Ground.phase }, { on := 21, ground := Ground.phase }], guard := none }) rfl (fun K hK => ?_) AllReadyH.nil
        go_simp
        refine hK.out _ _ (by assumption) (fun hHeld => ?_)
        clear hK K
        try simp only [Act.put, List.setIfInBounds_toArray, List.set_cons_zero, List.set_cons_succ]
        refine wpAnyH_done (by kernel_rfl) ?_ _
        refine NoPanic.normal ?_
        have HNX := Lib.hid HZ.out.1
        have HBX : Hid (Only F w _ ∧ ∀ b, (Value.slice (some ⟨g', 0, none⟩) nl c').ownBlock = some b → F b ∨ w.heap.size ≤ b) := Lib.hid ⟨HZ.out.2.1, fun b hb => by cases hb; exact .inr HZ.out.2.2⟩
        clear hS0 hS1 hS3 hS4 c30 f30 HZ c0 c0d c1
        go_wp2
        go_roundw
        case rel => exact ⟨k + 1, _, by omega, by go_num, HNX, HBX⟩
        case measure => simp [intOf]; omega
      · obtain rfl : k = n := by omega
        have f1 := hI.out.free 1 (by decide)
        have h1 := hI.out.putW (v := .slice none 0 0) (T := S.settled allM) rfl (World.ownsRow_nil _ _ _ _) (fun b hb => by cases hb) (by show stl allM S.W S.L S.W.length = stl allM S.W S.L k; rw [← HN.out]) (HOK.out.settled allM) rfl
        have HZ : Hid (RefAt _ (More F0 w0) r (S.settled allM) ∧ Only F0 w0 _) := Lib.hid (by
          have o1 := hB.out.1.setCell ⟨r, 1, none⟩ HF.out.1 (.slice none 0 0)
          subst hF
          exact ⟨⟨vl, .slice none 0 0, a, m, h1, HF.out.1, fun b hb => (hB.out.2 b hb).elim id (fun e => .inr (Nat.le_trans hw0 e)), fun b hb => by cases hb⟩, HO0.out.trans o1 (fun i hi e => e.elim id (fun e => absurd hi (Nat.not_lt.2 e)))⟩)
        clear h1 hI hB
        go_wp2
        go_ret
        exact ⟨rfl, HZ.out⟩

end Go.Proofs.Ythddiijnomhpfaa.Dk
