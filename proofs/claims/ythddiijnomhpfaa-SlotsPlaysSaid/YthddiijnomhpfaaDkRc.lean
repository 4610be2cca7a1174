/- The walks of the document's Fail, cut, Sync and Write: their contracts. No condition but those that each states. -/
import Derived.Test.YthddiijnomhpfaaDkRb
namespace Go.Proofs.Ythddiijnomhpfaa.Dk
open Go.RowKit

/-- The state while the first k that wait are settled. -/
def DS.part (S : DS) (q k : Nat) : DS := { S with L := stl q S.W S.L k }
theorem part_ok {S : DS} (h : S.Ok) (q k : Nat) (hk : k ≤ S.W.length) : (S.part q k).Ok := by
  have hl : (S.part q k).L.length = S.L.length := stl_length _ _ _ _
  refine ⟨by rw [hl]; exact h.lo, by rw [hl]; exact h.hi, fun i hi => stl_blk h.blk h.wat k hk i (by rw [hl] at hi; exact hi), fun j hj => ?_, h.few, h.next⟩
  rw [hl]; exact h.wat j hj

theorem part_yes (S : DS) (q k : Nat) (hb : bit q k = true) : (S.part q (k + 1)).L = (S.part q k).L.set (wAt S.W k).1 (wAt S.W k).2 := by
  show (if bit q k then _ else _) = _
  rw [if_pos hb]; rfl
theorem part_no (S : DS) (q k : Nat) (hb : bit q k = false) : S.part q (k + 1) = S.part q k := by
  show ({ S with L := if bit q k then _ else _ } : DS) = _
  rw [if_neg (by rw [hb]; decide)]; rfl

theorem bit_rem (q k : Nat) : (((q : Int) / 2 ^ (k % 64)).tmod 2 == 1) = bit q k := by
  have e : (q : Int) / 2 ^ (k % 64) = ((q / 2 ^ (k % 64) : Nat) : Int) := by simp
  rw [e]
  unfold bit
  generalize q / 2 ^ (k % 64) = x
  have e2 : ((x : Int).tmod 2) = ((x % 2 : Nat) : Int) := by rw [Int.tmod_eq_emod_of_nonneg (by omega)]; rfl
  rw [e2]
  rcases Nat.mod_two_eq_zero_or_one x with h | h <;> rw [h] <;> rfl

/-- What the region reads beside the row of texts. -/
def RefS (W : World) (r gw k n cw : Nat) (p : Nat × Bytes) : Prop := W.cell? ⟨r, 1, none⟩ = some (.slice (some ⟨gw, 0, none⟩) n cw) ∧ W.cell? ⟨gw, k * 2, none⟩ = some (.int .i64 (p.1 : Int)) ∧ W.cell? ⟨gw, k * 2 + 1, none⟩ = some (.string (strOf p.2))

theorem refS_of {W : World} {r gw k n cw : Nat} {vl : Value} {a m : Nat} {T : DS} (h : RefIn W r vl (.slice (some ⟨gw, 0, none⟩) n cw) a m T) (hn : n = T.W.length) (hk : k < n) : RefS W r gw k n cw (wAt T.W k) := by
  have hrw := h.rowW
  rw [← hn] at hrw
  obtain ⟨p1, p2⟩ := puts_at (W := T.W) (j := k) (by omega)
  have d1 := ownsRow_range hrw _ _ p1
  have d2 := ownsRow_range hrw _ _ p2
  rw [Nat.zero_add] at d1 d2
  exact ⟨h.cell (i := 1) rfl, d1, d2⟩

/-- One that waits is settled: its row of texts is another one. -/
theorem ref_one {F : Nat → Prop} {w wr : World} {r gl gw cl cw a m k q n nl : Nat} {S : DS} (hOK : S.Ok) (hn : n = S.W.length) (hk : k < n) (hb : bit q k = true) (hnl : nl = S.L.length)
    (hI : RefIn wr r (.slice (some ⟨gl, 0, none⟩) nl cl) (.slice (some ⟨gw, 0, none⟩) n cw) a m (S.part q k)) (hF : F r) (hB : Only F w wr) :
    RefS wr.drew r gw k n cw (wAt S.W k) ∧ Calls Try.prog 45 #[.slice (some ⟨gl, 0, none⟩) nl cl, .int .i64 ((wAt S.W k).1 : Int), .string (strOf (wAt S.W k).2)] wr.drew fun e w' => ∃ g' c', e = .returned (.slice (some ⟨g', 0, none⟩) nl c') ∧
      RefS w' r gw k n cw (wAt S.W k) ∧ RefS (w'.setCell ⟨r, 0, none⟩ (.slice (some ⟨g', 0, none⟩) nl c')) r gw k n cw (wAt S.W k) ∧ w'.cell? ⟨r, 0, none⟩ = some (.slice (some ⟨gl, 0, none⟩) nl cl) ∧ w'.frozen? ⟨r, 0, none⟩ = false ∧
      Hid (RefIn (w'.setCell ⟨r, 0, none⟩ (.slice (some ⟨g', 0, none⟩) nl c')) r (.slice (some ⟨g', 0, none⟩) nl c') (.slice (some ⟨gw, 0, none⟩) n cw) a m (S.part q (k + 1)) ∧ Only F w (w'.setCell ⟨r, 0, none⟩ (.slice (some ⟨g', 0, none⟩) nl c')) ∧ w.heap.size ≤ g') := by
  have hD : RefIn wr.drew r (.slice (some ⟨gl, 0, none⟩) nl cl) (.slice (some ⟨gw, 0, none⟩) n cw) a m (S.part q k) := hI.below ⟨rfl, rfl, rfl, Nat.le_refl _, fun _ _ => rfl⟩
  have hpl : (S.part q k).L.length = nl := (stl_length _ _ _ _).trans hnl.symm
  have hrl := hD.rowL
  rw [hpl] at hrl
  have hlo := hOK.lo
  have hhi := hOK.hi
  have hwat := hOK.wat k (by omega)
  refine ⟨refS_of (T := S.part q k) hD hn hk, (ref_set gl nl cl (wAt S.W k).1 (S.part q k).L (wAt S.W k).2 wr.drew hrl (hD.bl gl rfl).1 (by omega) (by omega) (by omega) hpl).mono fun e w' ⟨g', c', he, hbel, h1, h2, hrow⟩ => ?_⟩
  have h3 := hD.below hbel
  have hs := hbel.size
  have hlt := hD.lt
  have hw := h3.bw gw rfl
  have hpyes := part_yes S q k hb
  have hgr : g' ≠ r := fun e => by rw [e] at h1; exact absurd hlt (Nat.not_lt.2 h1)
  have hgw : (Value.slice (some ⟨gw, 0, none⟩) n cw).ownBlock ≠ some g' := fun e => by
    have e2 : gw = g' := by simpa [Value.ownBlock] using e
    have h5 := (hD.bw gw rfl).1
    rw [e2] at h5
    exact absurd h5 (Nat.not_lt.2 h1)
  have h4 := RefIn.putL h3 (v := .slice (some ⟨g', 0, none⟩) nl c') (T := S.part q (k + 1)) rfl (by rw [hpyes, List.length_set, hpl]; exact hrow) (fun b hb' => by cases hb'; exact ⟨h2, hgr, hgw⟩) rfl (part_ok hOK q (k + 1) (by omega)) rfl
  refine ⟨g', c', he, refS_of (T := S.part q k) h3 hn hk, refS_of (T := S.part q (k + 1)) h4 hn hk, h3.cell (i := 0) rfl, h3.free 0 (by decide), Lib.hid ⟨h4, ?_, ?_⟩⟩
  · exact (((hB.drew).trans (Only.of_below hbel) (fun _ _ e => e)).setCell ⟨r, 0, none⟩ hF _)
  · have := hB.size
    have e : wr.drew.heap.size = wr.heap.size := rfl
    omega

set_option maxHeartbeats 2000000 in
set_option maxRecDepth 100000 in
theorem ref_fail_on (r : Nat) (S : DS) (q : Nat) (_hq : q < 2 ^ 64) (F : Nat → Prop) (w : World) (h : RefAt w F r S) (hon : S.on = true) (hc : S.c ≤ 2 ^ 40) :
    Calls Try.prog 28 #[.pointer (some ⟨r, 0, none⟩), .int .u64 (q : Int)] w fun e w' => e = .returned (.tuple #[]) ∧ RefAt w' (More F w) r (S.fail q) ∧ Only F w w' := by
  obtain ⟨vl0, vw, a, m, hR, hF1, hF2, hF3⟩ := h
  have c2 := hR.cell (i := 2) rfl
  rw [hon] at c2
  obtain ⟨pw, cw, rfl, hpw⟩ := hR.formW
  have hfew := hR.ok.few
  have HOK := Lib.hid hR.ok
  have HF := Lib.hid (And.intro hF1 hF3)
  have H0 : Hid (RefIn w r vl0 (.slice pw S.W.length cw) a m (S.part q 0)) := Lib.hid hR
  have HB0 : Hid (Only F w w ∧ ∀ b, vl0.ownBlock = some b → F b ∨ w.heap.size ≤ b) := Lib.hid ⟨Only.refl _ _, fun b hb => .inl (hF2 b hb)⟩
  obtain ⟨n, hn⟩ : ∃ n, n = S.W.length := ⟨_, rfl⟩
  rw [← hn] at H0 hfew hpw HF
  have HN := Lib.hid hn
  clear hR hF1 hF2 hF3 hn
  go_enter Try.func28, Try.ntmps28
  go_wp2
  clear c2
  go_loopw [4] (fun vk wr => ∃ (k : Nat) (vl : Value), k ≤ n ∧ vk = .int .i64 k ∧ Hid (RefIn wr r vl (.slice pw n cw) a m (S.part q k)) ∧ Hid (Only F w wr ∧ ∀ b, vl.ownBlock = some b → F b ∨ w.heap.size ≤ b)) (fun vk _ => n - (intOf vk).toNat)
  case atStart => exact ⟨0, vl0, Nat.zero_le _, rfl, H0, HB0⟩
  case round =>
    clear H0 HB0
    obtain ⟨k, vl, hk, rfl, hI, hB⟩ := hrel
    have c1 := hI.out.cell (i := 1) rfl
    have y2 : (n : Int) ≤ 1099511627776 := by omega
    by_cases hkn : k < n
    · obtain ⟨gw, rfl⟩ := hpw (by omega)
      obtain ⟨gl, cl, hvl⟩ := hI.out.formL
      obtain ⟨nl, hnl⟩ : ∃ nl, nl = S.L.length := ⟨_, rfl⟩
      rw [show (S.part q k).L.length = nl from (stl_length _ _ _ _).trans hnl.symm] at hvl
      subst hvl
      have HNL := Lib.hid hnl
      have y0 : (0 : Int) ≤ (k : Int) := by omega
      have y1 : (k : Int) < (n : Int) := by omega
      have hbr := bit_rem q k
      clear hnl
      cases hbit : bit q k with
      | false =>
        rw [hbit] at hbr
        have HNX : Hid (RefIn wr r (.slice (some ⟨gl, 0, none⟩) nl cl) (.slice (some ⟨gw, 0, none⟩) n cw) a m (S.part q (k + 1))) := Lib.hid (by rw [part_no S q k hbit]; exact hI.out)
        clear hI
        go_wp2
        clear hbr c1
        go_roundw
        case rel => exact ⟨k + 1, _, by omega, by go_num, HNX, hB⟩
        case measure => simp [intOf]; omega
      | true =>
        rw [hbit] at hbr
        go_wp2_with fail
        obtain ⟨hS0, cset⟩ := ref_one HOK.out HN.out hkn hbit HNL.out hI.out HF.out.1 hB.out.1
        have CS := Lib.hid cset
        have hS1 := hS0
        have c0 := hI.out.cell (i := 0) rfl
        have c0d : wr.drew.cell? ⟨r, 0, none⟩ = some (.slice (some ⟨gl, 0, none⟩) nl cl) := c0
        clear cset
        generalize hp : wAt S.W k = p at hS0 hS1 CS
        obtain ⟨p1, p2⟩ := p
        replace hS0 : RefS wr.drew r gw k n cw (p1, p2) := hS0
        unfold RefS at hS0 hS1 CS
        clear hp hI hB
        refine wp_region_noPanic (wp_region_held_drew (S := fun W => W.cell? ⟨r, 1, none⟩ = some (.slice (some ⟨gw, 0, none⟩) n cw) ∧ W.cell? ⟨gw, k * 2, none⟩ = some (.int .i64 (p1 : Int)) ∧ W.cell? ⟨gw, k * 2 + 1, none⟩ = some (.string (strOf p2))) (by kernel_rfl) hS0 (fun hHeld => ?_))
        refine wpAnyH_take (i := 0) (v := ?_) rfl (by kernel_rfl) (by kernel_rfl) (by kernel_rfl) (fun _ _ _ h => h) (Or.inl ⟨by rfl, ?_⟩) (by assumption) ?_
        rotate_left
        · intro w' hSw
          try dsimp only at hSw
          go_simp
          first | done | with_reducible rfl
        simp only [Act.put, List.setIfInBounds_toArray]
        refine wpAnyH_take (i := 1) (v := ?_) rfl (by kernel_rfl) (by kernel_rfl) (by kernel_rfl) (fun _ _ _ h => h) (Or.inl ⟨by rfl, ?_⟩) (by assumption) ?_
        rotate_left
        · intro w' hSw
          try dsimp only at hSw
          go_simp
          first | done | with_reducible rfl
        simp only [Act.put]
        refine wpAnyH_take (i := 2) (v := ?_) rfl (by kernel_rfl) (by kernel_rfl) (by kernel_rfl) (fun _ _ _ h => h) (Or.inl ⟨by rfl, ?_⟩) (by assumption) ?_
        rotate_left
        · intro w' hSw
          try dsimp only at hSw
          go_simp
          first | done | with_reducible rfl
        simp only [Act.put]
        refine wpAnyH_take (i := 3) (v := ?_) rfl (by kernel_rfl) (by kernel_rfl) (by kernel_rfl) (fun _ _ _ h => h) (Or.inl ⟨by rfl, ?_⟩) (by assumption) ?_
        rotate_left
        · intro w' hSw
          try dsimp only at hSw
          go_simp
          first | done | with_reducible rfl
        simp only [Act.put]
        refine wpAnyH_take (i := 5) (v := ?_) rfl (by kernel_rfl) (by kernel_rfl) (by kernel_rfl) (fun _ _ _ h => h) (Or.inl ⟨by rfl, ?_⟩) (by assumption) ?_
        rotate_left
        · intro w' hSw
          try dsimp only at hSw
          go_simp
          first | done | with_reducible rfl
        simp only [Act.put]
        refine wpAnyH_take (i := 6) (v := ?_) rfl (by kernel_rfl) (by kernel_rfl) (by kernel_rfl) (fun _ _ _ h => h) (Or.inl ⟨by rfl, ?_⟩) (by assumption) ?_
        rotate_left
        · intro w' hSw
          try dsimp only at hSw
          go_simp
          first | done | with_reducible rfl
        simp only [Act.put]
        refine wpAnyH_take (i := 7) (v := ?_) rfl (by kernel_rfl) (by kernel_rfl) (by kernel_rfl) (fun _ _ _ h => h) (Or.inl ⟨by rfl, ?_⟩) (by assumption) ?_
        rotate_left
        · intro w' hSw
          try dsimp only at hSw
          go_simp
          first | done | with_reducible rfl
        simp only [Act.put]
        refine wpAnyH_take (i := 8) (v := ?_) rfl (by kernel_rfl) (by kernel_rfl) (by kernel_rfl) (fun _ _ _ h => h) (Or.inl ⟨by rfl, ?_⟩) (by assumption) ?_
        rotate_left
        · intro w' hSw
          try dsimp only at hSw
          go_simp
          first | done | with_reducible rfl
        simp only [Act.put]
        refine wpAnyH_take (i := 9) (v := ?_) rfl (by kernel_rfl) (by kernel_rfl) (by kernel_rfl) (fun _ _ _ h => h) (Or.inl ⟨by rfl, ?_⟩) (by assumption) ?_
        rotate_left
        · intro w' hSw
          try dsimp only at hSw
          go_simp
          first | done | with_reducible rfl
        simp only [Act.put]
        refine wpAnyH_take (i := 10) (v := ?_) rfl (by kernel_rfl) (by kernel_rfl) (by kernel_rfl) (fun _ _ _ h => h) (Or.inl ⟨by rfl, ?_⟩) (by assumption) ?_
        rotate_left
        · intro w' hSw
          try dsimp only at hSw
          go_simp
          first | done | with_reducible rfl
        simp only [Act.put]
        refine wpAnyH_take (i := 11) (v := ?_) rfl (by kernel_rfl) (by kernel_rfl) (by kernel_rfl) (fun _ _ _ h => h) (Or.inl ⟨by rfl, ?_⟩) (by assumption) ?_
        rotate_left
        · intro w' hSw
          try dsimp only at hSw
          go_simp
          first | done | with_reducible rfl
        simp only [Act.put]
        refine wpAnyH_take (i := 12) (v := ?_) rfl (by kernel_rfl) (by kernel_rfl) (by kernel_rfl) (fun _ _ _ h => h) (Or.inl ⟨by rfl, ?_⟩) (by assumption) ?_
        rotate_left
        · intro w' hSw
          try dsimp only at hSw
          go_simp
          first | done | with_reducible rfl
        simp only [Act.put]
        refine wpAnyH_take (i := 13) (v := ?_) rfl (by kernel_rfl) (by kernel_rfl) (by kernel_rfl) (fun _ _ _ h => h) (Or.inl ⟨by rfl, ?_⟩) (by assumption) ?_
        rotate_left
        · intro w' hSw
          try dsimp only at hSw
          go_simp
          first | done | with_reducible rfl
        simp only [Act.put]
        refine wpAnyH_take (i := 14) (v := ?_) rfl (by kernel_rfl) (by kernel_rfl) (by kernel_rfl) (fun _ _ _ h => h) (Or.inl ⟨by rfl, ?_⟩) (by assumption) ?_
        rotate_left
        · intro w' hSw
          try dsimp only at hSw
          go_simp
          first | done | with_reducible rfl
        simp only [Act.put]
        refine wpAnyH_take (i := 15) (v := ?_) rfl (by kernel_rfl) (by kernel_rfl) (by kernel_rfl) (fun _ _ _ h => h) (Or.inl ⟨by rfl, ?_⟩) (by assumption) ?_
        rotate_left
        · intro w' hSw
          try dsimp only at hSw
          go_simp
          first | done | with_reducible rfl
        simp only [Act.put]
        refine wpAnyH_take (i := 16) (v := ?_) rfl (by kernel_rfl) (by kernel_rfl) (by kernel_rfl) (fun _ _ _ h => h) (Or.inl ⟨by rfl, ?_⟩) (by assumption) ?_
        rotate_left
        · intro w' hSw
          try dsimp only at hSw
          go_simp
          first | done | with_reducible rfl
        simp only [Act.put]
        refine wpAnyH_take (i := 17) (v := ?_) rfl (by kernel_rfl) (by kernel_rfl) (by kernel_rfl) (fun _ _ _ h => h) (Or.inl ⟨by rfl, ?_⟩) (by assumption) ?_
        rotate_left
        · intro w' hSw
          try dsimp only at hSw
          go_simp
          first | done | with_reducible rfl
        simp only [Act.put]
        refine wpAnyH_take (i := 18) (v := ?_) rfl (by kernel_rfl) (by kernel_rfl) (by kernel_rfl) (fun _ _ _ h => h) (Or.inl ⟨by rfl, ?_⟩) (by assumption) ?_
        rotate_left
        · intro w' hSw
          try dsimp only at hSw
          go_simp
          first | done | with_reducible rfl
        simp only [Act.put]
        refine wpAnyH_take (i := 19) (v := ?_) rfl (by kernel_rfl) (by kernel_rfl) (by kernel_rfl) (fun _ _ _ h => h) (Or.inl ⟨by rfl, ?_⟩) (by assumption) ?_
        rotate_left
        · intro w' hSw
          try dsimp only at hSw
          go_simp
          first | done | with_reducible rfl
        simp only [Act.put]
        refine wpAnyH_take (i := 20) (v := ?_) rfl (by kernel_rfl) (by kernel_rfl) (by kernel_rfl) (fun _ _ _ h => h) (Or.inl ⟨by rfl, ?_⟩) (by assumption) ?_
        rotate_left
        · intro w' hSw
          try dsimp only at hSw
          go_simp
          first | done | with_reducible rfl
        simp only [Act.put]

        refine wpAnyH_ready (rs := [4]) (by kernel_rfl) (by simp) ?_
        refine AllReadyH.cons (o := { dst := some 29, op := .load 36 (.tmp 28), type := 36, pos := "ref.go:70", after := #[{ on := 3, ground := Ground.data }], guard := none }) rfl (fun K hK => ?_) AllReadyH.nil
        go_simp
        refine hK.out _ _ (by assumption) (fun hHeld => ?_)
        clear hK K
        try simp only [Act.put, List.setIfInBounds_toArray, List.set_cons_zero, List.set_cons_succ]
        refine wpAnyH_ready (rs := [21]) (by kernel_rfl) (by simp) ?_
        refine AllReadyH.cons (o := { dst := some 46, op := .call { callee := .value (.func 45), args := #[.tmp 29, .tmp 37, .tmp 45], argTypes := #[36, 3, 9] }, type := 36, pos := "ref.go:70", after := #[{ on := 4, ground := Ground.data }, { on := 12, ground := Ground.data }, { on := 20, ground := Ground.data }], guard := none }) rfl (fun K hK => ?_) AllReadyH.nil
        go_simp
        go_at_call 45
        refine CS.out.mono ?_
        rintro e W3 ⟨g', c', rfl, hS3, hS4, c30, f30, HZ⟩
        refine hK.out _ _ (by assumption) (fun hHeld => ?_)
        clear hK K
        try simp only [Act.put, List.setIfInBounds_toArray, List.set_cons_zero, List.set_cons_succ]
        refine wpAnyH_take (i := 22) (v := ?_) rfl (by kernel_rfl) (by kernel_rfl) (by kernel_rfl) (fun _ _ _ h => h) (Or.inl ⟨by rfl, ?_⟩) (by assumption) ?_
        rotate_left
        · intro w' hSw
          try dsimp only at hSw
          go_simp
          first | done | with_reducible rfl
        simp only [Act.put, List.setIfInBounds_toArray]
        refine wpAnyH_take (i := 23) (v := ?_) rfl (by kernel_rfl) (by kernel_rfl) (by kernel_rfl) (fun _ _ _ h => h) (Or.inl ⟨by rfl, ?_⟩) (by assumption) ?_
        rotate_left
        · intro w' hSw
          try dsimp only at hSw
          go_simp
          first | done | with_reducible rfl
        simp only [Act.put]

        refine wpAnyH_ready (rs := [24]) (by kernel_rfl) (by simp) ?_
        refine AllReadyH.cons (o := { dst := none, op := .store 36 (.tmp 48) (.tmp 46), type := 0, pos := "ref.go:70", after := #[{ on := 23, ground := Ground.data }, { on := 21, ground := Ground.data }, { on := 21, ground := Ground.chain }, { on := 0, ground := Ground.phase }, { on := 1, ground := Ground.phase }, { on := 2, ground := Ground.phase }, { on := 3, ground := Ground.phase }, { on := 4, ground := Ground.phase }, { on := 5, ground := Ground.phase }, { on := 6, ground := Ground.phase }, { on := 7, ground := Ground.phase }, { on := 8, ground := Ground.phase }, { on := 9, ground := Ground.phase }, { on := 10, ground := Ground.phase }, { on := 11, ground := Ground.phase }, { on := 12, ground := Ground.phase }, { on := 13, ground := Ground.phase }, { on := 14, ground := Ground.phase }, { on := 15, ground := Ground.phase }, { on := 16, ground := Ground.phase }, { on := 17, ground := Ground.phase }, { on := 18, ground := Ground.phase }, { on := 19, ground := Ground.phase }, { on := 20, ground := Ground.phase }, { on := 21, ground := Ground.phase }], guard := none }) rfl (fun K hK => ?_) AllReadyH.nil
        go_simp
        refine hK.out _ _ (by assumption) (fun hHeld => ?_)
        clear hK K
        try simp only [Act.put, List.setIfInBounds_toArray, List.set_cons_zero, List.set_cons_succ]
        refine wpAnyH_done (by kernel_rfl) ?_ _
        refine NoPanic.normal ?_
        have HNX := Lib.hid HZ.out.1
        have HBX : Hid (Only F w _ ∧ ∀ b, (Value.slice (some ⟨g', 0, none⟩) nl c').ownBlock = some b → F b ∨ w.heap.size ≤ b) := Lib.hid ⟨HZ.out.2.1, fun b hb => by cases hb; exact .inr HZ.out.2.2⟩
        clear hS0 hS1 hS3 hS4 c30 f30 HZ hbr c0 c0d c1
        go_wp2
        go_roundw
        case rel => exact ⟨k + 1, _, by omega, by go_num, HNX, HBX⟩
        case measure => simp [intOf]; omega
    · obtain rfl : k = n := by omega
      have c2 := hI.out.cell (i := 2) rfl
      have f1 := hI.out.free 1 (by decide)
      have f2 := hI.out.free 2 (by decide)
      have h1 := hI.out.putW (v := .slice none 0 0) (T := S.settled q) rfl (World.ownsRow_nil _ _ _ _) (fun b hb => by cases hb) (by show stl q S.W S.L S.W.length = stl q S.W S.L k; rw [← HN.out]) (HOK.out.settled q) rfl
      have h2 := h1.put 2 (by decide) (.bool true) (a' := a) (m' := m) (T := S.lose q) rfl rfl rfl ⟨h1.ok.lo, h1.ok.hi, h1.ok.blk, h1.ok.wat, h1.ok.few, h1.ok.next⟩ h1.plan h1.size
      have e : S.fail q = S.lose q := by unfold DS.fail; rw [hon]; rfl
      have HZ : Hid (RefAt _ (More F w) r (S.fail q) ∧ Only F w _) := Lib.hid (by
        rw [e]
        exact ⟨⟨vl, .slice none 0 0, a, m, h2, .inl HF.out.1, fun b hb => hB.out.2 b hb, fun b hb => by cases hb⟩, (hB.out.1.setCell ⟨r, 1, none⟩ HF.out.1 (.slice none 0 0)).setCell ⟨r, 2, none⟩ HF.out.1 (.bool true)⟩)
      clear h1 h2 hI hB
      go_wp2
      refine bodyPost_end (results_none rfl _ _ _) rfl ⟨rfl, HZ.out⟩

end Go.Proofs.Ythddiijnomhpfaa.Dk
