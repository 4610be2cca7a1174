/- The walk of ring.Append: its contract. No condition but those that each states. -/
import Derived.Test.YtkplmaaeggnbgaaDoorRgF
namespace Go.Proofs.YtkplmaaeggnbgaaDoor.Rg
open Go.RowKit Dk

def Ent.num (e : Ent) (n : Int) : Ent := { e with number := n }

theorem EB.num {W : World} {B : Nat} {e : Ent} (h : EB W B e) (n : Int) : EB (W.setCell ⟨B, 1, none⟩ (.int .i64 n)) B (e.num n) := by
  have hc : ∀ j v, e.cells[j]? = some v → W.cell? ⟨B, j, none⟩ = some v := fun j v hv => by have := h.cells j v hv; rwa [Nat.zero_add] at this
  refine ⟨fun j v hv => ?_, there_setCell h.room _ _, by simpa using h.lt⟩
  rw [Nat.zero_add]
  by_cases hj : j = 1
  · subst hj
    cases hv
    exact World.cell?_setCell_same _ _ _ (hc 1 _ rfl)
  · rw [World.cell?_setCell_other _ _ _ _ (by intro e'; simp at e'; first | done | omega)]
    refine hc j v ?_
    rw [← hv]
    match j, hj with
    | 0, _ => rfl
    | j + 2, _ => rfl

theorem EB.cell1 {W : World} {B : Nat} {e : Ent} (h : EB W B e) : W.cell? ⟨B, 1, none⟩ = some (.int .i64 e.number) := by have := h.cells 1 _ rfl; rwa [Nat.zero_add] at this
theorem EB.free1 {W : World} {B : Nat} {e : Ent} (h : EB W B e) : W.frozen? ⟨B, 1, none⟩ = false := (h.room 1 (by decide)).2

/-- Append under way: its entry and its result in blocks of their own, beside a disk. -/
structure AppW (w W : World) (F G : Nat → Prop) (g : Nat) (S : DS) (e r : Ent) : Prop where
  arg : EB W w.heap.size e
  res : EB W (w.heap.size + 1) r
  disk : DiskAt W G g S
  only : Only F w W
  far : ∀ k, G k → (F k ∧ k < w.heap.size) ∨ w.heap.size + 2 ≤ k

section
variable {w W W' : World} {F G : Nat → Prop} {g : Nat} {S T : DS} {e r : Ent}
theorem AppW.later (h : AppW w W F G g S e r) (k : Below W.heap.size W W') : AppW w W' F G g S e r :=
  ⟨h.arg.later k, h.res.later k, h.disk.below k, h.only.trans (Only.of_below (F := F) k) (fun _ _ x => x), h.far⟩
theorem AppW.call (h : AppW w W F G g S e r) (hD : DiskAt W' (More G W) g T) (k : Only G W W') : AppW w W' F (More G W) g T e r := by
  have hs := h.res.lt
  refine ⟨h.arg.only k (fun x => by rcases h.far _ x with ⟨_, y⟩ | y <;> omega), h.res.only k (fun x => by rcases h.far _ x with ⟨_, y⟩ | y <;> omega), hD,
    h.only.trans k (fun i hi x => by rcases h.far _ x with ⟨y, _⟩ | y; exact y; omega), fun i hi => ?_⟩
  rcases hi with x | x
  · exact h.far i x
  · exact .inr (by omega)
theorem AppW.num (h : AppW w W F G g S e r) (n : Int) : AppW w (W.setCell ⟨w.heap.size, 1, none⟩ (.int .i64 n)) F G g S (e.num n) r := by
  have k : Only (fun i => i = w.heap.size) W (W.setCell ⟨w.heap.size, 1, none⟩ (.int .i64 n)) := Only.setCell (F := fun i => i = w.heap.size) (Only.refl _ W) ⟨w.heap.size, 1, none⟩ rfl _
  refine ⟨h.arg.num n, h.res.only k (fun x => by omega), h.disk.kept k (fun i x y => by rcases h.far _ x with ⟨_, z⟩ | z <;> omega), h.only.trans k (fun i hi x => by omega), h.far⟩
theorem AppW.put (h : AppW w W F G g S e r) (x : Ent) : AppW w (W.setCells (w.heap.size + 1) 0 x.cells.toArray.toList) F G g S e x := by
  have k : Only (fun i => i = w.heap.size + 1) W (W.setCells (w.heap.size + 1) 0 x.cells.toArray.toList) := Only.setCells (F := fun i => i = w.heap.size + 1) (w.heap.size + 1) rfl _ _ _ (Only.refl _ W)
  refine ⟨h.arg.only k (fun x => by omega), h.res.set x, h.disk.kept k (fun i x y => by rcases h.far _ x with ⟨_, z⟩ | z <;> omega), h.only.trans k (fun i hi x => by omega), h.far⟩
theorem AppW.done (h : AppW w W F G g S e r) : DiskAt W (More F w) g S ∧ Only F w W :=
  ⟨h.disk.mono (fun k x => by rcases h.far _ x with ⟨y, _⟩ | y; exact .inl y; exact .inr (by omega)), h.only⟩
theorem appW_new (hD : DiskAt w F g S) (e : Ent) (t u : TypeId) : AppW w ((w.alloc (.cells e.cells.toArray t)).alloc (.cells Ent.zero.cells.toArray u)) F (fun k => F k ∧ k < w.heap.size) g S e Ent.zero := by
  have h1 := eb_new w e t
  have hb : Below w.heap.size w (w.alloc (.cells e.cells.toArray t)) := (Below.refl _ _).alloc (Nat.le_refl _) _
  have e1 : (w.alloc (.cells e.cells.toArray t)).heap.size = w.heap.size + 1 := by simp
  generalize w.alloc (.cells e.cells.toArray t) = W1 at h1 hb e1 ⊢
  have h2 := eb_new W1 Ent.zero u
  have hb2 : Below W1.heap.size W1 (W1.alloc (.cells Ent.zero.cells.toArray u)) := (Below.refl _ _).alloc (Nat.le_refl _) _
  rw [e1] at h2
  exact ⟨h1.later hb2, h2, (hD.tight.below hb).below hb2, Only.of_below (chain2 hb hb2), fun k hk => .inl hk⟩
end

/-- The number of the last entry. -/
def lastN (S : DS) : Int := ((lastE S).getD Ent.zero).number

theorem lastE_valid {S : DS} {e : Ent} (h : lastE S = some e) : e.valid = true := by
  have hm : e ∈ scan S.read 8 := List.mem_of_getLast? h
  obtain ⟨i, _, hf⟩ := mem_scan.1 hm
  exact (parse_some (found_some hf).1).2.2.1

theorem lastN_ok (S : DS) : 0 ≤ lastN S ∧ lastN S ≤ 4294967295 := by
  unfold lastN
  cases h : lastE S with
  | none => exact ⟨by decide, by decide⟩
  | some e =>
    have := valid_number (lastE_valid h)
    exact ⟨by simp; omega, by simp; omega⟩

set_option maxHeartbeats 2000000 in
set_option maxRecDepth 100000 in
theorem app_err (F : Nat → Prop) (g : Nat) (S : DS) (e : Ent) (w : World) (hD : DiskAt w F g S) (x : Ent) (b : Bool) (k : Int) (hk : k = 7 ∨ k = 16)
    (CL : ∀ W, Below w.heap.size w W → Calls Tryd.prog 31 #[.pointer (some ⟨g, 0, none⟩)] W fun y w' => y = .returned (.tuple #[.agg x.cells.toArray, .bool b, .int .i64 k]) ∧ Below W.heap.size W w') :
    Calls Tryd.prog 16 #[.pointer (some ⟨g, 0, none⟩), .agg e.cells.toArray] w fun y w' => y = .returned (.tuple #[.agg Ent.zero.cells.toArray, .int .i64 k]) ∧ DiskAt w' (More F w) g S ∧ Only F w w' := by
  have HL := Lib.hid CL
  have HW0 := Lib.hid (appW_new hD e 47 47)
  have HB0 : Hid (Below w.heap.size w ((w.alloc (.cells e.cells.toArray 47)).alloc (.cells Ent.zero.cells.toArray 47))) := Lib.hid (((Below.refl _ _).alloc (Nat.le_refl _) _).alloc (by simp) _)
  have t0 : (k != 0) = true := by rcases hk with rfl | rfl <;> rfl
  have t1 : (k == 0) = false := by rcases hk with rfl | rfl <;> rfl
  clear hk
  clear CL hD
  go_enter Tryd.func16, Tryd.ntmps16
  go_wp2_with fail
  refine (HL.out _ HB0.out).mono ?_
  rintro y w1 ⟨rfl, hb⟩
  have HW1 := Lib.hid (HW0.out.later hb)
  clear hb HL HB0 HW0
  have HZ := Lib.hid (eb_zero w1)
  have HX := Lib.hid (eb_put (Below.refl w1.heap.size w1) x)
  go_wp2_with (first
    | (refine wpList_store_mid rfl 47 (.tmp 6) (.tmp 15) rfl w1.heap.size 0 x.cells.toArray rfl rfl HZ.out.room (e_infoA x) (e_all x) ?_; generalize World.setCells _ _ _ _ = W2 at HX ⊢; have HW2 := Lib.hid (HW1.out.later HX.out.2.1); have HX2 := Lib.hid HX.out.1; clear HX HW1 HZ)
    | (refine wpList_store_mid rfl 47 (.tmp 4) (.tmp 20) rfl (w.heap.size + 1) 0 Ent.zero.cells.toArray rfl rfl HW2.out.res.room (e_infoA _) (e_all _) ?_; have HF := Lib.hid (HW2.out.put Ent.zero); generalize World.setCells _ _ _ _ = W9 at HF ⊢))
  refine bodyPost_ret (results_cell2 rfl _ _ rfl HF.out.res.cells Tryd.underlying47 rfl (e_info _)) rfl ?_
  exact ⟨rfl, HF.out.done⟩

set_option maxHeartbeats 2000000 in
set_option maxRecDepth 100000 in
theorem app_full (F : Nat → Prop) (g : Nat) (S : DS) (e : Ent) (w : World) (hD : DiskAt w F g S) (x : Ent) (b : Bool) (hx : x.number = 4294967295)
    (CL : ∀ W, Below w.heap.size w W → Calls Tryd.prog 31 #[.pointer (some ⟨g, 0, none⟩)] W fun y w' => y = .returned (.tuple #[.agg x.cells.toArray, .bool b, .int .i64 0]) ∧ Below W.heap.size W w') :
    Calls Tryd.prog 16 #[.pointer (some ⟨g, 0, none⟩), .agg e.cells.toArray] w fun y w' => y = .returned (.tuple #[.agg Ent.zero.cells.toArray, .int .i64 6]) ∧ DiskAt w' (More F w) g S ∧ Only F w w' := by
  have HL := Lib.hid CL
  have HW0 := Lib.hid (appW_new hD e 47 47)
  have HB0 : Hid (Below w.heap.size w ((w.alloc (.cells e.cells.toArray 47)).alloc (.cells Ent.zero.cells.toArray 47))) := Lib.hid (((Below.refl _ _).alloc (Nat.le_refl _) _).alloc (by simp) _)
  have HN := Lib.hid hx
  clear hx
  clear CL hD
  go_enter Tryd.func16, Tryd.ntmps16
  go_wp2_with fail
  refine (HL.out _ HB0.out).mono ?_
  rintro y w1 ⟨rfl, hb⟩
  have HW1 := Lib.hid (HW0.out.later hb)
  clear hb HL HB0 HW0
  have HZ := Lib.hid (eb_zero w1)
  have HX := Lib.hid (eb_put (Below.refl w1.heap.size w1) x)
  go_wp2_with (first
    | (refine wpList_store_mid rfl 47 (.tmp 6) (.tmp 15) rfl w1.heap.size 0 x.cells.toArray rfl rfl HZ.out.room (e_infoA x) (e_all x) ?_; generalize World.setCells _ _ _ _ = W2 at HX ⊢; have HW2 := Lib.hid (HW1.out.later HX.out.2.1); have HX2 := Lib.hid HX.out.1; clear HX HW1 HZ; have c1 := HX2.out.cell1; rw [HN.out] at c1)
    | (refine wpList_store_mid rfl 47 (.tmp 4) (.tmp 25) rfl (w.heap.size + 1) 0 Ent.zero.cells.toArray rfl rfl HW2.out.res.room (e_infoA _) (e_all _) ?_; have HF := Lib.hid (HW2.out.put Ent.zero); generalize World.setCells _ _ _ _ = W9 at HF ⊢))
  refine bodyPost_ret (results_cell2 rfl _ _ rfl HF.out.res.cells Tryd.underlying47 rfl (e_info _)) rfl ?_
  exact ⟨rfl, HF.out.done⟩

set_option maxHeartbeats 2000000 in
set_option maxRecDepth 100000 in
theorem app_bad (F : Nat → Prop) (g : Nat) (S : DS) (e : Ent) (w : World) (hD : DiskAt w F g S) (x : Ent) (b : Bool) (hx0 : 0 ≤ x.number) (hx1 : x.number < 4294967295) (HK : HasK w) (hv : (e.num (x.number + 1)).valid = false)
    (CL : ∀ W, Below w.heap.size w W → Calls Tryd.prog 31 #[.pointer (some ⟨g, 0, none⟩)] W fun y w' => y = .returned (.tuple #[.agg x.cells.toArray, .bool b, .int .i64 0]) ∧ Below W.heap.size W w') :
    Calls Tryd.prog 16 #[.pointer (some ⟨g, 0, none⟩), .agg e.cells.toArray] w fun y w' => y = .returned (.tuple #[.agg Ent.zero.cells.toArray, .int .i64 1]) ∧ DiskAt w' (More F w) g S ∧ Only F w w' := by
  have HL := Lib.hid CL
  have HW0 := Lib.hid (appW_new hD e 47 47)
  have HB0 : Hid (Below w.heap.size w ((w.alloc (.cells e.cells.toArray 47)).alloc (.cells Ent.zero.cells.toArray 47))) := Lib.hid (((Below.refl _ _).alloc (Nat.le_refl _) _).alloc (by simp) _)
  have HHK := Lib.hid HK
  obtain ⟨n, hn⟩ : ∃ n, n = x.number := ⟨_, rfl⟩
  rw [← hn] at hx0 hx1 hv
  have u0 : (n == 4294967295) = false := by simp; omega
  have u1 : decide (n = 4294967295) = false := decide_eq_false (by omega)
  have HN := Lib.hid hn
  clear hn HK
  have CB := Lib.hid (fun W => build_no (e.num (n + 1)) hv W)
  clear hv
  clear CL hD
  go_enter Tryd.func16, Tryd.ntmps16
  go_wp2_with fail
  refine (HL.out _ HB0.out).mono ?_
  rintro y w1 ⟨rfl, hb⟩
  have HW1 := Lib.hid (HW0.out.later hb)
  clear hb HL HB0 HW0
  have HZ := Lib.hid (eb_zero w1)
  have HX := Lib.hid (eb_put (Below.refl w1.heap.size w1) x)
  go_wp2_with (first
    | (refine wpList_store_mid rfl 47 (.tmp 6) (.tmp 15) rfl w1.heap.size 0 x.cells.toArray rfl rfl HZ.out.room (e_infoA x) (e_all x) ?_; generalize World.setCells _ _ _ _ = W2 at HX ⊢; have HW2 := Lib.hid (HW1.out.later HX.out.2.1); have HX2 := Lib.hid HX.out.1; clear HX HW1 HZ; have c1 := HX2.out.cell1; rw [← HN.out] at c1; have c2 := HW2.out.arg.cell1; have f2 := HW2.out.arg.free1; have HW3 := Lib.hid (HW2.out.num (n + 1)))
    | (refine wpList_load_mid rfl 47 (.tmp 3) rfl w.heap.size 0 rfl (e.num (n + 1)).cells _ HW3.out.arg.cells Tryd.underlying47 rfl (e_info _) ?_)
    | (go_at_call 53; generalize World.setCell _ _ _ = W3 at HW3 ⊢; refine (CB.out _).mono ?_; rintro y W4 ⟨rfl, hb⟩; have HW4 := Lib.hid (HW3.out.later hb); clear hb HW3 CB c1 c2 f2)
    | (refine wpList_store_mid rfl 47 (.tmp 4) (.tmp 37) rfl (w.heap.size + 1) 0 Ent.zero.cells.toArray rfl rfl HW4.out.res.room (e_infoA _) (e_all _) ?_; have HF := Lib.hid (HW4.out.put Ent.zero); generalize World.setCells _ _ _ _ = W9 at HF ⊢))
  refine bodyPost_ret (results_cell2 rfl _ _ rfl HF.out.res.cells Tryd.underlying47 rfl (e_info _)) rfl ?_
  exact ⟨rfl, HF.out.done⟩

theorem write_true {S T : DS} {i : Nat} {s : Bytes} (h : S.write i s = (T, true)) : T.on = S.on ∧ T.c = S.c + 1 ∧ T.ops = S.ops + 1 := by
  unfold DS.write DS.step at h
  split at h
  · cases h; exact ⟨rfl, rfl, rfl⟩
  · cases h
  · cases h; exact ⟨rfl, rfl, rfl⟩

theorem HasK.only {w w' : World} {F : Nat → Prop} (h : HasK w) (k : Only F w w') (hF : ¬F 0) : HasK w' :=
  ⟨Nat.lt_of_lt_of_le h.lt k.size, rangeAt_block h.cells (k.block 0 h.lt hF)⟩

theorem DiskAt.more' {w w' : World} {F : Nat → Prop} {g : Nat} {S : DS} (h : DiskAt w F g S) : DiskAt w (More F w') g S := h.mono (fun _ e => .inl e)

set_option maxHeartbeats 2000000 in
set_option maxRecDepth 100000 in
theorem app_nowrite (F : Nat → Prop) (g : Nat) (S : DS) (e : Ent) (w : World) (hD : DiskAt w F g S) (x : Ent) (b : Bool) (hx0 : 0 ≤ x.number) (hx1 : x.number < 4294967295) (HK : HasK w) (hF : ¬F 0) (hv : (e.num (x.number + 1)).valid = true) (hon : S.on = true) (hc : S.c < 2 ^ 40) (ho : S.ops < 2 ^ 40) (T : DS) (hT : S.write ((e.num (x.number + 1)).number % 8).toNat (e.num (x.number + 1)).blk = (T, false))
    (CL : ∀ W, Below w.heap.size w W → Calls Tryd.prog 31 #[.pointer (some ⟨g, 0, none⟩)] W fun y w' => y = .returned (.tuple #[.agg x.cells.toArray, .bool b, .int .i64 0]) ∧ Below W.heap.size W w') :
    Calls Tryd.prog 16 #[.pointer (some ⟨g, 0, none⟩), .agg e.cells.toArray] w fun y w' => y = .returned (.tuple #[.agg Ent.zero.cells.toArray, .int .i64 7]) ∧ DiskAt w' (More F w) g T ∧ Only F w w' := by
  have HL := Lib.hid CL
  have HW0 := Lib.hid (appW_new hD e 47 47)
  have HB0 : Hid (Below w.heap.size w ((w.alloc (.cells e.cells.toArray 47)).alloc (.cells Ent.zero.cells.toArray 47))) := Lib.hid (((Below.refl _ _).alloc (Nat.le_refl _) _).alloc (by simp) _)
  have HHK := Lib.hid HK
  obtain ⟨n, hn⟩ : ∃ n, n = x.number := ⟨_, rfl⟩
  rw [← hn] at hx0 hx1 hv hT
  have u0 : (n == 4294967295) = false := by simp; omega
  have u1 : decide (n = 4294967295) = false := decide_eq_false (by omega)
  have HN := Lib.hid hn
  clear hn HK
  have HF0 := Lib.hid hF
  have CB := Lib.hid (fun W HK => build_yes (e.num (n + 1)) hv W HK)
  have CH := Lib.hid (fun W => home_any (e.num (n + 1)) (show 0 ≤ n + 1 by omega) W)
  have hhi : ((e.num (n + 1)).number % 8).toNat < S.L.length ∧ (e.num (n + 1)).number % 8 = (((e.num (n + 1)).number % 8).toNat : Int) := ⟨by have := hD.ok.lo; have h2 : (e.num (n + 1)).number = n + 1 := rfl; omega, by have h2 : (e.num (n + 1)).number = n + 1 := rfl; omega⟩
  have hbl := blk_length (valid_sum hv)
  generalize ((e.num (n + 1)).number % 8).toNat = q at *
  generalize (e.num (n + 1)).number % 8 = z at *
  generalize (e.num (n + 1)).blk = bl at *
  obtain ⟨hq, rfl⟩ := hhi
  have CW : Hid (∀ W G, DiskAt W G g S → Calls Tryd.prog 20 #[.pointer (some ⟨g, 0, none⟩), .int .i64 (q : Int), .string (strOf bl)] W fun y w' => y = .returned (.int .i64 7) ∧ DiskAt w' (More G W) g T ∧ Only G W w') := Lib.hid (fun W G hd => by
    have := write_ok G g S q bl W hd hon hq hbl hc (Nat.le_of_lt ho)
    rw [hT] at this
    exact this)
  clear hT
  clear hv hF hon hc ho hq hbl
  clear CL hD
  go_enter Tryd.func16, Tryd.ntmps16
  go_wp2_with fail
  refine (HL.out _ HB0.out).mono ?_
  rintro y w1 ⟨rfl, hb⟩
  have HW1 := Lib.hid (HW0.out.later hb)
  clear hb HL HB0 HW0
  have HZ := Lib.hid (eb_zero w1)
  have HX := Lib.hid (eb_put (Below.refl w1.heap.size w1) x)
  go_wp2_with (first
    | (refine wpList_store_mid rfl 47 (.tmp 6) (.tmp 15) rfl w1.heap.size 0 x.cells.toArray rfl rfl HZ.out.room (e_infoA x) (e_all x) ?_; generalize World.setCells _ _ _ _ = W2 at HX ⊢; have HW2 := Lib.hid (HW1.out.later HX.out.2.1); have HX2 := Lib.hid HX.out.1; clear HX HW1 HZ; have c1 := HX2.out.cell1; rw [← HN.out] at c1; have c2 := HW2.out.arg.cell1; have f2 := HW2.out.arg.free1; have HW3 := Lib.hid (HW2.out.num (n + 1)))
    | (refine wpList_load_mid rfl 47 (.tmp 3) rfl w.heap.size 0 rfl (e.num (n + 1)).cells _ HW3.out.arg.cells Tryd.underlying47 rfl (e_info _) ?_)
    | (go_at_call 53; generalize World.setCell _ _ _ = W3 at HW3 ⊢; refine (CB.out _ (HasK.only HHK.out HW3.out.only HF0.out)).mono ?_; rintro y W4 ⟨rfl, hb⟩; have HW4 := Lib.hid (HW3.out.later hb); clear hb HW3 CB c1 c2 f2)
    | (refine wpList_load_mid rfl 47 (.tmp 3) rfl w.heap.size 0 rfl (e.num (n + 1)).cells _ HW4.out.arg.cells Tryd.underlying47 rfl (e_info _) ?_)
    | (go_at_call 54; refine (CH.out _).mono ?_; rintro y W5 ⟨rfl, hb⟩; have HW5 := Lib.hid (HW4.out.later hb); clear hb HW4 CH)
    | (go_at_call 20; refine (CW.out _ _ HW5.out.disk).mono ?_; rintro y W6 ⟨rfl, hd, ho⟩; have HW6 := Lib.hid (HW5.out.call hd ho); clear hd ho HW5 CW)
    | (refine wpList_store_mid rfl 47 (.tmp 4) (.tmp 46) rfl (w.heap.size + 1) 0 Ent.zero.cells.toArray rfl rfl HW6.out.res.room (e_infoA _) (e_all _) ?_; have HF := Lib.hid (HW6.out.put Ent.zero); generalize World.setCells _ _ _ _ = W9 at HF ⊢))
  refine bodyPost_ret (results_cell2 rfl _ _ rfl HF.out.res.cells Tryd.underlying47 rfl (e_info _)) rfl ?_
  exact ⟨rfl, HF.out.done⟩

set_option maxHeartbeats 2000000 in
set_option maxRecDepth 100000 in
theorem app_nosync (F : Nat → Prop) (g : Nat) (S : DS) (e : Ent) (w : World) (hD : DiskAt w F g S) (x : Ent) (b : Bool) (hx0 : 0 ≤ x.number) (hx1 : x.number < 4294967295) (HK : HasK w) (hF : ¬F 0) (hv : (e.num (x.number + 1)).valid = true) (hon : S.on = true) (hc : S.c < 2 ^ 40) (ho : S.ops < 2 ^ 40) (T : DS) (hT : S.write ((e.num (x.number + 1)).number % 8).toNat (e.num (x.number + 1)).blk = (T, true)) (U : DS) (hU : T.sync = (U, false))
    (CL : ∀ W, Below w.heap.size w W → Calls Tryd.prog 31 #[.pointer (some ⟨g, 0, none⟩)] W fun y w' => y = .returned (.tuple #[.agg x.cells.toArray, .bool b, .int .i64 0]) ∧ Below W.heap.size W w') :
    Calls Tryd.prog 16 #[.pointer (some ⟨g, 0, none⟩), .agg e.cells.toArray] w fun y w' => y = .returned (.tuple #[.agg Ent.zero.cells.toArray, .int .i64 7]) ∧ DiskAt w' (More F w) g U ∧ Only F w w' := by
  have HL := Lib.hid CL
  have HW0 := Lib.hid (appW_new hD e 47 47)
  have HB0 : Hid (Below w.heap.size w ((w.alloc (.cells e.cells.toArray 47)).alloc (.cells Ent.zero.cells.toArray 47))) := Lib.hid (((Below.refl _ _).alloc (Nat.le_refl _) _).alloc (by simp) _)
  have HHK := Lib.hid HK
  obtain ⟨n, hn⟩ : ∃ n, n = x.number := ⟨_, rfl⟩
  rw [← hn] at hx0 hx1 hv hT
  have u0 : (n == 4294967295) = false := by simp; omega
  have u1 : decide (n = 4294967295) = false := decide_eq_false (by omega)
  have HN := Lib.hid hn
  clear hn HK
  have HF0 := Lib.hid hF
  have CB := Lib.hid (fun W HK => build_yes (e.num (n + 1)) hv W HK)
  have CH := Lib.hid (fun W => home_any (e.num (n + 1)) (show 0 ≤ n + 1 by omega) W)
  have hhi : ((e.num (n + 1)).number % 8).toNat < S.L.length ∧ (e.num (n + 1)).number % 8 = (((e.num (n + 1)).number % 8).toNat : Int) := ⟨by have := hD.ok.lo; have h2 : (e.num (n + 1)).number = n + 1 := rfl; omega, by have h2 : (e.num (n + 1)).number = n + 1 := rfl; omega⟩
  have hbl := blk_length (valid_sum hv)
  generalize ((e.num (n + 1)).number % 8).toNat = q at *
  generalize (e.num (n + 1)).number % 8 = z at *
  generalize (e.num (n + 1)).blk = bl at *
  obtain ⟨hq, rfl⟩ := hhi
  have CW : Hid (∀ W G, DiskAt W G g S → Calls Tryd.prog 20 #[.pointer (some ⟨g, 0, none⟩), .int .i64 (q : Int), .string (strOf bl)] W fun y w' => y = .returned (.int .i64 0) ∧ DiskAt w' (More G W) g T ∧ Only G W w') := Lib.hid (fun W G hd => by
    have := write_ok G g S q bl W hd hon hq hbl hc (Nat.le_of_lt ho)
    rw [hT] at this
    exact this)
  have CY : Hid (∀ W G, DiskAt W G g T → Calls Tryd.prog 22 #[.pointer (some ⟨g, 0, none⟩)] W fun y w' => y = .returned (.int .i64 7) ∧ DiskAt w' G g U ∧ Only G W w') := Lib.hid (fun W G hd => by
    obtain ⟨y1, y2, y3⟩ := write_true hT
    have := sync_ok G g T W hd (by rw [y1]; exact hon) (by omega) (by omega)
    rw [hU] at this
    exact this)
  clear hT hU
  clear hv hF hon hc ho hq hbl
  clear CL hD
  go_enter Tryd.func16, Tryd.ntmps16
  go_wp2_with fail
  refine (HL.out _ HB0.out).mono ?_
  rintro y w1 ⟨rfl, hb⟩
  have HW1 := Lib.hid (HW0.out.later hb)
  clear hb HL HB0 HW0
  have HZ := Lib.hid (eb_zero w1)
  have HX := Lib.hid (eb_put (Below.refl w1.heap.size w1) x)
  go_wp2_with (first
    | (refine wpList_store_mid rfl 47 (.tmp 6) (.tmp 15) rfl w1.heap.size 0 x.cells.toArray rfl rfl HZ.out.room (e_infoA x) (e_all x) ?_; generalize World.setCells _ _ _ _ = W2 at HX ⊢; have HW2 := Lib.hid (HW1.out.later HX.out.2.1); have HX2 := Lib.hid HX.out.1; clear HX HW1 HZ; have c1 := HX2.out.cell1; rw [← HN.out] at c1; have c2 := HW2.out.arg.cell1; have f2 := HW2.out.arg.free1; have HW3 := Lib.hid (HW2.out.num (n + 1)))
    | (refine wpList_load_mid rfl 47 (.tmp 3) rfl w.heap.size 0 rfl (e.num (n + 1)).cells _ HW3.out.arg.cells Tryd.underlying47 rfl (e_info _) ?_)
    | (go_at_call 53; generalize World.setCell _ _ _ = W3 at HW3 ⊢; refine (CB.out _ (HasK.only HHK.out HW3.out.only HF0.out)).mono ?_; rintro y W4 ⟨rfl, hb⟩; have HW4 := Lib.hid (HW3.out.later hb); clear hb HW3 CB c1 c2 f2)
    | (refine wpList_load_mid rfl 47 (.tmp 3) rfl w.heap.size 0 rfl (e.num (n + 1)).cells _ HW4.out.arg.cells Tryd.underlying47 rfl (e_info _) ?_)
    | (go_at_call 54; refine (CH.out _).mono ?_; rintro y W5 ⟨rfl, hb⟩; have HW5 := Lib.hid (HW4.out.later hb); clear hb HW4 CH)
    | (go_at_call 20; refine (CW.out _ _ HW5.out.disk).mono ?_; rintro y W6 ⟨rfl, hd, ho⟩; have HW6 := Lib.hid (HW5.out.call hd ho); clear hd ho HW5 CW)
    | (go_at_call 22; refine (CY.out _ _ HW6.out.disk).mono ?_; rintro y W7 ⟨rfl, hd, ho⟩; have HW7 := Lib.hid (HW6.out.call (DiskAt.more' hd) ho); clear hd ho HW6 CY)
    | (refine wpList_store_mid rfl 47 (.tmp 4) (.tmp 52) rfl (w.heap.size + 1) 0 Ent.zero.cells.toArray rfl rfl HW7.out.res.room (e_infoA _) (e_all _) ?_; have HF := Lib.hid (HW7.out.put Ent.zero); generalize World.setCells _ _ _ _ = W9 at HF ⊢))
  refine bodyPost_ret (results_cell2 rfl _ _ rfl HF.out.res.cells Tryd.underlying47 rfl (e_info _)) rfl ?_
  exact ⟨rfl, HF.out.done⟩

set_option maxHeartbeats 2000000 in
set_option maxRecDepth 100000 in
theorem app_done (F : Nat → Prop) (g : Nat) (S : DS) (e : Ent) (w : World) (hD : DiskAt w F g S) (x : Ent) (b : Bool) (hx0 : 0 ≤ x.number) (hx1 : x.number < 4294967295) (HK : HasK w) (hF : ¬F 0) (hv : (e.num (x.number + 1)).valid = true) (hon : S.on = true) (hc : S.c < 2 ^ 40) (ho : S.ops < 2 ^ 40) (T : DS) (hT : S.write ((e.num (x.number + 1)).number % 8).toNat (e.num (x.number + 1)).blk = (T, true)) (U : DS) (hU : T.sync = (U, true))
    (CL : ∀ W, Below w.heap.size w W → Calls Tryd.prog 31 #[.pointer (some ⟨g, 0, none⟩)] W fun y w' => y = .returned (.tuple #[.agg x.cells.toArray, .bool b, .int .i64 0]) ∧ Below W.heap.size W w') :
    Calls Tryd.prog 16 #[.pointer (some ⟨g, 0, none⟩), .agg e.cells.toArray] w fun y w' => y = .returned (.tuple #[.agg (e.num (x.number + 1)).cells.toArray, .int .i64 0]) ∧ DiskAt w' (More F w) g U ∧ Only F w w' := by
  have HL := Lib.hid CL
  have HW0 := Lib.hid (appW_new hD e 47 47)
  have HB0 : Hid (Below w.heap.size w ((w.alloc (.cells e.cells.toArray 47)).alloc (.cells Ent.zero.cells.toArray 47))) := Lib.hid (((Below.refl _ _).alloc (Nat.le_refl _) _).alloc (by simp) _)
  have HHK := Lib.hid HK
  obtain ⟨n, hn⟩ : ∃ n, n = x.number := ⟨_, rfl⟩
  rw [← hn] at hx0 hx1 hv hT ⊢
  have u0 : (n == 4294967295) = false := by simp; omega
  have u1 : decide (n = 4294967295) = false := decide_eq_false (by omega)
  have HN := Lib.hid hn
  clear hn HK
  have HF0 := Lib.hid hF
  have CB := Lib.hid (fun W HK => build_yes (e.num (n + 1)) hv W HK)
  have CH := Lib.hid (fun W => home_any (e.num (n + 1)) (show 0 ≤ n + 1 by omega) W)
  have hhi : ((e.num (n + 1)).number % 8).toNat < S.L.length ∧ (e.num (n + 1)).number % 8 = (((e.num (n + 1)).number % 8).toNat : Int) := ⟨by have := hD.ok.lo; have h2 : (e.num (n + 1)).number = n + 1 := rfl; omega, by have h2 : (e.num (n + 1)).number = n + 1 := rfl; omega⟩
  have hbl := blk_length (valid_sum hv)
  generalize ((e.num (n + 1)).number % 8).toNat = q at *
  generalize (e.num (n + 1)).number % 8 = z at *
  generalize (e.num (n + 1)).blk = bl at *
  obtain ⟨hq, rfl⟩ := hhi
  have CW : Hid (∀ W G, DiskAt W G g S → Calls Tryd.prog 20 #[.pointer (some ⟨g, 0, none⟩), .int .i64 (q : Int), .string (strOf bl)] W fun y w' => y = .returned (.int .i64 0) ∧ DiskAt w' (More G W) g T ∧ Only G W w') := Lib.hid (fun W G hd => by
    have := write_ok G g S q bl W hd hon hq hbl hc (Nat.le_of_lt ho)
    rw [hT] at this
    exact this)
  have CY : Hid (∀ W G, DiskAt W G g T → Calls Tryd.prog 22 #[.pointer (some ⟨g, 0, none⟩)] W fun y w' => y = .returned (.int .i64 0) ∧ DiskAt w' G g U ∧ Only G W w') := Lib.hid (fun W G hd => by
    obtain ⟨y1, y2, y3⟩ := write_true hT
    have := sync_ok G g T W hd (by rw [y1]; exact hon) (by omega) (by omega)
    rw [hU] at this
    exact this)
  clear hT hU
  clear hv hF hon hc ho hq hbl
  clear CL hD
  go_enter Tryd.func16, Tryd.ntmps16
  go_wp2_with fail
  refine (HL.out _ HB0.out).mono ?_
  rintro y w1 ⟨rfl, hb⟩
  have HW1 := Lib.hid (HW0.out.later hb)
  clear hb HL HB0 HW0
  have HZ := Lib.hid (eb_zero w1)
  have HX := Lib.hid (eb_put (Below.refl w1.heap.size w1) x)
  go_wp2_with (first
    | (refine wpList_store_mid rfl 47 (.tmp 6) (.tmp 15) rfl w1.heap.size 0 x.cells.toArray rfl rfl HZ.out.room (e_infoA x) (e_all x) ?_; generalize World.setCells _ _ _ _ = W2 at HX ⊢; have HW2 := Lib.hid (HW1.out.later HX.out.2.1); have HX2 := Lib.hid HX.out.1; clear HX HW1 HZ; have c1 := HX2.out.cell1; rw [← HN.out] at c1; have c2 := HW2.out.arg.cell1; have f2 := HW2.out.arg.free1; have HW3 := Lib.hid (HW2.out.num (n + 1)))
    | (refine wpList_load_mid rfl 47 (.tmp 3) rfl w.heap.size 0 rfl (e.num (n + 1)).cells _ HW3.out.arg.cells Tryd.underlying47 rfl (e_info _) ?_)
    | (go_at_call 53; generalize World.setCell _ _ _ = W3 at HW3 ⊢; refine (CB.out _ (HasK.only HHK.out HW3.out.only HF0.out)).mono ?_; rintro y W4 ⟨rfl, hb⟩; have HW4 := Lib.hid (HW3.out.later hb); clear hb HW3 CB c1 c2 f2)
    | (refine wpList_load_mid rfl 47 (.tmp 3) rfl w.heap.size 0 rfl (e.num (n + 1)).cells _ HW4.out.arg.cells Tryd.underlying47 rfl (e_info _) ?_)
    | (go_at_call 54; refine (CH.out _).mono ?_; rintro y W5 ⟨rfl, hb⟩; have HW5 := Lib.hid (HW4.out.later hb); clear hb HW4 CH)
    | (go_at_call 20; refine (CW.out _ _ HW5.out.disk).mono ?_; rintro y W6 ⟨rfl, hd, ho⟩; have HW6 := Lib.hid (HW5.out.call hd ho); clear hd ho HW5 CW)
    | (go_at_call 22; refine (CY.out _ _ HW6.out.disk).mono ?_; rintro y W7 ⟨rfl, hd, ho⟩; have HW7 := Lib.hid (HW6.out.call (DiskAt.more' hd) ho); clear hd ho HW6 CY)
    | (refine wpList_load_mid rfl 47 (.tmp 3) rfl w.heap.size 0 rfl (e.num (n + 1)).cells _ HW7.out.arg.cells Tryd.underlying47 rfl (e_info _) ?_)
    | (refine wpList_store_mid rfl 47 (.tmp 4) (.tmp 54) rfl (w.heap.size + 1) 0 (e.num (n + 1)).cells.toArray rfl rfl HW7.out.res.room (e_infoA _) (e_all _) ?_; have HF := Lib.hid (HW7.out.put (e.num (n + 1))); generalize World.setCells _ _ _ _ = W9 at HF ⊢))
  refine bodyPost_ret (results_cell2 rfl _ _ rfl HF.out.res.cells Tryd.underlying47 rfl (e_info _)) rfl ?_
  exact ⟨rfl, HF.out.done⟩

end Go.Proofs.YtkplmaaeggnbgaaDoor.Rg
