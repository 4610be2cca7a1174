/- The walk of the document's Append (chrysalisref05): its contract. No condition but those that each states. -/
import Derived.Test.YtkplmaaeggnbgaaDoorRgRL
import Derived.Test.YtkplmaaeggnbgaaDoorRgH
namespace Go.Proofs.YtkplmaaeggnbgaaDoor.Rg
open Go.RowKit Dk

/-- The document's Append under way: its entry and its result in blocks of their own, beside a disk. -/
structure AppQ (w W : World) (F G : Nat → Prop) (g : Nat) (S : DS) (e r : Ent) : Prop where
  arg : EB W w.heap.size e
  res : EB W (w.heap.size + 1) r
  disk : RefAt W G g S
  only : Only F w W
  far : ∀ k, G k → (F k ∧ k < w.heap.size) ∨ w.heap.size + 2 ≤ k

section
variable {w W W' : World} {F G : Nat → Prop} {g : Nat} {S T : DS} {e r : Ent}
theorem AppQ.later (h : AppQ w W F G g S e r) (k : Below W.heap.size W W') : AppQ w W' F G g S e r :=
  ⟨h.arg.later k, h.res.later k, h.disk.below k, h.only.trans (Only.of_below (F := F) k) (fun _ _ x => x), h.far⟩
theorem AppQ.call (h : AppQ w W F G g S e r) (hD : RefAt W' (More G W) g T) (k : Only G W W') : AppQ w W' F (More G W) g T e r := by
  have hs := h.res.lt
  refine ⟨h.arg.only k (fun x => by rcases h.far _ x with ⟨_, y⟩ | y <;> omega), h.res.only k (fun x => by rcases h.far _ x with ⟨_, y⟩ | y <;> omega), hD,
    h.only.trans k (fun i hi x => by rcases h.far _ x with ⟨y, _⟩ | y; exact y; omega), fun i hi => ?_⟩
  rcases hi with x | x
  · exact h.far i x
  · exact .inr (by omega)
theorem AppQ.num (h : AppQ w W F G g S e r) (n : Int) : AppQ w (W.setCell ⟨w.heap.size, 1, none⟩ (.int .i64 n)) F G g S (e.num n) r := by
  have k : Only (fun i => i = w.heap.size) W (W.setCell ⟨w.heap.size, 1, none⟩ (.int .i64 n)) := Only.setCell (F := fun i => i = w.heap.size) (Only.refl _ W) ⟨w.heap.size, 1, none⟩ rfl _
  refine ⟨h.arg.num n, h.res.only k (fun x => by omega), h.disk.kept k (fun i x y => by rcases h.far _ x with ⟨_, z⟩ | z <;> omega), h.only.trans k (fun i hi x => by omega), h.far⟩
theorem AppQ.put (h : AppQ w W F G g S e r) (x : Ent) : AppQ w (W.setCells (w.heap.size + 1) 0 x.cells.toArray.toList) F G g S e x := by
  have k : Only (fun i => i = w.heap.size + 1) W (W.setCells (w.heap.size + 1) 0 x.cells.toArray.toList) := Only.setCells (F := fun i => i = w.heap.size + 1) (w.heap.size + 1) rfl _ _ _ (Only.refl _ W)
  refine ⟨h.arg.only k (fun x => by omega), h.res.set x, h.disk.kept k (fun i x y => by rcases h.far _ x with ⟨_, z⟩ | z <;> omega), h.only.trans k (fun i hi x => by omega), h.far⟩
theorem AppQ.done (h : AppQ w W F G g S e r) : RefAt W (More F w) g S ∧ Only F w W :=
  ⟨h.disk.mono (fun k x => by rcases h.far _ x with ⟨y, _⟩ | y; exact .inl y; exact .inr (by omega)), h.only⟩
theorem appQ_new (hD : RefAt w F g S) (e : Ent) (t u : TypeId) : AppQ w ((w.alloc (.cells e.cells.toArray t)).alloc (.cells Ent.zero.cells.toArray u)) F (fun k => F k ∧ k < w.heap.size) g S e Ent.zero := by
  have h1 := eb_new w e t
  have hb : Below w.heap.size w (w.alloc (.cells e.cells.toArray t)) := (Below.refl _ _).alloc (Nat.le_refl _) _
  have e1 : (w.alloc (.cells e.cells.toArray t)).heap.size = w.heap.size + 1 := by simp
  generalize w.alloc (.cells e.cells.toArray t) = W1 at h1 hb e1 ⊢
  have h2 := eb_new W1 Ent.zero u
  have hb2 : Below W1.heap.size W1 (W1.alloc (.cells Ent.zero.cells.toArray u)) := (Below.refl _ _).alloc (Nat.le_refl _) _
  rw [e1] at h2
  exact ⟨h1.later hb2, h2, (hD.tight.below hb).below hb2, Only.of_below (chain2 hb hb2), fun k hk => .inl hk⟩
end

set_option maxHeartbeats 2000000 in
set_option maxRecDepth 100000 in
theorem rapp_err (F : Nat → Prop) (g : Nat) (S : DS) (e : Ent) (w : World) (hD : RefAt w F g S) (x : Ent) (b : Bool) (k : Int) (hk : k = 7 ∨ k = 16)
    (CL : ∀ W, Below w.heap.size w W → Calls Tryd.prog 32 #[.pointer (some ⟨g, 0, none⟩)] W fun y w' => y = .returned (.tuple #[.agg x.cells.toArray, .bool b, .int .i64 k]) ∧ Below W.heap.size W w') :
    Calls Tryd.prog 18 #[.pointer (some ⟨g, 0, none⟩), .agg e.cells.toArray] w fun y w' => y = .returned (.tuple #[.agg Ent.zero.cells.toArray, .int .i64 k]) ∧ RefAt w' (More F w) g S ∧ Only F w w' := by
  have HL := Lib.hid CL
  have HW0 := Lib.hid (appQ_new hD e 43 43)
  have HB0 : Hid (Below w.heap.size w ((w.alloc (.cells e.cells.toArray 43)).alloc (.cells Ent.zero.cells.toArray 43))) := Lib.hid (((Below.refl _ _).alloc (Nat.le_refl _) _).alloc (by simp) _)
  have t0 : (k != 0) = true := by rcases hk with rfl | rfl <;> rfl
  have t1 : (k == 0) = false := by rcases hk with rfl | rfl <;> rfl
  clear hk
  clear CL hD
  go_enter Tryd.func18, Tryd.ntmps18
  go_wp2_with fail
  refine (HL.out _ HB0.out).mono ?_
  rintro y w1 ⟨rfl, hb⟩
  have HW1 := Lib.hid (HW0.out.later hb)
  clear hb HL HB0 HW0
  have HZ := Lib.hid (ebt_zero w1 43)
  have HX := Lib.hid (ebt_put w1 43 x)
  go_wp2_with (first
    | (refine wpList_store_mid rfl 43 (.tmp 6) (.tmp 14) rfl w1.heap.size 0 x.cells.toArray rfl rfl HZ.out.room (ref_infoA x) (e_all x) ?_; generalize World.setCells _ _ _ _ = W2 at HX ⊢; have HW2 := Lib.hid (HW1.out.later HX.out.2); have HX2 := Lib.hid HX.out.1; clear HX HW1 HZ)
    | (refine wpList_store_mid rfl 43 (.tmp 4) (.tmp 19) rfl (w.heap.size + 1) 0 Ent.zero.cells.toArray rfl rfl HW2.out.res.room (ref_infoA _) (e_all _) ?_; have HF := Lib.hid (HW2.out.put Ent.zero); generalize World.setCells _ _ _ _ = W9 at HF ⊢))
  refine bodyPost_ret (results_cell2 rfl _ _ rfl HF.out.res.cells Tryd.underlying43 rfl (ref_info _)) rfl ?_
  exact ⟨rfl, HF.out.done⟩

set_option maxHeartbeats 2000000 in
set_option maxRecDepth 100000 in
theorem rapp_full (F : Nat → Prop) (g : Nat) (S : DS) (e : Ent) (w : World) (hD : RefAt w F g S) (x : Ent) (b : Bool) (hx : x.number = 4294967295)
    (CL : ∀ W, Below w.heap.size w W → Calls Tryd.prog 32 #[.pointer (some ⟨g, 0, none⟩)] W fun y w' => y = .returned (.tuple #[.agg x.cells.toArray, .bool b, .int .i64 0]) ∧ Below W.heap.size W w') :
    Calls Tryd.prog 18 #[.pointer (some ⟨g, 0, none⟩), .agg e.cells.toArray] w fun y w' => y = .returned (.tuple #[.agg Ent.zero.cells.toArray, .int .i64 6]) ∧ RefAt w' (More F w) g S ∧ Only F w w' := by
  have HL := Lib.hid CL
  have HW0 := Lib.hid (appQ_new hD e 43 43)
  have HB0 : Hid (Below w.heap.size w ((w.alloc (.cells e.cells.toArray 43)).alloc (.cells Ent.zero.cells.toArray 43))) := Lib.hid (((Below.refl _ _).alloc (Nat.le_refl _) _).alloc (by simp) _)
  have HN := Lib.hid hx
  clear hx
  clear CL hD
  go_enter Tryd.func18, Tryd.ntmps18
  go_wp2_with fail
  refine (HL.out _ HB0.out).mono ?_
  rintro y w1 ⟨rfl, hb⟩
  have HW1 := Lib.hid (HW0.out.later hb)
  clear hb HL HB0 HW0
  have HZ := Lib.hid (ebt_zero w1 43)
  have HX := Lib.hid (ebt_put w1 43 x)
  go_wp2_with (first
    | (refine wpList_store_mid rfl 43 (.tmp 6) (.tmp 14) rfl w1.heap.size 0 x.cells.toArray rfl rfl HZ.out.room (ref_infoA x) (e_all x) ?_; generalize World.setCells _ _ _ _ = W2 at HX ⊢; have HW2 := Lib.hid (HW1.out.later HX.out.2); have HX2 := Lib.hid HX.out.1; clear HX HW1 HZ; have c1 := HX2.out.cell1; rw [HN.out] at c1)
    | (refine wpList_store_mid rfl 43 (.tmp 4) (.tmp 24) rfl (w.heap.size + 1) 0 Ent.zero.cells.toArray rfl rfl HW2.out.res.room (ref_infoA _) (e_all _) ?_; have HF := Lib.hid (HW2.out.put Ent.zero); generalize World.setCells _ _ _ _ = W9 at HF ⊢))
  refine bodyPost_ret (results_cell2 rfl _ _ rfl HF.out.res.cells Tryd.underlying43 rfl (ref_info _)) rfl ?_
  exact ⟨rfl, HF.out.done⟩

set_option maxHeartbeats 2000000 in
set_option maxRecDepth 100000 in
theorem rapp_bad (F : Nat → Prop) (g : Nat) (S : DS) (e : Ent) (w : World) (hD : RefAt w F g S) (x : Ent) (b : Bool) (hx0 : 0 ≤ x.number) (hx1 : x.number < 4294967295) (hv : (e.num (x.number + 1)).valid = false)
    (CL : ∀ W, Below w.heap.size w W → Calls Tryd.prog 32 #[.pointer (some ⟨g, 0, none⟩)] W fun y w' => y = .returned (.tuple #[.agg x.cells.toArray, .bool b, .int .i64 0]) ∧ Below W.heap.size W w') :
    Calls Tryd.prog 18 #[.pointer (some ⟨g, 0, none⟩), .agg e.cells.toArray] w fun y w' => y = .returned (.tuple #[.agg Ent.zero.cells.toArray, .int .i64 1]) ∧ RefAt w' (More F w) g S ∧ Only F w w' := by
  have HL := Lib.hid CL
  have HW0 := Lib.hid (appQ_new hD e 43 43)
  have HB0 : Hid (Below w.heap.size w ((w.alloc (.cells e.cells.toArray 43)).alloc (.cells Ent.zero.cells.toArray 43))) := Lib.hid (((Below.refl _ _).alloc (Nat.le_refl _) _).alloc (by simp) _)
  obtain ⟨n, hn⟩ : ∃ n, n = x.number := ⟨_, rfl⟩
  rw [← hn] at hx0 hx1 hv
  have u0 : (n == 4294967295) = false := by simp; omega
  have u1 : decide (n = 4294967295) = false := decide_eq_false (by omega)
  have HN := Lib.hid hn
  clear hn
  have CB := Lib.hid (fun W => rbuild_no (e.num (n + 1)) hv W)
  clear hv
  clear CL hD
  go_enter Tryd.func18, Tryd.ntmps18
  go_wp2_with fail
  refine (HL.out _ HB0.out).mono ?_
  rintro y w1 ⟨rfl, hb⟩
  have HW1 := Lib.hid (HW0.out.later hb)
  clear hb HL HB0 HW0
  have HZ := Lib.hid (ebt_zero w1 43)
  have HX := Lib.hid (ebt_put w1 43 x)
  go_wp2_with (first
    | (refine wpList_store_mid rfl 43 (.tmp 6) (.tmp 14) rfl w1.heap.size 0 x.cells.toArray rfl rfl HZ.out.room (ref_infoA x) (e_all x) ?_; generalize World.setCells _ _ _ _ = W2 at HX ⊢; have HW2 := Lib.hid (HW1.out.later HX.out.2); have HX2 := Lib.hid HX.out.1; clear HX HW1 HZ; have c1 := HX2.out.cell1; rw [← HN.out] at c1; have c2 := HW2.out.arg.cell1; have f2 := HW2.out.arg.free1; have HW3 := Lib.hid (HW2.out.num (n + 1)))
    | (refine wpList_load_mid rfl 43 (.tmp 3) rfl w.heap.size 0 rfl (e.num (n + 1)).cells _ HW3.out.arg.cells Tryd.underlying43 rfl (ref_info _) ?_)
    | (go_at_call 55; generalize World.setCell _ _ _ = W3 at HW3 ⊢; refine (CB.out _).mono ?_; rintro y W4 ⟨rfl, hb⟩; have HW4 := Lib.hid (HW3.out.later hb); clear hb HW3 CB c1 c2 f2)
    | (refine wpList_store_mid rfl 43 (.tmp 4) (.tmp 36) rfl (w.heap.size + 1) 0 Ent.zero.cells.toArray rfl rfl HW4.out.res.room (ref_infoA _) (e_all _) ?_; have HF := Lib.hid (HW4.out.put Ent.zero); generalize World.setCells _ _ _ _ = W9 at HF ⊢))
  refine bodyPost_ret (results_cell2 rfl _ _ rfl HF.out.res.cells Tryd.underlying43 rfl (ref_info _)) rfl ?_
  exact ⟨rfl, HF.out.done⟩

set_option maxHeartbeats 2000000 in
set_option maxRecDepth 100000 in
theorem rapp_nowrite (F : Nat → Prop) (g : Nat) (S : DS) (e : Ent) (w : World) (hD : RefAt w F g S) (x : Ent) (b : Bool) (hx0 : 0 ≤ x.number) (hx1 : x.number < 4294967295) (hok : S.Ok) (hv : (e.num (x.number + 1)).valid = true) (hon : S.on = true) (hc : S.c < 2 ^ 40) (ho : S.ops < 2 ^ 40) (T : DS) (hT : S.write ((e.num (x.number + 1)).number % 8).toNat (e.num (x.number + 1)).blk = (T, false))
    (CL : ∀ W, Below w.heap.size w W → Calls Tryd.prog 32 #[.pointer (some ⟨g, 0, none⟩)] W fun y w' => y = .returned (.tuple #[.agg x.cells.toArray, .bool b, .int .i64 0]) ∧ Below W.heap.size W w') :
    Calls Tryd.prog 18 #[.pointer (some ⟨g, 0, none⟩), .agg e.cells.toArray] w fun y w' => y = .returned (.tuple #[.agg Ent.zero.cells.toArray, .int .i64 7]) ∧ RefAt w' (More F w) g T ∧ Only F w w' := by
  have HL := Lib.hid CL
  have HW0 := Lib.hid (appQ_new hD e 43 43)
  have HB0 : Hid (Below w.heap.size w ((w.alloc (.cells e.cells.toArray 43)).alloc (.cells Ent.zero.cells.toArray 43))) := Lib.hid (((Below.refl _ _).alloc (Nat.le_refl _) _).alloc (by simp) _)
  obtain ⟨n, hn⟩ : ∃ n, n = x.number := ⟨_, rfl⟩
  rw [← hn] at hx0 hx1 hv hT
  have u0 : (n == 4294967295) = false := by simp; omega
  have u1 : decide (n = 4294967295) = false := decide_eq_false (by omega)
  have HN := Lib.hid hn
  clear hn
  have CB := Lib.hid (fun W => rbuild_yes (e.num (n + 1)) hv W)
  have hhi : ((e.num (n + 1)).number % 8).toNat < S.L.length ∧ (e.num (n + 1)).number % 8 = (((e.num (n + 1)).number % 8).toNat : Int) := ⟨by have := hok.lo; have h2 : (e.num (n + 1)).number = n + 1 := rfl; omega, by have h2 : (e.num (n + 1)).number = n + 1 := rfl; omega⟩
  have hbl := blk_length (valid_sum hv)
  have hrm : (n + 1).tmod 8 = (e.num (n + 1)).number % 8 := Int.tmod_eq_emod_of_nonneg (by omega)
  have hrm2 : (n + 1) % 8 = (e.num (n + 1)).number % 8 := rfl
  have n0 : (0 : Int) ≤ n + 1 := by omega
  have n1 : n + 1 ≤ 4294967295 := by omega
  generalize ((e.num (n + 1)).number % 8).toNat = q at *
  generalize (e.num (n + 1)).number % 8 = z at *
  generalize (e.num (n + 1)).blk = bl at *
  obtain ⟨hq, rfl⟩ := hhi
  have CW : Hid (∀ W G, RefAt W G g S → Calls Tryd.prog 21 #[.pointer (some ⟨g, 0, none⟩), .int .i64 (q : Int), .string (strOf bl)] W fun y w' => y = .returned (.int .i64 7) ∧ RefAt w' (More G W) g T ∧ Only G W w') := Lib.hid (fun W G hd => by
    have := ref_write_ok g q S bl G W hd hon hq hbl hc (Nat.le_of_lt ho)
    rw [hT] at this
    exact this)
  clear hT
  clear hv hon hc ho hq hbl hok
  clear CL hD
  go_enter Tryd.func18, Tryd.ntmps18
  go_wp2_with fail
  refine (HL.out _ HB0.out).mono ?_
  rintro y w1 ⟨rfl, hb⟩
  have HW1 := Lib.hid (HW0.out.later hb)
  clear hb HL HB0 HW0
  have HZ := Lib.hid (ebt_zero w1 43)
  have HX := Lib.hid (ebt_put w1 43 x)
  go_wp2_with (first
    | (refine wpList_store_mid rfl 43 (.tmp 6) (.tmp 14) rfl w1.heap.size 0 x.cells.toArray rfl rfl HZ.out.room (ref_infoA x) (e_all x) ?_; generalize World.setCells _ _ _ _ = W2 at HX ⊢; have HW2 := Lib.hid (HW1.out.later HX.out.2); have HX2 := Lib.hid HX.out.1; clear HX HW1 HZ; have c1 := HX2.out.cell1; rw [← HN.out] at c1; have c2 := HW2.out.arg.cell1; have f2 := HW2.out.arg.free1; have HW3 := Lib.hid (HW2.out.num (n + 1)))
    | (refine wpList_load_mid rfl 43 (.tmp 3) rfl w.heap.size 0 rfl (e.num (n + 1)).cells _ HW3.out.arg.cells Tryd.underlying43 rfl (ref_info _) ?_)
    | (go_at_call 55; generalize World.setCell _ _ _ = W3 at HW3 ⊢; refine (CB.out _).mono ?_; rintro y W4 ⟨rfl, hb⟩; have HW4 := Lib.hid (HW3.out.later hb); clear hb HW3 CB c1 c2 f2; have c1 := HW4.out.arg.cell1; replace c1 : W4.cell? ⟨w.heap.size, 1, none⟩ = some (.int .i64 (n + 1)) := c1)
    | (go_at_call 21; refine (CW.out _ _ HW4.out.disk).mono ?_; rintro y W6 ⟨rfl, hd, ho⟩; have HW6 := Lib.hid (HW4.out.call hd ho); clear hd ho HW4 CW)
    | (refine wpList_store_mid rfl 43 (.tmp 4) (.tmp 50) rfl (w.heap.size + 1) 0 Ent.zero.cells.toArray rfl rfl HW6.out.res.room (ref_infoA _) (e_all _) ?_; have HF := Lib.hid (HW6.out.put Ent.zero); generalize World.setCells _ _ _ _ = W9 at HF ⊢))
  refine bodyPost_ret (results_cell2 rfl _ _ rfl HF.out.res.cells Tryd.underlying43 rfl (ref_info _)) rfl ?_
  exact ⟨rfl, HF.out.done⟩

set_option maxHeartbeats 2000000 in
set_option maxRecDepth 100000 in
theorem rapp_nosync (F : Nat → Prop) (g : Nat) (S : DS) (e : Ent) (w : World) (hD : RefAt w F g S) (x : Ent) (b : Bool) (hx0 : 0 ≤ x.number) (hx1 : x.number < 4294967295) (hok : S.Ok) (hv : (e.num (x.number + 1)).valid = true) (hon : S.on = true) (hc : S.c < 2 ^ 40) (ho : S.ops < 2 ^ 40) (T : DS) (hT : S.write ((e.num (x.number + 1)).number % 8).toNat (e.num (x.number + 1)).blk = (T, true)) (U : DS) (hU : T.sync = (U, false))
    (CL : ∀ W, Below w.heap.size w W → Calls Tryd.prog 32 #[.pointer (some ⟨g, 0, none⟩)] W fun y w' => y = .returned (.tuple #[.agg x.cells.toArray, .bool b, .int .i64 0]) ∧ Below W.heap.size W w') :
    Calls Tryd.prog 18 #[.pointer (some ⟨g, 0, none⟩), .agg e.cells.toArray] w fun y w' => y = .returned (.tuple #[.agg Ent.zero.cells.toArray, .int .i64 7]) ∧ RefAt w' (More F w) g U ∧ Only F w w' := by
  have HL := Lib.hid CL
  have HW0 := Lib.hid (appQ_new hD e 43 43)
  have HB0 : Hid (Below w.heap.size w ((w.alloc (.cells e.cells.toArray 43)).alloc (.cells Ent.zero.cells.toArray 43))) := Lib.hid (((Below.refl _ _).alloc (Nat.le_refl _) _).alloc (by simp) _)
  obtain ⟨n, hn⟩ : ∃ n, n = x.number := ⟨_, rfl⟩
  rw [← hn] at hx0 hx1 hv hT
  have u0 : (n == 4294967295) = false := by simp; omega
  have u1 : decide (n = 4294967295) = false := decide_eq_false (by omega)
  have HN := Lib.hid hn
  clear hn
  have CB := Lib.hid (fun W => rbuild_yes (e.num (n + 1)) hv W)
  have hhi : ((e.num (n + 1)).number % 8).toNat < S.L.length ∧ (e.num (n + 1)).number % 8 = (((e.num (n + 1)).number % 8).toNat : Int) := ⟨by have := hok.lo; have h2 : (e.num (n + 1)).number = n + 1 := rfl; omega, by have h2 : (e.num (n + 1)).number = n + 1 := rfl; omega⟩
  have hbl := blk_length (valid_sum hv)
  have hrm : (n + 1).tmod 8 = (e.num (n + 1)).number % 8 := Int.tmod_eq_emod_of_nonneg (by omega)
  have hrm2 : (n + 1) % 8 = (e.num (n + 1)).number % 8 := rfl
  have n0 : (0 : Int) ≤ n + 1 := by omega
  have n1 : n + 1 ≤ 4294967295 := by omega
  generalize ((e.num (n + 1)).number % 8).toNat = q at *
  generalize (e.num (n + 1)).number % 8 = z at *
  generalize (e.num (n + 1)).blk = bl at *
  obtain ⟨hq, rfl⟩ := hhi
  have CW : Hid (∀ W G, RefAt W G g S → Calls Tryd.prog 21 #[.pointer (some ⟨g, 0, none⟩), .int .i64 (q : Int), .string (strOf bl)] W fun y w' => y = .returned (.int .i64 0) ∧ RefAt w' (More G W) g T ∧ Only G W w') := Lib.hid (fun W G hd => by
    have := ref_write_ok g q S bl G W hd hon hq hbl hc (Nat.le_of_lt ho)
    rw [hT] at this
    exact this)
  have CY : Hid (∀ W G, RefAt W G g T → Calls Tryd.prog 23 #[.pointer (some ⟨g, 0, none⟩)] W fun y w' => y = .returned (.int .i64 7) ∧ RefAt w' (More G W) g U ∧ Only G W w') := Lib.hid (fun W G hd => by
    obtain ⟨y1, y2, y3⟩ := write_true hT
    have := ref_sync_on g T G W hd (by rw [y1]; exact hon) (by omega) (by omega)
    rw [hU] at this
    exact this)
  clear hT hU
  clear hv hon hc ho hq hbl hok
  clear CL hD
  go_enter Tryd.func18, Tryd.ntmps18
  go_wp2_with fail
  refine (HL.out _ HB0.out).mono ?_
  rintro y w1 ⟨rfl, hb⟩
  have HW1 := Lib.hid (HW0.out.later hb)
  clear hb HL HB0 HW0
  have HZ := Lib.hid (ebt_zero w1 43)
  have HX := Lib.hid (ebt_put w1 43 x)
  go_wp2_with (first
    | (refine wpList_store_mid rfl 43 (.tmp 6) (.tmp 14) rfl w1.heap.size 0 x.cells.toArray rfl rfl HZ.out.room (ref_infoA x) (e_all x) ?_; generalize World.setCells _ _ _ _ = W2 at HX ⊢; have HW2 := Lib.hid (HW1.out.later HX.out.2); have HX2 := Lib.hid HX.out.1; clear HX HW1 HZ; have c1 := HX2.out.cell1; rw [← HN.out] at c1; have c2 := HW2.out.arg.cell1; have f2 := HW2.out.arg.free1; have HW3 := Lib.hid (HW2.out.num (n + 1)))
    | (refine wpList_load_mid rfl 43 (.tmp 3) rfl w.heap.size 0 rfl (e.num (n + 1)).cells _ HW3.out.arg.cells Tryd.underlying43 rfl (ref_info _) ?_)
    | (go_at_call 55; generalize World.setCell _ _ _ = W3 at HW3 ⊢; refine (CB.out _).mono ?_; rintro y W4 ⟨rfl, hb⟩; have HW4 := Lib.hid (HW3.out.later hb); clear hb HW3 CB c1 c2 f2; have c1 := HW4.out.arg.cell1; replace c1 : W4.cell? ⟨w.heap.size, 1, none⟩ = some (.int .i64 (n + 1)) := c1)
    | (go_at_call 21; refine (CW.out _ _ HW4.out.disk).mono ?_; rintro y W6 ⟨rfl, hd, ho⟩; have HW6 := Lib.hid (HW4.out.call hd ho); clear hd ho HW4 CW)
    | (go_at_call 23; refine (CY.out _ _ HW6.out.disk).mono ?_; rintro y W7 ⟨rfl, hd, ho⟩; have HW7 := Lib.hid (HW6.out.call hd ho); clear hd ho HW6 CY)
    | (refine wpList_store_mid rfl 43 (.tmp 4) (.tmp 50) rfl (w.heap.size + 1) 0 Ent.zero.cells.toArray rfl rfl HW7.out.res.room (ref_infoA _) (e_all _) ?_; have HF := Lib.hid (HW7.out.put Ent.zero); generalize World.setCells _ _ _ _ = W9 at HF ⊢))
  refine bodyPost_ret (results_cell2 rfl _ _ rfl HF.out.res.cells Tryd.underlying43 rfl (ref_info _)) rfl ?_
  exact ⟨rfl, HF.out.done⟩

set_option maxHeartbeats 2000000 in
set_option maxRecDepth 100000 in
theorem rapp_done (F : Nat → Prop) (g : Nat) (S : DS) (e : Ent) (w : World) (hD : RefAt w F g S) (x : Ent) (b : Bool) (hx0 : 0 ≤ x.number) (hx1 : x.number < 4294967295) (hok : S.Ok) (hv : (e.num (x.number + 1)).valid = true) (hon : S.on = true) (hc : S.c < 2 ^ 40) (ho : S.ops < 2 ^ 40) (T : DS) (hT : S.write ((e.num (x.number + 1)).number % 8).toNat (e.num (x.number + 1)).blk = (T, true)) (U : DS) (hU : T.sync = (U, true))
    (CL : ∀ W, Below w.heap.size w W → Calls Tryd.prog 32 #[.pointer (some ⟨g, 0, none⟩)] W fun y w' => y = .returned (.tuple #[.agg x.cells.toArray, .bool b, .int .i64 0]) ∧ Below W.heap.size W w') :
    Calls Tryd.prog 18 #[.pointer (some ⟨g, 0, none⟩), .agg e.cells.toArray] w fun y w' => y = .returned (.tuple #[.agg (e.num (x.number + 1)).cells.toArray, .int .i64 0]) ∧ RefAt w' (More F w) g U ∧ Only F w w' := by
  have HL := Lib.hid CL
  have HW0 := Lib.hid (appQ_new hD e 43 43)
  have HB0 : Hid (Below w.heap.size w ((w.alloc (.cells e.cells.toArray 43)).alloc (.cells Ent.zero.cells.toArray 43))) := Lib.hid (((Below.refl _ _).alloc (Nat.le_refl _) _).alloc (by simp) _)
  obtain ⟨n, hn⟩ : ∃ n, n = x.number := ⟨_, rfl⟩
  rw [← hn] at hx0 hx1 hv hT ⊢
  have u0 : (n == 4294967295) = false := by simp; omega
  have u1 : decide (n = 4294967295) = false := decide_eq_false (by omega)
  have HN := Lib.hid hn
  clear hn
  have CB := Lib.hid (fun W => rbuild_yes (e.num (n + 1)) hv W)
  have hhi : ((e.num (n + 1)).number % 8).toNat < S.L.length ∧ (e.num (n + 1)).number % 8 = (((e.num (n + 1)).number % 8).toNat : Int) := ⟨by have := hok.lo; have h2 : (e.num (n + 1)).number = n + 1 := rfl; omega, by have h2 : (e.num (n + 1)).number = n + 1 := rfl; omega⟩
  have hbl := blk_length (valid_sum hv)
  have hrm : (n + 1).tmod 8 = (e.num (n + 1)).number % 8 := Int.tmod_eq_emod_of_nonneg (by omega)
  have hrm2 : (n + 1) % 8 = (e.num (n + 1)).number % 8 := rfl
  have n0 : (0 : Int) ≤ n + 1 := by omega
  have n1 : n + 1 ≤ 4294967295 := by omega
  generalize ((e.num (n + 1)).number % 8).toNat = q at *
  generalize (e.num (n + 1)).number % 8 = z at *
  generalize (e.num (n + 1)).blk = bl at *
  obtain ⟨hq, rfl⟩ := hhi
  have CW : Hid (∀ W G, RefAt W G g S → Calls Tryd.prog 21 #[.pointer (some ⟨g, 0, none⟩), .int .i64 (q : Int), .string (strOf bl)] W fun y w' => y = .returned (.int .i64 0) ∧ RefAt w' (More G W) g T ∧ Only G W w') := Lib.hid (fun W G hd => by
    have := ref_write_ok g q S bl G W hd hon hq hbl hc (Nat.le_of_lt ho)
    rw [hT] at this
    exact this)
  have CY : Hid (∀ W G, RefAt W G g T → Calls Tryd.prog 23 #[.pointer (some ⟨g, 0, none⟩)] W fun y w' => y = .returned (.int .i64 0) ∧ RefAt w' (More G W) g U ∧ Only G W w') := Lib.hid (fun W G hd => by
    obtain ⟨y1, y2, y3⟩ := write_true hT
    have := ref_sync_on g T G W hd (by rw [y1]; exact hon) (by omega) (by omega)
    rw [hU] at this
    exact this)
  clear hT hU
  clear hv hon hc ho hq hbl hok
  clear CL hD
  go_enter Tryd.func18, Tryd.ntmps18
  go_wp2_with fail
  refine (HL.out _ HB0.out).mono ?_
  rintro y w1 ⟨rfl, hb⟩
  have HW1 := Lib.hid (HW0.out.later hb)
  clear hb HL HB0 HW0
  have HZ := Lib.hid (ebt_zero w1 43)
  have HX := Lib.hid (ebt_put w1 43 x)
  go_wp2_with (first
    | (refine wpList_store_mid rfl 43 (.tmp 6) (.tmp 14) rfl w1.heap.size 0 x.cells.toArray rfl rfl HZ.out.room (ref_infoA x) (e_all x) ?_; generalize World.setCells _ _ _ _ = W2 at HX ⊢; have HW2 := Lib.hid (HW1.out.later HX.out.2); have HX2 := Lib.hid HX.out.1; clear HX HW1 HZ; have c1 := HX2.out.cell1; rw [← HN.out] at c1; have c2 := HW2.out.arg.cell1; have f2 := HW2.out.arg.free1; have HW3 := Lib.hid (HW2.out.num (n + 1)))
    | (refine wpList_load_mid rfl 43 (.tmp 3) rfl w.heap.size 0 rfl (e.num (n + 1)).cells _ HW3.out.arg.cells Tryd.underlying43 rfl (ref_info _) ?_)
    | (go_at_call 55; generalize World.setCell _ _ _ = W3 at HW3 ⊢; refine (CB.out _).mono ?_; rintro y W4 ⟨rfl, hb⟩; have HW4 := Lib.hid (HW3.out.later hb); clear hb HW3 CB c1 c2 f2; have c1 := HW4.out.arg.cell1; replace c1 : W4.cell? ⟨w.heap.size, 1, none⟩ = some (.int .i64 (n + 1)) := c1)
    | (go_at_call 21; refine (CW.out _ _ HW4.out.disk).mono ?_; rintro y W6 ⟨rfl, hd, ho⟩; have HW6 := Lib.hid (HW4.out.call hd ho); clear hd ho HW4 CW)
    | (go_at_call 23; refine (CY.out _ _ HW6.out.disk).mono ?_; rintro y W7 ⟨rfl, hd, ho⟩; have HW7 := Lib.hid (HW6.out.call hd ho); clear hd ho HW6 CY)
    | (refine wpList_load_mid rfl 43 (.tmp 3) rfl w.heap.size 0 rfl (e.num (n + 1)).cells _ HW7.out.arg.cells Tryd.underlying43 rfl (ref_info _) ?_)
    | (refine wpList_store_mid rfl 43 (.tmp 4) (.tmp 52) rfl (w.heap.size + 1) 0 (e.num (n + 1)).cells.toArray rfl rfl HW7.out.res.room (ref_infoA _) (e_all _) ?_; have HF := Lib.hid (HW7.out.put (e.num (n + 1))); generalize World.setCells _ _ _ _ = W9 at HF ⊢))
  refine bodyPost_ret (results_cell2 rfl _ _ rfl HF.out.res.cells Tryd.underlying43 rfl (ref_info _)) rfl ?_
  exact ⟨rfl, HF.out.done⟩

theorem rapp_any (F : Nat → Prop) (g : Nat) (S : DS) (e : Ent) (w : World) (hD : RefAt w F g S) (hok : S.Ok) (hc : S.c < 2 ^ 40) (ho : S.ops < 2 ^ 40) :
    Calls Tryd.prog 18 #[.pointer (some ⟨g, 0, none⟩), .agg e.cells.toArray] w fun y w' => y = .returned (.tuple #[.agg (DS.app S e).2.1.cells.toArray, .int .i64 (DS.app S e).2.2]) ∧ RefAt w' (More F w) g (DS.app S e).1 ∧ Only F w w' := by
  by_cases h1 : S.on = false
  · have e1 : DS.app S e = (S, Ent.zero, 7) := by unfold DS.app; rw [if_pos h1]
    rw [e1]
    refine rapp_err F g S e w hD Ent.zero false 7 (.inl rfl) (fun W hb => ?_)
    have := rlast_any F g S W (hD.below hb) hok (Nat.le_of_lt hc)
    unfold DS.last at this
    rwa [if_pos h1] at this
  · have CL : ∀ W, Below w.heap.size w W → Calls Tryd.prog 32 #[.pointer (some ⟨g, 0, none⟩)] W fun y w' => y = .returned (.tuple #[.agg ((lastE S).getD Ent.zero).cells.toArray, .bool (lastE S).isSome, .int .i64 0]) ∧ Below W.heap.size W w' :=
      fun W hb => rlast_on F g S W (hD.below hb) hok (bool_yes h1) (Nat.le_of_lt hc)
    obtain ⟨b0, b1⟩ := lastN_ok S
    by_cases h2 : lastN S = 4294967295
    · have e1 : DS.app S e = (S, Ent.zero, 6) := by unfold DS.app; rw [if_neg h1, if_pos h2]
      rw [e1]
      exact rapp_full F g S e w hD _ _ h2 CL
    · by_cases h3 : (e.num (lastN S + 1)).valid = false
      · have e1 : DS.app S e = (S, Ent.zero, 1) := by unfold DS.app; rw [if_neg h1, if_neg h2, if_pos h3]
        rw [e1]
        exact rapp_bad F g S e w hD _ _ b0 (Int.lt_iff_le_and_ne.2 ⟨b1, h2⟩) h3 CL
      · by_cases h4 : (S.write ((e.num (lastN S + 1)).number % 8).toNat (e.num (lastN S + 1)).blk).2 = false
        · have e1 : DS.app S e = ((S.write ((e.num (lastN S + 1)).number % 8).toNat (e.num (lastN S + 1)).blk).1, Ent.zero, 7) := by unfold DS.app; rw [if_neg h1, if_neg h2, if_neg h3, if_pos h4]
          rw [e1]
          exact rapp_nowrite F g S e w hD _ _ b0 (Int.lt_iff_le_and_ne.2 ⟨b1, h2⟩) hok (bool_yes h3) (bool_yes h1) hc ho _ (Prod.ext rfl h4) CL
        · by_cases h5 : (S.write ((e.num (lastN S + 1)).number % 8).toNat (e.num (lastN S + 1)).blk).1.sync.2 = false
          · have e1 : DS.app S e = ((S.write ((e.num (lastN S + 1)).number % 8).toNat (e.num (lastN S + 1)).blk).1.sync.1, Ent.zero, 7) := by unfold DS.app; rw [if_neg h1, if_neg h2, if_neg h3, if_neg h4, if_pos h5]
            rw [e1]
            exact rapp_nosync F g S e w hD _ _ b0 (Int.lt_iff_le_and_ne.2 ⟨b1, h2⟩) hok (bool_yes h3) (bool_yes h1) hc ho _ (Prod.ext rfl (bool_yes h4)) _ (Prod.ext rfl h5) CL
          · have e1 : DS.app S e = ((S.write ((e.num (lastN S + 1)).number % 8).toNat (e.num (lastN S + 1)).blk).1.sync.1, e.num (lastN S + 1), 0) := by unfold DS.app; rw [if_neg h1, if_neg h2, if_neg h3, if_neg h4, if_neg h5]
            rw [e1]
            exact rapp_done F g S e w hD _ _ b0 (Int.lt_iff_le_and_ne.2 ⟨b1, h2⟩) hok (bool_yes h3) (bool_yes h1) hc ho _ (Prod.ext rfl (bool_yes h4)) _ (Prod.ext rfl (bool_yes h5)) CL

end Go.Proofs.YtkplmaaeggnbgaaDoor.Rg
