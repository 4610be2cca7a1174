/- A disk since a world, and the contracts of its calls over it. No condition but those that each states. -/
import Derived.Test.YtkplmaaeggnbgaaDoorDkR
namespace Go.Proofs.YtkplmaaeggnbgaaDoor.Dk
open Go.RowKit

theorem Tryd.info5 : (Tryd.prog.info? 5).map (fun i => (i.zero, i.size, i.bytes)) = some (some (.int .u8 0), 1, 1) := by kernel_rfl

theorem bv_rep (n : Nat) (c : UInt8) : bv (List.replicate n c) = List.replicate n (.int .u8 (c.toNat : Int)) := by simp [bv]

theorem make64 (W : World) : (Instr.makeSlice 85 (.int .i64 64) (.int .i64 64)).run Tryd.prog W = .ok (.slice (some ⟨W.heap.size, 0, none⟩) 64 64) (W.alloc (.cells (List.replicate 64 (.int .u8 0)).toArray 5)) := by
  have := run_make_row' (P := Tryd.prog) 85 5 (.int .u8 0) 1 Tryd.underlying85 Tryd.info5 rfl .i64 .i64 64 (by omega) (by omega) W
  have e : madeCells #[Value.int .u8 0] 64 = (List.replicate 64 (Value.int .u8 0)).toArray := by
    apply Array.ext'
    rw [toList_madeCells_one]
  rw [e] at this
  exact this

/-- A disk whose blocks are new since w0; F holds of all that is to come. -/
structure Dk (w0 w : World) (F : Nat → Prop) (g : Nat) (S : DS) : Prop where
  here : DiskAt w F g S
  below : Below w0.heap.size w0 w
  lo : ∀ k, F k → w0.heap.size ≤ k
  new : ∀ k, w.heap.size ≤ k → F k

theorem Dk.later {w0 w w' : World} {F : Nat → Prop} {g : Nat} {S : DS} (h : Dk w0 w F g S) (k : Below w.heap.size w w') : Dk w0 w' F g S :=
  ⟨h.here.below k, chain2 h.below k, h.lo, fun i hi => h.new i (Nat.le_trans k.size hi)⟩

theorem Dk.next {w0 w w' : World} {F : Nat → Prop} {g : Nat} {S T : DS} (h : Dk w0 w F g S) (hD : DiskAt w' (More F w) g T) (k : Only F w w') : Dk w0 w' F g T :=
  ⟨hD.mono (fun i e => e.elim id (h.new i)), k.below h.below h.lo (Nat.le_refl _), h.lo, fun i hi => h.new i (Nat.le_trans k.size hi)⟩

theorem Dk.next' {w0 w w' : World} {F : Nat → Prop} {g : Nat} {S T : DS} (h : Dk w0 w F g S) (hD : DiskAt w' F g T) (k : Only F w w') : Dk w0 w' F g T :=
  h.next (hD.mono (fun _ e => .inl e)) k

theorem new_dk (n : Nat) (h1 : 16 ≤ n) (h2 : n ≤ 512) (w : World) :
    Calls Tryd.prog 14 #[.int .i64 (n : Int)] w fun e w' => e = .returned (.tuple #[.pointer (some ⟨w.heap.size + 2, 0, none⟩), .int .i64 0]) ∧ Dk w w' (fun k => w.heap.size ≤ k) (w.heap.size + 2) (new n) :=
  (new_ok_any n h1 h2 w).mono fun _ _ ⟨a, b, c⟩ => ⟨a, b, c, fun _ h => h, fun _ h => Nat.le_trans c.size h⟩

variable {w0 : World} {F : Nat → Prop} {g : Nat} {S : DS}

theorem dk_write (i : Nat) (s : Bytes) (w : World) (h : Dk w0 w F g S) (hon : S.on = true) (hi : i < S.L.length) (hl : s.length = 64) (hc : S.c < 2 ^ 40) (hops : S.ops ≤ 2 ^ 40) :
    Calls Tryd.prog 20 #[.pointer (some ⟨g, 0, none⟩), .int .i64 (i : Int), .string (strOf s)] w fun e w' => e = .returned (.int .i64 (errOf (S.write i s).2)) ∧ Dk w0 w' F g (S.write i s).1 ∧ Only F w w' :=
  (write_ok F g S i s w h.here hon hi hl hc hops).mono fun _ _ ⟨a, b, c⟩ => ⟨a, h.next b c, c⟩

theorem dk_sync (w : World) (h : Dk w0 w F g S) (hon : S.on = true) (hc : S.c ≤ 2 ^ 40) (hops : S.ops ≤ 2 ^ 40) :
    Calls Tryd.prog 22 #[.pointer (some ⟨g, 0, none⟩)] w fun e w' => e = .returned (.int .i64 (errOf S.sync.2)) ∧ Dk w0 w' F g S.sync.1 ∧ Only F w w' :=
  (sync_ok F g S w h.here hon hc hops).mono fun _ _ ⟨a, b, c⟩ => ⟨a, h.next' b c, c⟩

theorem dk_cut (k m : Nat) (w : World) (h : Dk w0 w F g S) (hk : k < 2 ^ 63) (hm : m < 2 ^ 64) :
    Calls Tryd.prog 24 #[.pointer (some ⟨g, 0, none⟩), .int .i64 (k : Int), .int .u64 (m : Int)] w fun e w' => e = .returned (.int .i64 0) ∧ Dk w0 w' F g (S.plan k m) ∧ Only F w w' :=
  (cut_ok F g S k m w h.here hk hm).mono fun _ _ ⟨a, b, c⟩ => ⟨a, h.next' b c, c⟩

theorem dk_fail (m : Nat) (w : World) (h : Dk w0 w F g S) (hm : m < 2 ^ 64) (hc : S.c ≤ 2 ^ 40) :
    Calls Tryd.prog 26 #[.pointer (some ⟨g, 0, none⟩), .int .u64 (m : Int)] w fun e w' => e = .returned (.tuple #[]) ∧ Dk w0 w' F g (S.fail m) ∧ Only F w w' :=
  (fail_any F g m S w h.here hm hc).mono fun _ _ ⟨a, b, c⟩ => ⟨a, h.next' b c, c⟩

theorem dk_start (w : World) (h : Dk w0 w F g S) :
    Calls Tryd.prog 28 #[.pointer (some ⟨g, 0, none⟩)] w fun e w' => e = .returned (.tuple #[]) ∧ Dk w0 w' F g S.start ∧ Only F w w' :=
  (start_any F g S w h.here).mono fun _ _ ⟨a, b, c⟩ => ⟨a, h.next' b c, c⟩

theorem dk_read (i : Nat) (w : World) (h : Dk w0 w F g S) (hon : S.on = true) (hi : i < S.L.length) (hc : S.c ≤ 2 ^ 40) :
    Calls Tryd.prog 66 #[.pointer (some ⟨g, 0, none⟩), .int .i64 (i : Int)] w fun e w' => e = .returned (.tuple #[.string (strOf (S.read i)), .int .i64 0]) ∧ Dk w0 w' F g S ∧ Below w.heap.size w w' :=
  (read_any F g S i w h.here hon hi hc).mono fun _ _ ⟨a, b⟩ => ⟨a, h.later b, b⟩

theorem on_at (w : World) (h : DiskAt w F g S) : Calls Tryd.prog 64 #[.pointer (some ⟨g, 0, none⟩)] w fun e w' => e = .returned (.bool S.on) ∧ w = w' := on_yes g S.on w h.self h.on


end Go.Proofs.YtkplmaaeggnbgaaDoor.Dk
