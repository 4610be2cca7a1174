/- The walks of lex.nextMark, nextWord, Name: their contracts. No condition but those that each states. -/
import Derived.Test.YtcfmjnhagpmnpaaDoorLxC
namespace Go.Proofs.YtcfmjnhagpmnpaaDoor.Lx
open Go.RowKit Dk

/-- What a token, or none, is as results: the token, where it ends, the fault. -/
def oneV (p : Nat) : One → Value
  | .bad e => .tuple #[.agg Tk.zero.cells.toArray, .int .i64 0, .int .i64 (e : Int)]
  | .tok k t n len => .tuple #[.agg (Tk.mk k t n p).cells.toArray, .int .i64 ((p : Int) + (len : Int)), .int .i64 0]

theorem extract_mid (s : ByteArray) (a n : Nat) : s.extract a (a + n) = strOf ((from' s a).take n) := by
  have : (s.extract a (a + n)).data.toList = (from' s a).take n := by
    rw [Lib.extract_data]
    unfold from'
    simp
  rw [← strOf_self (s.extract a (a + n)), this]

theorem run_mid {P : Program} (s : ByteArray) (a n : Nat) (h : a + n ≤ s.size) (t : TypeId) (ht : P.underlying t = some .string) (W : World) : (Instr.slice t (.string s) (some (.int .i64 (a : Int))) (some (.int .i64 ((a : Int) + (n : Int)))) none).run P W = .ok (.string (strOf ((from' s a).take n))) W := by
  rw [run_slice_string W t s .i64 .i64 _ _ ht (by omega) (by omega) (by omega), ← extract_mid]
  have e1 : ((a : Int)).toNat = a := by omega
  have e2 : ((a : Int) + (n : Int)).toNat = a + n := by omega
  rw [e1, e2]

/-- A token in a block behind the world w. -/
def TW (w W : World) (t : Tk) : Prop := TB W w.heap.size t ∧ Below w.heap.size w W
theorem tw_new (w : World) : TW w (w.alloc (.cells #[.int .i64 0, .string ⟨#[]⟩, .int .i64 0, .int .i64 0] 29)) Tk.zero := ⟨tb_new w Tk.zero _, (Below.refl _ _).alloc (Nat.le_refl _) _⟩
theorem TW.later {w W W' : World} {t : Tk} (h : TW w W t) (hb : Below W.heap.size W W') : TW w W' t := ⟨h.1.later hb, chain2 h.2 hb⟩
theorem TW.put {w W : World} {t : Tk} (h : TW w W t) (t' : Tk) : TW w (W.setCells w.heap.size 0 t'.cells.toArray.toList) t' := ⟨h.1.set t', below_setCells h.2 _ (Nat.le_refl _) _ _ _ h.2⟩

set_option maxHeartbeats 2000000 in
theorem nextMark_any (s : ByteArray) (a : Nat) (c : UInt8) (r : List UInt8) (w : World) (hl : from' s a = c :: r) (hs : s.size ≤ 2 ^ 40) :
    Calls Tryd.prog 36 #[.string s, .int .i64 (a : Int)] w fun e w' => e = .returned (oneV a (markOne (from' s a))) ∧ Below w.heap.size w w' := by
  have hlen := from_length s a
  rw [hl] at hlen
  simp at hlen
  have hle := markN_le (c :: r)
  simp at hle
  have hsl := fun W => run_from (P := Tryd.prog) s a (by omega) 9 Tryd.underlying9 W
  have hex : s.extract a s.size = strOf (c :: r) := by rw [← hl, ← extract_list s a]; exact (strOf_self _).symm
  rw [hex] at hsl
  have C := Lib.hid (fun W => markSize_any c r W)
  have hmid := fun W => run_mid (P := Tryd.prog) s a (markN (c :: r)) (by omega) 9 Tryd.underlying9 W
  rw [hl] at hmid ⊢
  unfold markOne
  generalize hT : (c :: r).take (markN (c :: r)) = T at hmid ⊢
  generalize markN (c :: r) = n at *
  generalize strOf (c :: r) = x at *
  clear hex hl hT
  have HZ := Lib.hid (tw_new w)
  go_enter Tryd.func36, Tryd.ntmps36
  go_wp2_with fail
  generalize w.alloc _ = W1 at HZ ⊢
  refine (C.out _).mono ?_
  rintro e W2 ⟨rfl, hb⟩
  have HY := Lib.hid (HZ.out.later hb)
  clear hb HZ C
  by_cases h0 : n = 0
  · subst h0
    go_wp2_with (refine wpList_store_mid rfl 29 _ _ rfl w.heap.size 0 Tk.zero.cells.toArray rfl rfl HY.out.1.room (t_infoA _) (t_all _) ?_; have HR := Lib.hid (HY.out.put Tk.zero); generalize World.setCells _ _ _ _ = W8 at HR ⊢)
    refine bodyPost_ret (results_cell3 rfl _ _ rfl HR.out.1.cells Tryd.underlying29 rfl (t_info _)) rfl ?_
    exact ⟨rfl, HR.out.2⟩
  · have e1 : IntKind.i64.wrap ((a : Int) + (n : Int)) = (a : Int) + (n : Int) := IntWalk.i64_in _ (by omega)
    have h2 : ((n : Int) == 0) = false := by simpa using h0
    go_wp2_with (refine wpList_store_mid rfl 29 _ _ rfl w.heap.size 0 (Tk.mk 4 T 0 a).cells.toArray rfl rfl HY.out.1.room (t_infoA _) (t_all _) ?_; have HR := Lib.hid (HY.out.put (Tk.mk 4 T 0 a)); generalize World.setCells _ _ _ _ = W8 at HR ⊢)
    refine bodyPost_ret (results_cell3 rfl _ _ rfl HR.out.1.cells Tryd.underlying29 rfl (t_info _)) rfl ?_
    exact ⟨by first | rfl | (rw [if_neg h0]; rfl), HR.out.2⟩

set_option maxHeartbeats 2000000 in
theorem nextWord_any (s : ByteArray) (a : Nat) (w : World) (ha : a ≤ s.size) (hs : s.size ≤ 2 ^ 40) :
    Calls Tryd.prog 32 #[.string s, .int .i64 (a : Int)] w fun e w' => e = .returned (oneV a (wordOf (from' s a) (spanN isW (from' s a)))) ∧ Below w.heap.size w w' := by
  have hlen := from_length s a
  have hle := spanN_le isW (from' s a)
  have C := Lib.hid (fun W => wordEnd_any s a W ha hs)
  have hmid := fun W => run_mid (P := Tryd.prog) s a (spanN isW (from' s a)) (by omega) 9 Tryd.underlying9 W
  have K := Lib.hid (fun W => key_any ((from' s a).take (spanN isW (from' s a))) W)
  have hsz := strOf_size ((from' s a).take (spanN isW (from' s a)))
  rw [List.length_take, Nat.min_eq_left hle] at hsz
  unfold wordOf
  generalize (from' s a).take (spanN isW (from' s a)) = T at *
  generalize spanN isW (from' s a) = n at *
  rw [Int.natCast_add] at C
  have HZ := Lib.hid (tw_new w)
  go_enter Tryd.func32, Tryd.ntmps32
  go_wp2_with fail
  generalize w.alloc _ = W1 at HZ ⊢
  refine (C.out _).mono ?_
  rintro e W2 ⟨rfl, hb⟩
  have HY := Lib.hid (HZ.out.later hb)
  clear hb HZ C
  cases hk : isKey T with
  | true =>
    rw [hk] at K
    have HK := Lib.hid hk
    clear hk
    go_wp2_with (first
      | (go_at_call 18; refine (K.out _).mono ?_; rintro e w' ⟨rfl, rfl⟩)
      | (refine wpList_store_mid rfl 29 _ _ rfl w.heap.size 0 (Tk.mk 5 T 0 a).cells.toArray rfl rfl HY.out.1.room (t_infoA _) (t_all _) ?_; have HR := Lib.hid (HY.out.put (Tk.mk 5 T 0 a)); generalize World.setCells _ _ _ _ = W8 at HR ⊢))
    refine bodyPost_ret (results_cell3 rfl _ _ rfl HR.out.1.cells Tryd.underlying29 rfl (t_info _)) rfl ?_
    exact ⟨by first | rfl | (rw [if_pos HK.out]; rfl), HR.out.2⟩
  | false =>
    rw [hk] at K
    have HK : Hid (¬isKey T = true) := Lib.hid (by rw [hk]; exact Bool.false_ne_true)
    clear hk
    by_cases h16 : 16 < n
    · have h2 : ((strOf T).size : Int) > 16 := by omega
      go_wp2_with (first
        | (go_at_call 18; refine (K.out _).mono ?_; rintro e w' ⟨rfl, rfl⟩)
        | (refine wpList_store_mid rfl 29 _ _ rfl w.heap.size 0 Tk.zero.cells.toArray rfl rfl HY.out.1.room (t_infoA _) (t_all _) ?_; have HR := Lib.hid (HY.out.put Tk.zero); generalize World.setCells _ _ _ _ = W8 at HR ⊢))
      refine bodyPost_ret (results_cell3 rfl _ _ rfl HR.out.1.cells Tryd.underlying29 rfl (t_info _)) rfl ?_
      exact ⟨by first | rfl | (rw [if_pos h16]; rfl) | (rw [if_neg HK.out, if_pos h16]; rfl), HR.out.2⟩
    · have h2 : ¬((strOf T).size : Int) > 16 := by omega
      go_wp2_with (first
        | (go_at_call 18; refine (K.out _).mono ?_; rintro e w' ⟨rfl, rfl⟩)
        | (refine wpList_store_mid rfl 29 _ _ rfl w.heap.size 0 (Tk.mk 1 T 0 a).cells.toArray rfl rfl HY.out.1.room (t_infoA _) (t_all _) ?_; have HR := Lib.hid (HY.out.put (Tk.mk 1 T 0 a)); generalize World.setCells _ _ _ _ = W8 at HR ⊢))
      refine bodyPost_ret (results_cell3 rfl _ _ rfl HR.out.1.cells Tryd.underlying29 rfl (t_info _)) rfl ?_
      exact ⟨by first | rfl | (rw [if_neg h16]; rfl) | (rw [if_neg HK.out, if_neg h16]; rfl), HR.out.2⟩

end Go.Proofs.YtcfmjnhagpmnpaaDoor.Lx
