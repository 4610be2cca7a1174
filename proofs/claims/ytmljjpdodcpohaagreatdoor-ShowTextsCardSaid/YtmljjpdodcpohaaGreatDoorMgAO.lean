/- A tree that the machine reads has no more nodes than tokens were read; The machine's way from one place to another, step by step; what of it the tokens decide, and what lies below it; What lies below the trees that a front reads is left alone; an item of a module is read by the tokens that it takes alone; A module's tree; When a module's tree is right, by its items' trees; What was written of a tree is read as that tree; What was written of each kind of node is read as it; What was written of a module's right tree is read as it; What was written of a module's right tree is read as that tree; Rows of tokens as they are read, and the walk of chrysalisref08; Parts of a slice of tokens; The walk of lex; The walks of chrysalisref08's letter, digit, blank, Key, word, Name. No condition but those that each states. -/
import Derived.Test.YtmljjpdodcpohaaGreatDoorMgAN
import Derived.Test.YtmljjpdodcpohaaGreatDoorMgAJ
import Derived.Test.YtmljjpdodcpohaaGreatDoorMgAM
import Derived.Test.YtmljjpdodcpohaaGreatDoorMgAH
import Derived.Test.YtmljjpdodcpohaaGreatDoorMgAK
namespace Go.Proofs.YtmljjpdodcpohaaGreatDoor.Pa
open Lx Tr
def cnt : List (List Nd) → Int
  | [] => 0
  | t :: V => (t.length : Int) + cnt V
def phi : Sy → Int
  | .mark _ => -1
  | .outer _ => 1
  | .lC p _ _ => if p then 0 else 1
  | .blk => -1
  | .els => 1
  | .mk _ _ => 1
  | .uses _ _ => 1
  | .funs _ _ => 1
  | _ => 0
def phS : List Sy → Int
  | [] => 0
  | a :: A => phi a + phS A
theorem phS_app (A B : List Sy) : phS (A ++ B) = phS A + phS B := by
  induction A with
  | nil => simp [phS]
  | cons a A ih => rw [List.cons_append, phS, phS, ih]; omega
theorem cnt_app (A B : List (List Nd)) : cnt (A ++ B) = cnt A + cnt B := by
  induction A with
  | nil => simp [cnt]
  | cons a A ih => rw [List.cons_append, cnt, cnt, ih]; omega
theorem cnt_flat (A : List (List Nd)) : (A.flatten.length : Int) = cnt A := by
  induction A with
  | nil => rfl
  | cons a A ih => rw [List.flatten_cons, List.length_append, cnt, ← ih]; omega
theorem cnt_rev (A : List (List Nd)) : cnt A.reverse = cnt A := by
  induction A with
  | nil => rfl
  | cons a A ih => rw [List.reverse_cons, cnt_app, ih, cnt, cnt, cnt]; omega
theorem stmtA_phi {s : List UInt8} {A : List Sy} (h : stmtA s = some A) : phS A ≤ 1 := by
  unfold stmtA at h; repeat' split at h
  all_goals (cases h; try decide)
theorem primA_phi {s : List UInt8} {A : List Sy} (h : primA s = some A) : phS A ≤ 1 := by
  unfold primA at h; repeat' split at h
  all_goals (cases h; try decide)
theorem one_count {L : List Tk} {a : Sy} {B : List Sy} {V V' : List (List Nd)} {i j : Nat} (h : one L a V i = some (B, V', j)) : cnt V' + phS B - (j : Int) ≤ cnt V + phi a - (i : Int) := by
  cases a with
  | prim =>
    change (if kd L i = 2 then _ else if kd L i = 3 then _ else if kd L i = 1 then _ else _) = _ at h; split at h
    · cases h; simp [phS, phi]; omega
    · split at h
      · cases h; simp [phS, phi]; omega
      · split at h
        · cases h; simp [phS, phi]; omega
        · cases hp : primA (sg L i) with
          | none => rw [hp] at h; cases h
          | some A =>
            rw [hp] at h; cases h
            have := primA_phi hp; simp [phi]; omega
  | stmt =>
    change (match stmtA (sg L i) with | some A => some (A, V, i + 1) | none => _) = _ at h; cases hp : stmtA (sg L i) with
    | none => rw [hp] at h; cases h; simp [phS, phi]
    | some A =>
      rw [hp] at h; cases h
      have := stmtA_phi hp; simp [phi]; omega
  | asg =>
    change (if sg L i = [61] then _ else _) = _ at h; split at h
    · cases V with
      | nil => cases h
      | cons t V1 =>
        cases t with
        | nil => cases h
        | cons x b =>
          change (if x.kind = 21 then _ else if x.kind = 26 then _ else none) = _ at h; split at h
          · cases h; simp [phS, phi, cnt]; omega
          · split at h
            · cases h
              simp only [phS, phi, cnt, List.length_cons, List.length_drop, List.length_take]; omega
            · cases h
    · cases h; simp [phS, phi]
  | mk x m =>
    change (if m ≤ V.length then some ([], join x (V.take m).reverse :: V.drop m, i) else none) = _ at h; split at h
    · cases h
      have e : cnt V = cnt (V.take m) + cnt (V.drop m) := by rw [← cnt_app, List.take_append_drop]
      have e2 := cnt_flat (V.take m).reverse; rw [cnt_rev] at e2; simp only [phS, phi, cnt, join, List.length_cons]; omega
    · cases h
  | e n =>
    change (if n < 5 then _ else if sg L i = _ then _ else if sg L i ∈ _ then _ else _) = _ at h; repeat' split at h
    all_goals (cases h; simp [phS, phi]; try omega)
  | row n =>
    change (if sg L i ∈ level n then _ else _) = _ at h; split at h
    · cases h
      by_cases hn : n = 2
      · simp [phS, phi, hn]; omega
      · simp [phS, phi, hn]; omega
    · cases h; simp [phS, phi]
  | post =>
    change (if sg L i = _ then _ else if sg L i = _ then _ else _) = _ at h; repeat' split at h
    all_goals (cases h; simp [phS, phi]; try omega)
  | mark s =>
    change (if sg L i = s then _ else none) = _ at h; split at h
    · cases h; simp [phS, phi]; omega
    · cases h
  | outer a =>
    change (if sg L i = [46] then _ else _) = _ at h; split at h
    all_goals (cases h; simp [phS, phi]; try omega)
  | outN a => obtain ⟨rfl, rfl, rfl⟩ := need_some h; simp [phS, phi]; omega
  | lF p x m =>
    change (if sg L i = [41] then _ else _) = _ at h; split at h
    all_goals (cases h; cases p <;> simp [phS, phi] <;> omega)
  | lN p x m =>
    change (if sg L i = [44] then _ else if sg L i = [41] then _ else none) = _ at h; split at h
    · cases h; cases p <;> simp [phS, phi] <;> omega
    · split at h
      · cases h; cases p <;> simp [phS, phi] <;> omega
      · cases h
  | lC p x m => cases h; cases p <;> simp [phS, phi]
  | par => obtain ⟨rfl, rfl, rfl⟩ := need_some h; simp [phS, phi]; omega
  | fn x => cases h; simp [phS, phi]; omega
  | blk => cases h; simp [phS, phi]
  | sts m =>
    change (if sg L i = [125] then _ else _) = _ at h; split at h
    all_goals (cases h; simp [phS, phi]; try omega)
  | letN => obtain ⟨rfl, rfl, rfl⟩ := need_some h; simp [phS, phi]; omega
  | els =>
    change (if sg L i = _ then _ else _) = _ at h; split at h
    all_goals (cases h; simp [phS, phi]; try omega)
  | mod => cases h; simp [phS, phi]; omega
  | modN => obtain ⟨rfl, rfl, rfl⟩ := need_some h; simp [phS, phi]; omega
  | modI a => obtain ⟨rfl, rfl, rfl⟩ := need_some h; simp [phS, phi]; omega
  | uses x m =>
    change (if sg L i = _ then _ else _) = _ at h; split at h
    all_goals (cases h; simp [phS, phi]; try omega)
  | useN => obtain ⟨rfl, rfl, rfl⟩ := need_some h; simp [phS, phi]; omega
  | useM a => obtain ⟨rfl, rfl, rfl⟩ := need_some h; simp [phS, phi]; omega
  | useI a b => obtain ⟨rfl, rfl, rfl⟩ := need_some h; simp [phS, phi]; omega
  | funs x m =>
    change (if sg L i = _ then _ else _) = _ at h; split at h
    all_goals (cases h; simp [phS, phi]; try omega)
  | funN => obtain ⟨rfl, rfl, rfl⟩ := need_some h; simp [phS, phi]; omega
def CntC (L : List Tk) (k : Int) : Cfg → Prop
  | .run A V i => cnt V + phS A - (i : Int) ≤ k
  | .bad _ => True
  | .fin V => cnt V - (L.length : Int) ≤ k
theorem step_count {L : List Tk} {k : Int} {c : Cfg} (h : CntC L k c) : CntC L k (step L c) := by
  match c, h with
  | .bad i, h => exact h
  | .fin V, h => exact h
  | .run [] V i, h =>
    show CntC L k (if i = L.length then .fin V else .bad i)
    split
    · rename_i e
      subst e; have h' : cnt V + 0 - (L.length : Int) ≤ k := h; show cnt V - (L.length : Int) ≤ k
      omega
    · trivial
  | .run (a :: A) V i, h =>
    show CntC L k (match one L a V i with | some (B, V', j) => .run (B ++ A) V' j | none => .bad i)
    cases ho : one L a V i with
    | none => trivial
    | some x =>
      obtain ⟨B, V', j⟩ := x; have h1 := one_count ho; have h2 : cnt V + (phi a + phS A) - (i : Int) ≤ k := h; show cnt V' + phS (B ++ A) - (j : Int) ≤ k
      rw [phS_app]; omega
theorem to_count {L : List Tk} {k : Int} {c d : Cfg} (h : To L c d) (hc : CntC L k c) : CntC L k d := by
  obtain ⟨n, rfl⟩ := h; induction n generalizing c with
  | zero => exact hc
  | succ n ih => exact ih (step_count hc)
theorem mod_few {L : List Tk} {t : List Nd} (h : To L (.run [.mod] [] 0) (.fin [t])) : t.length ≤ L.length := by
  have := to_count (k := 0) h (by show (0 : Int) + (0 + 0) - ((0 : Nat) : Int) ≤ 0; decide)
  have h2 : (t.length : Int) + 0 - (L.length : Int) ≤ 0 := this; omega
theorem mod_tok {K : Nat} {L : List Tk} (hL : TkS K L) {t : List Nd} (h : To L (.run [.mod] [] 0) (.fin [t])) : Tok K t := by
  have := to_good hL h (show GoodC K (.run [.mod] [] 0) from ⟨fun b hb => by rw [List.mem_singleton.1 hb]; trivial, fun t ht => by cases ht⟩)
  exact this t (List.mem_singleton.2 rfl)
end Go.Proofs.YtmljjpdodcpohaaGreatDoor.Pa

namespace Go.Proofs.YtmljjpdodcpohaaGreatDoor.Pa
open Lx Tr
def out (L : List Tk) (a : Sy) (V : List (List Nd)) (i : Nat) (B : List Sy) (V' : List (List Nd)) (u : Nat) : Prop := one L a V i = some (B, V', i + u)
variable {L L' : List Tk} {q q' : Nat} {A A' A1 A2 : List Sy} {V V' V1 V2 : List (List Nd)} {i j k : Nat}
end Go.Proofs.YtmljjpdodcpohaaGreatDoor.Pa

namespace Go.Proofs.YtmljjpdodcpohaaGreatDoor.Sw
open Lx Tr Pa
variable {L : List Tk}
def R (L : List Tk) (a : Sy) (t : List Nd) (i j : Nat) : Prop := ∀ K V, To L (.run (a :: K) V i) (.run K (t :: V) j)
def RE (L : List Tk) (t : List Nd) (i j : Nat) : Prop := ∀ K V, To L (.run (.prim :: .post :: K) V i) (.run (.post :: K) (t :: V) j)
end Go.Proofs.YtmljjpdodcpohaaGreatDoor.Sw

namespace Go.Proofs.YtmljjpdodcpohaaGreatDoor.Lx
open Go.RowKit Dk
def Toks (W : World) (v : Value) (ts : List Tk) : Prop := ∃ p c, v = .slice p ts.length c ∧ ts.length ≤ c ∧ (ts = [] ∨ ∃ g o, p = some ⟨g, o, none⟩ ∧ g < W.heap.size ∧ W.rangeAt g o (tcells ts))
theorem Toks.later {W W' : World} {v : Value} {ts : List Tk} (h : Toks W v ts) (hb : Below W.heap.size W W') : Toks W' v ts := by
  obtain ⟨p, c, rfl, hc, h | ⟨g, o, rfl, hg, hr⟩⟩ := h
  · exact ⟨p, c, rfl, hc, .inl h⟩
  · exact ⟨_, c, rfl, hc, .inr ⟨g, o, rfl, Nat.lt_of_lt_of_le hg hb.size, rangeAt_block hr (hb.block g hg)⟩⟩
theorem TR.toks {w W : World} {v : Value} {ts : List Tk} (h : TR w W v ts) : Toks W v ts := by
  rcases h.row.2 with ⟨hv, h0⟩ | ⟨g, cap, cur, hv, hbg, hg, h3, h4, h5, h6⟩
  · exact ⟨none, 0, by rw [hv, h0], by omega, .inl (List.eq_nil_of_length_eq_zero h0)⟩
  · have hrow := h.row
    rw [hv] at hrow; refine ⟨_, cap, hv, h3, .inr ⟨g, 0, rfl, ?_, ?_⟩⟩
    · rcases Nat.lt_or_ge g W.heap.size with h | h
      · exact h
      · rw [Array.getElem?_eq_none h] at hg; cases hg
    · exact ownsRow_range hrow
theorem tcells_at {ts : List Tk} {i : Nat} (h : i < ts.length) (j : Nat) (hj : j < 4) : (tcells ts)[i * 4 + j]? = (ts[i]).cells[j]? := by
  induction ts generalizing i with
  | nil => simp at h
  | cons t ts ih =>
    rw [tcells_cons]; cases i with
    | zero => rw [Nat.zero_mul, Nat.zero_add, List.getElem?_append_left (by show j < 4; exact hj)]; rfl
    | succ i =>
      rw [List.getElem?_append_right (by show 4 ≤ _; omega)]
      rw [show (i + 1) * 4 + j - t.cells.length = i * 4 + j by show (i + 1) * 4 + j - 4 = _; omega]
      exact ih (by simpa using h)
def AlikeP (b : Bool) (x y : List Tk) : Prop := x.length = y.length ∧ ∀ i (h : i < x.length) (h' : i < y.length), x[i].kind = y[i].kind ∧ x[i].text = y[i].text ∧ x[i].n = y[i].n ∧ (b = true → x[i].place = y[i].place)
theorem ws_region {P : Program} {id : Nat} {Q : Exit → Act → World → Prop} {a : Act} {w : World} {l : List Oper} (hm : P.follows .mixedOrders = true) (hB : Region.lexB .any l.toArray = true)
    (w1 : World) (hw : w.drew = w1) (h : WS P l.toArray w1 (fun a' => Q .normal a' w1) l a) : (Code.region id l.toArray true).wp P Q a w :=
  region_still hm hB w1 hw h.out
end Go.Proofs.YtmljjpdodcpohaaGreatDoor.Lx

namespace Go.Proofs.YtmljjpdodcpohaaGreatDoor.Lx
open Lib (hid)
set_option maxRecDepth 100000
set_option maxHeartbeats 4000000
open Go.RowKit Dk
theorem join_eq : ∀ xs : List (List UInt8), joinL xs = Lib.join xs [32]
  | [] => rfl
  | [x] => by rw [Lib.join_one]; rfl
  | x :: y :: r => by
    have ih := join_eq (y :: r); show x ++ 32 :: joinL (y :: r) = _
    rw [ih]; unfold Lib.join; simp [List.intercalate]
theorem s_info3 : (Tryz.prog.info? 9).map (fun i => (i.zero, i.size, i.bytes)) = some (some (.string ⟨#[]⟩), 1, 16) := by kernel_rfl
def txtRow (ts : List Tk) (i m : Nat) : Value := .string (strOf (if m < i then written (ts.getD m Tk.zero) else []))
theorem txtRow_step (ts : List Tk) (i : Nat) (t : Tk) (h : ts[i]? = some t) (m : Nat) : (if m = i then Value.string (strOf (written t)) else txtRow ts i m) = txtRow ts (i + 1) m := by
  unfold txtRow; by_cases hm : m = i
  · subst hm
    rw [if_pos rfl, if_pos (Nat.lt_succ_self _), List.getD_eq_getElem?_getD, h]; rfl
  · rw [if_neg hm]
    by_cases hl : m < i
    · rw [if_pos hl, if_pos (by omega)]
    · rw [if_neg hl, if_neg (by omega)]
theorem txtRow_twice (ts : List Tk) (i : Nat) (v u : Value) (m : Nat) : (if m = i then v else if m = i then u else txtRow ts i m) = if m = i then v else txtRow ts i m := by
  by_cases hm : m = i
  · rw [if_pos hm, if_pos hm]
  · rw [if_neg hm, if_neg hm, if_neg hm]
theorem TB.at {W : World} {B : Nat} {t : Tk} (h : TB W B t) (j : Nat) (v : Value) (hv : t.cells[j]? = some v) : W.cell? ⟨B, j, none⟩ = some v := by
  have := h.cells j v hv; rwa [Nat.zero_add] at this
theorem cell_other {W : World} {b b' o o' : Nat} (h : b ≠ b') {u : Value} (hc : W.cell? ⟨b, o, none⟩ = some u) (v : Value) : (W.setCell ⟨b', o', none⟩ v).cell? ⟨b, o, none⟩ = some u := by
  rw [World.cell?_setCell_other _ _ _ _ (by intro e; have e1 := congrArg Addr.block e; first | exact h e1 | exact h e1.symm)]
  exact hc
theorem text_some (g o cp : Nat) (ts : List Tk) (w : World) (hx : w.rangeAt g o (tcells ts)) (hg : g < w.heap.size) (hl : ts.length ≤ 40000) (hw : ∀ t ∈ ts, t.text.length ≤ 2 ^ 30) (hj : (writeL ts).length ≤ 2 ^ 40) :
    Calls Tryz.prog 32 #[.slice (some ⟨g, o, none⟩) ts.length cp] w fun e w' => e = .returned (.string (strOf (writeL ts))) ∧ Below w.heap.size w w' := by
  have HX : Hid (∀ W, Below w.heap.size w W → W.rangeAt g o (tcells ts)) := hid (fun W hb => rangeAt_block hx (hb.block g hg)); have HWR := hid hw
  have HJ : Hid (∀ W, w.heap.size < W.heap.size → W.rowIs w.heap.size 9 ts.length (txtRow ts ts.length) → Calls Tryz.prog 73 #[.slice (some ⟨w.heap.size, 0, none⟩) ts.length ts.length, .string ⟨#[32]⟩] W fun e w' => e = .returned (.string (strOf (writeL ts))) ∧ Below W.heap.size W w') := hid (fun W hW hr => by
    have hlen : (ts.map (fun t => strOf (written t))).length = ts.length := List.length_map _; have hmap : (ts.map (fun t => strOf (written t))).map (·.data.toList) = ts.map written := by rw [List.map_map]; exact List.map_congr_left (fun t _ => strOf_toList _)
    have := strings_Join w.heap.size 0 ts.length (ts.map (fun t => strOf (written t))) ⟨#[32]⟩ W (fun j x hx => by
      rw [Nat.zero_add]; obtain ⟨hj, e⟩ := List.getElem?_eq_some_iff.1 hx; rw [hlen] at hj; rw [hr.cell hj]; unfold txtRow; rw [if_pos hj, ← e, List.getD_eq_getElem?_getD, List.getElem?_eq_getElem hj, List.getElem_map]
      rfl) hW (by omega) (by omega) (by rw [hmap, show (⟨#[32]⟩ : ByteArray).data.toList = [32] from rfl, ← join_eq]; exact Nat.le_trans hj (by decide))
    rw [hlen, hmap, show (⟨#[32]⟩ : ByteArray).data.toList = [32] from rfl, ← join_eq] at this
    exact this)
  obtain ⟨n, hn⟩ : ∃ n, n = ts.length := ⟨_, rfl⟩; rw [← hn] at HJ hl ⊢; have HN := hid hn; have hmk := fun w : World => run_make_row' (P := Tryz.prog) 83 9 (.string ⟨#[]⟩) 16 Tryz.underlying83 s_info3 rfl .i64 .i64 n (by omega) (by omega) w
  clear hx hg hw hj hn; go_enter Tryz.func32, Tryz.ntmps32
  go_wp2; clear hmk; go_loopw [11] (fun vi wr => ∃ i : Nat, i ≤ n ∧ vi = .int .i64 (i : Int) ∧ Hid (wr.rowIs w.heap.size 9 n (txtRow ts i)) ∧ Hid (Below w.heap.size w wr ∧ w.heap.size < wr.heap.size)) (fun vi _ => n - (intOf vi).toNat)
  case atStart => exact ⟨0, Nat.zero_le _, rfl, hid ((World.rowIs_made w _ _ _).congr (fun m _ => by unfold txtRow; rw [if_neg (Nat.not_lt_zero _)]; rfl)), hid ⟨(Below.refl _ _).alloc (Nat.le_refl _) _, by simp⟩⟩
  case round =>
    obtain ⟨i, hi, rfl, hrow, hI⟩ := hrel; by_cases hlt : i < n
    · have z0 : (0 : Int) ≤ (i : Int) := by omega
      have z1 : (i : Int) < (n : Int) := by omega
      have hil : i < ts.length := by rw [← HN.out]; exact hlt
      obtain ⟨t, ht⟩ : ∃ t, t = ts[i] := ⟨_, rfl⟩; have HTT := hid (show ts[i]? = some t by rw [ht, List.getElem?_eq_getElem hil]); have HTX := hid (HWR.out t (by rw [ht]; exact List.getElem_mem hil))
      have HR1 : Hid (wr.rangeAt g (o + i * 4) t.cells) := hid (by
        intro j v hv; have hj : j < 4 := (List.getElem?_eq_some_iff.1 hv).1; have := HX.out wr hI.out.1 (i * 4 + j) v (by rw [tcells_at hil j hj, ← ht]; exact hv)
        rwa [← Nat.add_assoc] at this)
      have HTI := hid (t_info t); have HZ := hid (tb_zero wr); have HP := hid (tb_put wr t); have HROW : Hid (∀ W, Below wr.heap.size wr W → W.rowIs w.heap.size 9 n (txtRow ts i)) := hid (fun W hb => hrow.out.of_block (hb.block _ hI.out.2)); have hne : w.heap.size ≠ wr.heap.size := by have := hI.out.2; omega
      clear ht hil; have HQ := hid (fun W => quote_any t.text W (by have := HTX.out; omega))
      by_cases hk : t.kind = 3
      · have hwt : Hid (written t = quoteL t.text) := hid (by unfold written; rw [if_pos hk])
        have v1 : (t.kind == 3) = true := by simpa using hk
        clear hk
        go_wp2_with (first
          | (refine wpList_load_mid rfl 73 (.tmp 14) rfl g (o + i * 4) rfl t.cells _ HR1.out Tryz.underlying73 rfl HTI.out ?_)
          | (refine wpList_store_mid rfl 73 (.tmp 5) (.tmp 15) rfl wr.heap.size 0 t.cells.toArray rfl rfl HZ.out.room (t_infoA t) (t_all t) ?_; generalize World.setCells _ _ _ _ = W3 at HP ⊢; have HP3 := hid HP.out; clear HP; have c1 : W3.cell? ⟨wr.heap.size, 1, none⟩ = some (.string (strOf t.text)) := HP3.out.1.at 1 _ rfl; have HR3 := hid (HROW.out W3 HP3.out.2); have hfz : W3.frozen? ⟨w.heap.size, i, none⟩ = false := HR3.out.frozen _; have hcl : W3.cell? ⟨w.heap.size, i, none⟩ = some (txtRow ts i i) := HR3.out.cell hlt; have k0 : ∀ v, (W3.setCell ⟨w.heap.size, i, none⟩ v).cell? ⟨wr.heap.size, 0, none⟩ = some (.int .i64 t.kind) := cell_other (Ne.symm hne) (HP3.out.1.at 0 _ rfl); have k1 : ∀ v, (W3.setCell ⟨w.heap.size, i, none⟩ v).cell? ⟨wr.heap.size, 1, none⟩ = some (.string (strOf t.text)) := cell_other (Ne.symm hne) c1)
          | (go_at_call 72; refine (HQ.out _).mono ?_; rintro e W5 ⟨rfl, hb5⟩; have HR5 := hid ((HR3.out.set i (.string (strOf t.text))).of_block (hb5.block _ (by simp; have := HP3.out.2.size; have := hI.out.2; omega))); have hfz5 : W5.frozen? ⟨w.heap.size, i, none⟩ = false := HR5.out.frozen _; have hcl5 := HR5.out.cell hlt; have HB5 : Hid (Below w.heap.size w W5 ∧ w.heap.size < W5.heap.size) := hid ⟨(chain2 (chain2 hI.out.1 HP3.out.2 |>.setCell (by simp) (.string (strOf t.text))) hb5), (by have := hb5.size; simp at this; have := HP3.out.2.size; have := hI.out.2; omega)⟩; clear hb5))
        go_roundw
        case rel => exact ⟨i + 1, by omega, by go_num, hid ((HR5.out.set i (.string (strOf (quoteL t.text)))).congr (fun m _ => by rw [txtRow_twice, ← hwt.out]; exact txtRow_step ts i t HTT.out m)), hid ⟨HB5.out.1.setCell (by simp) _, by simp; exact HB5.out.2⟩⟩
        case measure => simp [intOf]; omega
      · have hwt : Hid (written t = t.text) := hid (by unfold written; rw [if_neg hk])
        have v1 : (t.kind == 3) = false := by simpa using hk
        clear hk
        go_wp2_with (first
          | (refine wpList_load_mid rfl 73 (.tmp 14) rfl g (o + i * 4) rfl t.cells _ HR1.out Tryz.underlying73 rfl HTI.out ?_)
          | (refine wpList_store_mid rfl 73 (.tmp 5) (.tmp 15) rfl wr.heap.size 0 t.cells.toArray rfl rfl HZ.out.room (t_infoA t) (t_all t) ?_; generalize World.setCells _ _ _ _ = W3 at HP ⊢; have HP3 := hid HP.out; clear HP; have c1 : W3.cell? ⟨wr.heap.size, 1, none⟩ = some (.string (strOf t.text)) := HP3.out.1.at 1 _ rfl; have HR3 := hid (HROW.out W3 HP3.out.2); have hfz : W3.frozen? ⟨w.heap.size, i, none⟩ = false := HR3.out.frozen _; have hcl : W3.cell? ⟨w.heap.size, i, none⟩ = some (txtRow ts i i) := HR3.out.cell hlt; have k0 : ∀ v, (W3.setCell ⟨w.heap.size, i, none⟩ v).cell? ⟨wr.heap.size, 0, none⟩ = some (.int .i64 t.kind) := cell_other (Ne.symm hne) (HP3.out.1.at 0 _ rfl); have k1 : ∀ v, (W3.setCell ⟨w.heap.size, i, none⟩ v).cell? ⟨wr.heap.size, 1, none⟩ = some (.string (strOf t.text)) := cell_other (Ne.symm hne) c1))
        go_roundw
        case rel => exact ⟨i + 1, by omega, by go_num, hid ((HR3.out.set i (.string (strOf t.text))).congr (fun m _ => by rw [← hwt.out]; exact txtRow_step ts i t HTT.out m)), hid ⟨(chain2 hI.out.1 HP3.out.2).setCell (by simp) _, by simp; have := HP3.out.2.size; have := hI.out.2; omega⟩⟩
        case measure => simp [intOf]; omega
    · obtain rfl : i = n := by omega
      go_wp2_with fail
      refine (HJ.out wr hI.out.2 hrow.out).mono ?_; rintro e w5 ⟨rfl, hb5⟩; have HB := hid (chain2 hI.out.1 hb5); clear hb5; go_wp2; go_ret; exact ⟨rfl, HB.out⟩
theorem text_nil (p : Option Addr) (cp : Nat) (w : World) :
    Calls Tryz.prog 32 #[.slice p 0 cp] w fun e w' => e = .returned (.string (strOf (writeL []))) ∧ Below w.heap.size w w' := by
  have hmk : ∀ w : World, (Instr.makeSlice 83 (.int .i64 0) (.int .i64 0)).run Tryz.prog w = .ok (.slice (some ⟨w.heap.size, 0, none⟩) 0 0) (w.alloc (.cells (madeCells #[.string ⟨#[]⟩] 0) 9)) := fun w => run_make_row' (P := Tryz.prog) 83 9 (.string ⟨#[]⟩) 16 Tryz.underlying83 s_info3 rfl .i64 .i64 0 (by omega) (by omega) w
  go_enter Tryz.func32, Tryz.ntmps32
  go_wp2; clear hmk; go_loopw [11] (fun vi wr => vi = .int .i64 0 ∧ Hid (Below w.heap.size w wr)) (fun _ _ => 0)
  case atStart => exact ⟨rfl, hid ((Below.refl _ _).alloc (Nat.le_refl _) _)⟩
  case round =>
    obtain ⟨rfl, hb⟩ := hrel; go_wp2_with fail
    refine (strings_Join_none _ _ _ _).mono ?_; rintro e w5 ⟨rfl, rfl⟩; go_wp2; go_ret; exact ⟨rfl, hb.out⟩
theorem text_any (v : Value) (ts : List Tk) (w : World) (hx : Toks w v ts) (hl : ts.length ≤ 40000) (hw : ∀ t ∈ ts, t.text.length ≤ 2 ^ 30) (hj : (writeL ts).length ≤ 2 ^ 40) :
    Calls Tryz.prog 32 #[v] w fun e w' => e = .returned (.string (strOf (writeL ts))) ∧ Below w.heap.size w w' := by
  obtain ⟨p, c, rfl, -, rfl | ⟨g, o, rfl, hg, hr⟩⟩ := hx
  · exact text_nil p c w
  · exact text_some g o c ts w hr hg hl hw hj
theorem flat_ge : ∀ l : List UInt8, l.length ≤ (l.flatMap escL).length
  | [] => Nat.le_refl _
  | c :: r => by
    have := flat_ge r
    have h1 : 1 ≤ (escL c).length := by
      unfold escL; split
      · decide
      · split <;> simp
    rw [List.flatMap_cons, List.length_append, List.length_cons]; omega
theorem text_le (t : Tk) : t.text.length ≤ (written t).length := by
  unfold written; split
  · rw [quoteL_length]; have := flat_ge t.text; omega
  · exact Nat.le_refl _
end Go.Proofs.YtmljjpdodcpohaaGreatDoor.Lx

namespace Go.Proofs.YtmljjpdodcpohaaGreatDoor.Lx
open Lib (hid)
set_option maxHeartbeats 1000000
open Go.RowKit Dk
theorem rletter_any (r : Int) (w : World) : Calls Tryz.prog 126 #[.int .u8 r] w fun e w' => e = .returned (.bool (rL r)) ∧ w = w' := by
  rcases (show r < 97 ∨ (97 ≤ r ∧ r ≤ 122) ∨ 122 < r by omega) with h | ⟨h, h'⟩ | h
  all_goals
    go_enter Tryz.func126, Tryz.ntmps126
    go_wp2; go_ret; refine ⟨?_, rfl⟩; congr 2
    unfold rL; simp
    omega
theorem rdigit_any (r : Int) (w : World) : Calls Tryz.prog 128 #[.int .u8 r] w fun e w' => e = .returned (.bool (rD r)) ∧ w = w' := by
  rcases (show r < 48 ∨ (48 ≤ r ∧ r ≤ 57) ∨ 57 < r by omega) with h | ⟨h, h'⟩ | h
  all_goals
    go_enter Tryz.func128, Tryz.ntmps128
    go_wp2; go_ret; refine ⟨?_, rfl⟩; congr 2
    unfold rD; simp
    omega
theorem row_strings (w : World) (ks : List (List UInt8)) (t : TypeId) (j : Nat) (k : List UInt8) (h : ks[j]? = some k) : (w.alloc (.cells (ks.map fun l => Value.string (strOf l)).toArray t)).cell? ⟨w.heap.size, j, none⟩ = some (.string (strOf k)) := by
  rw [World.cell?_alloc_mark]; simp [h]
theorem rkey_any (l : List UInt8) (w : World) : Calls Tryz.prog 109 #[.string (strOf l)] w fun e w' => e = .returned (.bool (isKey l)) ∧ Below w.heap.size w w' := by
  have HB : Hid (Below w.heap.size w (w.alloc (.cells (keyList.map fun l => Value.string (strOf l)).toArray 9))) := hid ((Below.refl _ _).alloc (Nat.le_refl _) _); have HC := hid (fun j k h => row_strings w keyList 9 j k h); have HK := hid (isKey_iff l); go_enter Tryz.func109, Tryz.ntmps109
  go_wp2; obtain ⟨W1, hW⟩ : ∃ W1, W1 = w.alloc (.cells (keyList.map fun l => Value.string (strOf l)).toArray 9) := ⟨_, rfl⟩; rw [← hW] at HB HC; go_loopw [4] (fun vi wr => ∃ j : Nat, j ≤ 20 ∧ vi = .int .i64 (j : Int) ∧ wr = W1 ∧ Hid (l ∉ keyList.take j)) (fun vi _ => 20 - (intOf vi).toNat)
  case atStart => exact ⟨0, Nat.zero_le _, rfl, hW.symm, hid (by simp)⟩
  case round =>
    obtain ⟨j, hj, rfl, rfl, hn⟩ := hrel; by_cases hlt : j < 20
    · obtain ⟨k, hk⟩ : ∃ k, keyList[j]? = some k := ⟨_, List.getElem?_eq_getElem (by show j < 20; exact hlt)⟩
      have c := HC.out j k hk; have hb := str_beq k l; have z0 : (0 : Int) ≤ (j : Int) := by omega
      have z1 : (j : Int) < 20 := by omega
      by_cases he : k = l
      · have HT : Hid (isKey l = true) := hid (HK.out.2 (by rw [← he]; exact List.mem_of_getElem? hk))
        rw [decide_eq_true he] at hb; generalize strOf k = y at *; generalize strOf l = z at *; clear he hk hW; go_wp2; go_ret; exact ⟨by rw [HT.out]; rfl, HB.out⟩
      · have HN : Hid (l ∉ keyList.take (j + 1)) := hid (by
          have e := List.getElem?_eq_some_iff.1 hk; obtain ⟨h1, h2⟩ := e; rw [List.take_succ_eq_append_getElem h1, List.mem_append]; rintro (h | h)
          · exact hn.out h
          · rw [List.mem_singleton, h2] at h; exact he h.symm)
        rw [decide_eq_false he] at hb; generalize strOf k = y at *; generalize strOf l = z at *; clear he hk hW hn; go_wp2; go_roundw
        case rel => exact ⟨j + 1, by omega, by go_num, by trivial, HN⟩
        case measure => simp [intOf]; omega
    · obtain rfl : j = 20 := by omega
      have HF : Hid (isKey l = false) := hid (by
        cases h : isKey l with
        | false => rfl
        | true => exact absurd (HK.out.1 h) hn.out)
      clear hW hn; go_wp2; go_ret; exact ⟨by rw [HF.out]; rfl, HB.out⟩
def wordN (L : List UInt8) : Nat := match L with
  | [] => 0
  | c :: r => if isL c then spanN isW (c :: r) else 0
end Go.Proofs.YtmljjpdodcpohaaGreatDoor.Lx

