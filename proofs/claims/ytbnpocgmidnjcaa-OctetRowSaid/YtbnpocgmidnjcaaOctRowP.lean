/- Plain facts on texts one behind the other, and on the digits of bytes. No condition but those that each states. -/
import Derived.Test.YtbnpocgmidnjcaaOctL
import Derived.Test.YtbnpocgmidnjcaaOctTx
namespace Go.Proofs.Ytbnpocgmidnjcaa

/-- A text behind its length. -/
def tx (x : ByteArray) : List UInt8 := Lib.leBytes 4 x.size ++ x.data.toList

/-- Texts one behind the other. -/
def cat (xs : List ByteArray) : List UInt8 := xs.flatMap tx

theorem tx_length (x : ByteArray) : (tx x).length = 4 + x.size := by simp [tx, Lib.leBytes_length]

theorem cat_snoc (xs : List ByteArray) (j : Nat) (h : j < xs.length) : cat (xs.take (j + 1)) = cat (xs.take j) ++ tx (xs.getD j ByteArray.empty) := by
  rw [List.take_succ_eq_append_getElem h, cat, List.flatMap_append, List.getD_eq_getElem?_getD, List.getElem?_eq_getElem h]
  simp [cat]

theorem cat_split (xs : List ByteArray) (q j : Nat) (h : q < j) (hj : j ≤ xs.length) : ∃ post, cat (xs.take j) = cat (xs.take q) ++ (tx (xs.getD q ByteArray.empty) ++ post) := by
  refine ⟨cat ((xs.take j).drop (q + 1)), ?_⟩
  have h1 : xs.take (q + 1) = (xs.take j).take (q + 1) := by rw [List.take_take, Nat.min_eq_left (by omega)]
  have h2 : cat (xs.take j) = cat (xs.take (q + 1)) ++ cat ((xs.take j).drop (q + 1)) := by
    rw [h1, cat, cat, cat, ← List.flatMap_append, List.take_append_drop]
  rw [h2, cat_snoc xs q (by omega), List.append_assoc]

theorem cat_small (xs : List ByteArray) : ∀ j, j ≤ xs.length → (∀ i, i < j → (xs.getD i ByteArray.empty).size ≤ 2000) → (cat (xs.take j)).length ≤ 2004 * j
  | 0, _, _ => by simp [cat]
  | j + 1, h, hs => by
    rw [cat_snoc xs j (by omega), List.length_append, tx_length]
    have := cat_small xs j (by omega) (fun i hi => hs i (by omega))
    have := hs j (by omega)
    omega

theorem row_len (pre post : List UInt8) (x : ByteArray) (hx : x.size ≤ 2000) : lenAt (str (pre ++ (tx x ++ post))) pre.length = x.size := by
  unfold lenAt
  show Lib.leNat ((((pre ++ (tx x ++ post)).drop pre.length)).take 4) = _
  rw [List.drop_left' rfl, tx, List.append_assoc, List.take_left' (Lib.leBytes_length _ _), Lib.leNat_leBytes _ _ (by omega)]

theorem row_text (pre post : List UInt8) (x : ByteArray) : (str (pre ++ (tx x ++ post))).extract (pre.length + 4) (pre.length + 4 + x.size) = x := by
  rw [Lib.extract_eq]
  have e : (str (pre ++ (tx x ++ post))).data.toList = (pre ++ Lib.leBytes 4 x.size) ++ (x.data.toList ++ post) := by
    simp [str, tx, List.append_assoc]
  rw [e, List.drop_left' (by rw [List.length_append, Lib.leBytes_length]), Nat.add_sub_cancel_left, List.take_left' (by simp)]

theorem hexVal_digit : ∀ d : Fin 16, hexVal (Lib.Hx.digit d.val) = (d.val : Int) := by decide

theorem hexVal_dig (d : Nat) (h : d < 16) : hexVal (Lib.Hx.digit d) = (d : Int) := hexVal_digit ⟨d, h⟩

theorem isHex_encode : ∀ l : List UInt8, isHex (Lib.Hx.encode l) = true
  | [] => rfl
  | a :: t => by
    have ha := a.toNat_lt
    have ih := isHex_encode t
    unfold isHex at ih ⊢
    rw [Lib.Hx.encode_cons, List.all_cons, List.all_cons, ih, hexVal_dig _ (by omega), hexVal_dig _ (by omega)]
    simp
    omega

theorem unhexL_encode : ∀ l : List UInt8, unhexL (Lib.Hx.encode l) = l
  | [] => rfl
  | a :: t => by
    have ha := a.toNat_lt
    rw [Lib.Hx.encode_cons, unhexL, unhexL_encode t, hexVal_dig _ (by omega), hexVal_dig _ (by omega)]
    congr 1
    apply UInt8.toNat_inj.1
    rw [UInt8.toNat_ofNat']
    omega

theorem back_unhex (x : ByteArray) (hx : x.size ≤ 2000) (w : World) :
    Calls Try.prog 16 #[.string ⟨(Lib.Hx.encode x.data.toList).toArray⟩] w fun e w' => e = .returned (.tuple #[.string x, .int .i64 0]) ∧ RowKit.Below w.heap.size w w' := by
  have hl : (Lib.Hx.encode x.data.toList).length = 2 * x.size := by rw [Lib.Hx.encode_length]; simp
  refine (unhex_all ⟨(Lib.Hx.encode x.data.toList).toArray⟩ w (by have := str_size (Lib.Hx.encode x.data.toList); unfold str at this; omega)).mono fun _ _ ⟨he, hb⟩ => ⟨?_, hb⟩
  have hc : (Lib.Hx.encode x.data.toList).length % 2 = 0 ∧ isHex (Lib.Hx.encode x.data.toList) = true := ⟨by rw [hl]; omega, isHex_encode _⟩
  have e1 : unhS (Lib.Hx.encode x.data.toList) = x := by rw [unhS, if_pos hc, unhexL_encode]
  have e2 : unhE (Lib.Hx.encode x.data.toList) = 0 := by rw [unhE, if_pos hc]
  rw [he]
  show Ending.returned (.tuple #[.string (unhS (Lib.Hx.encode x.data.toList)), .int .i64 (unhE (Lib.Hx.encode x.data.toList))]) = _
  rw [e1, e2]

end Go.Proofs.Ytbnpocgmidnjcaa
