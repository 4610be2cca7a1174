/- The walk of mac.Of and of the document's Of: their contracts. No condition but those that each states. -/
import Derived.Test.YtepipdikglabaaaDoorMaB
namespace Go.Proofs.YtepipdikglabaaaDoor
open Go.RowKit

def strOf (l : List UInt8) : ByteArray := ⟨l.toArray⟩
theorem strOf_size (l : List UInt8) : (strOf l).size = l.length := by simp [strOf, ByteArray.size]
theorem strOf_toList (l : List UInt8) : (strOf l).data.toList = l := by simp [strOf]
theorem strOf_self (s : ByteArray) : strOf s.data.toList = s := by apply ByteArray.ext; simp [strOf]

theorem add_strOf (a b : List UInt8) (h : a.length + b.length ≤ 2000000) (W : World) : (Op.stringOp .add (strOf a) (strOf b)).run Tryd.prog W = .ok (.string (strOf (a ++ b))) W := by
  have h1 := strOf_size a
  have h2 := strOf_size b
  rw [run_string_add_sum (P := Tryd.prog) (w := W) _ _ (by omega)]
  have e : strOf a ++ strOf b = strOf (a ++ b) := by apply ByteArray.ext; simp [ByteArray.data_append, strOf]
  rw [e]

theorem key_s (k : List UInt8) (w : World) (HK : HasK w) (hk : k.length ≤ 900000) : Calls Tryd.prog 17 #[.string (strOf k)] w fun e w' => e = .returned (.string (strOf (keyL k))) ∧ Below w.heap.size w w' := by
  have := key_any (strOf k) w HK (by rw [strOf_size]; exact hk)
  rwa [strOf_toList] at this
theorem of_s (l : List UInt8) (w : World) (HK : HasK w) (hl : l.length ≤ 900000) : Calls Tryd.prog 21 #[.string (strOf l)] w fun e w' => e = .returned (.string (strOf (sha l))) ∧ Below w.heap.size w w' := by
  have := of_any (strOf l) w HK (by rw [strOf_size]; exact hl)
  rwa [strOf_toList] at this
theorem sum_s (l : List UInt8) (g : Nat) (w : World) (hH : HashAt w g l) (HK : HasK w) (hl : l.length ≤ 900000) : Calls Tryd.prog 10 #[.pointer (some ⟨g, 0, none⟩)] w fun e w' => e = .returned (.string (strOf (sha l))) ∧ Below w.heap.size w w' := sum_any l g w hH HK hl
theorem write_s (s l : List UInt8) (g : Nat) (w : World) (hH : HashAt w g l) (HK : HasK w) (hb : l.length + s.length ≤ 1000000) :
    Calls Tryd.prog 9 #[.pointer (some ⟨g, 0, none⟩), .string (strOf s)] w fun e w' => e = .returned (.tuple #[]) ∧ HashAt w' g (l ++ s) ∧ Just g w w' := by
  have := write_any (strOf s) l g w hH HK (by rw [strOf_size]; exact hb)
  rwa [strOf_toList] at this
theorem mixer_s (l : List UInt8) (c : UInt8) (b : Nat) (w : World) (hb : b < w.heap.size) (hc : w.cell? ⟨b, 0, none⟩ = some (.int .u8 (c.toNat : Int))) (hl : l.length ≤ 3000) :
    Calls Tryd.prog 36 #[.string (strOf l), .pointer (some ⟨b, 0, none⟩)] w fun e w' => e = .returned (.string (strOf (mixL l c))) ∧ Below w.heap.size w w' := by
  have := mixer_any (strOf l) c b w hb hc (by rw [strOf_size]; exact hl)
  rwa [strOf_toList] at this
theorem rkey_s (k : List UInt8) (w : World) (hk : k.length ≤ 3000) : Calls Tryd.prog 18 #[.string (strOf k)] w fun e w' => e = .returned (.string (strOf (keyL k))) ∧ Below w.heap.size w w' := by
  have := rkey_any (strOf k) w (by rw [strOf_size]; exact hk)
  rwa [strOf_toList] at this
theorem rof_s (l : List UInt8) (w : World) (hl : l.length ≤ 3000) : Calls Tryd.prog 30 #[.string (strOf l)] w fun e w' => e = .returned (.string (strOf (sha l))) ∧ Below w.heap.size w w' := by
  have := rof_any (strOf l) w (by rw [strOf_size]; exact hl)
  rwa [strOf_toList] at this
theorem rmixed_s (l : List UInt8) (c : UInt8) (w : World) (hl : l.length ≤ 3000) : Calls Tryd.prog 31 #[.string (strOf l), .int .u8 (c.toNat : Int)] w fun e w' => e = .returned (.string (strOf (mixL l c))) ∧ Below w.heap.size w w' := by
  have := rmixed_any (strOf l) c w (by rw [strOf_size]; exact hl)
  rwa [strOf_toList] at this

set_option maxHeartbeats 1000000 in
set_option maxRecDepth 100000 in
theorem macOf_s (k s : List UInt8) (w : World) (HK : HasK w) (hk : k.length ≤ 900000) (hs : s.length ≤ 800000) :
    Calls Tryd.prog 15 #[.string (strOf k), .string (strOf s)] w fun e w' => e = .returned (.string (strOf (macL k s))) ∧ Below w.heap.size w w' := by
  have K0 := Lib.hid HK
  have h0 := HK.lt
  clear HK
  obtain ⟨Kk, hKk⟩ : ∃ Kk, Kk = keyL k := ⟨_, rfl⟩
  have hkl : Kk.length = 64 := by rw [hKk]; exact keyL_length k
  obtain ⟨M1, hM1⟩ : ∃ M1, M1 = mixL Kk 54 := ⟨_, rfl⟩
  obtain ⟨M2, hM2⟩ : ∃ M2, M2 = mixL Kk 92 := ⟨_, rfl⟩
  have hl1 : M1.length = 64 := by rw [hM1, mixL_length, hkl]
  have hl2 : M2.length = 64 := by rw [hM2, mixL_length, hkl]
  obtain ⟨D, hD⟩ : ∃ D, D = sha (M1 ++ s) := ⟨_, rfl⟩
  have hDl : D.length = 32 := by rw [hD]; rfl
  have HF : Hid (sha (M2 ++ D) = macL k s) := Lib.hid (by rw [hD, hM1, hM2, hKk]; rfl)
  have HKK := Lib.hid hKk
  have HM1 := Lib.hid hM1
  have HM2 := Lib.hid hM2
  have HD := Lib.hid hD
  have had := fun W => add_strOf M2 D (by omega) W
  clear hKk hM1 hM2 hD
  go_enter Tryd.func15, Tryd.ntmps15
  go_wp2_with fail
  refine (key_s k w K0.out hk).mono ?_
  rw [← HKK.out]
  rintro e w1 ⟨rfl, hb⟩
  have B1 := Lib.hid hb
  have hp1 : 0 < w1.heap.size := by have := hb.size; omega
  clear hb
  go_wp2_with fail
  refine (new_any w1 hp1).mono ?_
  rintro e w2 ⟨rfl, hN, hb, hlt2⟩
  have N2 := Lib.hid hN
  have B2 := Lib.hid (chain2 B1.out hb)
  have hw1 : w.heap.size ≤ w1.heap.size := B1.out.size
  clear hN hb
  go_wp2_with fail
  refine (combiner_any 54 w2).mono ?_
  rintro e w3 ⟨rfl, hc3, hb, hlt3⟩
  have B3 := Lib.hid (chain2 B2.out hb)
  have N3 := Lib.hid (N2.out.later hb N2.out.lt)
  clear hb
  go_wp2_with fail
  have c4 := mixer_s Kk 54 w2.heap.size w3 hlt3 hc3 (by omega)
  rw [← HM1.out] at c4
  refine c4.mono ?_
  clear c4 hc3
  rintro e w4 ⟨rfl, hb⟩
  have B4 := Lib.hid (chain2 B3.out hb)
  have N4 := Lib.hid (N3.out.later hb N3.out.lt)
  clear hb
  go_wp2_with fail
  refine (write_s M1 [] w1.heap.size w4 N4.out (K0.out.later B4.out) (by simp; omega)).mono ?_
  rw [List.nil_append]
  rintro e w5 ⟨rfl, hH, hJ⟩
  have N5 := Lib.hid hH
  have B5 := Lib.hid (hJ.below B4.out hw1 (Nat.le_refl _))
  clear hH hJ
  go_wp2_with fail
  refine (write_s s M1 w1.heap.size w5 N5.out (K0.out.later B5.out) (by omega)).mono ?_
  rintro e w6 ⟨rfl, hH, hJ⟩
  have N6 := Lib.hid hH
  have B6 := Lib.hid (hJ.below B5.out hw1 (Nat.le_refl _))
  clear hH hJ
  go_wp2_with fail
  refine (combiner_any 92 w6).mono ?_
  rintro e w7 ⟨rfl, hc7, hb, hlt7⟩
  have B7 := Lib.hid (chain2 B6.out hb)
  have N7 := Lib.hid (N6.out.later hb N6.out.lt)
  clear hb
  go_wp2_with fail
  have c8 := mixer_s Kk 92 w6.heap.size w7 hlt7 hc7 (by omega)
  rw [← HM2.out] at c8
  refine c8.mono ?_
  clear c8 hc7
  rintro e w8 ⟨rfl, hb⟩
  have B8 := Lib.hid (chain2 B7.out hb)
  have N8 := Lib.hid (N7.out.later hb N7.out.lt)
  clear hb
  go_wp2_with fail
  have c9 := sum_s (M1 ++ s) w1.heap.size w8 N8.out (K0.out.later B8.out) (by rw [List.length_append]; omega)
  rw [← HD.out] at c9
  refine c9.mono ?_
  clear c9
  rintro e w9 ⟨rfl, hb⟩
  have B9 := Lib.hid (chain2 B8.out hb)
  clear hb
  go_wp2_with fail
  refine (of_s (M2 ++ D) w9 (K0.out.later B9.out) (by rw [List.length_append]; omega)).mono ?_
  rintro e w10 ⟨rfl, hb⟩
  have B10 := Lib.hid (chain2 B9.out hb)
  clear hb
  go_wp2
  go_ret
  exact ⟨by rw [HF.out]; rfl, B10.out⟩

set_option maxHeartbeats 1000000 in
set_option maxRecDepth 100000 in
theorem rmacOf_s (k s : List UInt8) (w : World) (hk : k.length ≤ 2000) (hs : s.length ≤ 2000) :
    Calls Tryd.prog 16 #[.string (strOf k), .string (strOf s)] w fun e w' => e = .returned (.string (strOf (macL k s))) ∧ Below w.heap.size w w' := by
  obtain ⟨Kk, hKk⟩ : ∃ Kk, Kk = keyL k := ⟨_, rfl⟩
  have hkl : Kk.length = 64 := by rw [hKk]; exact keyL_length k
  obtain ⟨M1, hM1⟩ : ∃ M1, M1 = mixL Kk 54 := ⟨_, rfl⟩
  obtain ⟨M2, hM2⟩ : ∃ M2, M2 = mixL Kk 92 := ⟨_, rfl⟩
  have hl1 : M1.length = 64 := by rw [hM1, mixL_length, hkl]
  have hl2 : M2.length = 64 := by rw [hM2, mixL_length, hkl]
  obtain ⟨D, hD⟩ : ∃ D, D = sha (M1 ++ s) := ⟨_, rfl⟩
  have hDl : D.length = 32 := by rw [hD]; rfl
  have HF : Hid (sha (M2 ++ D) = macL k s) := Lib.hid (by rw [hD, hM1, hM2, hKk]; rfl)
  have C0 := fun (W : World) => rkey_s k W (by omega)
  have C1 := fun (W : World) => rmixed_s Kk 54 W (by omega)
  have C2 := fun (W : World) => rmixed_s Kk 92 W (by omega)
  have C3 := fun (W : World) => rof_s (M1 ++ s) W (by rw [List.length_append]; omega)
  have C4 := fun (W : World) => rof_s (M2 ++ D) W (by rw [List.length_append]; omega)
  rw [← hKk] at C0
  rw [← hM1] at C1
  rw [← hM2] at C2
  rw [← hD] at C3
  have had := fun W => add_strOf M2 D (by omega) W
  have had1 := fun W => add_strOf M1 s (by omega) W
  have c0 := Lib.hid C0
  have c1 := Lib.hid C1
  have c2 := Lib.hid C2
  have c3 := Lib.hid C3
  have c4 := Lib.hid C4
  clear C0 C1 C2 C3 C4 hKk hM1 hM2 hD
  go_enter Tryd.func16, Tryd.ntmps16
  go_wp2_with fail
  refine (c0.out w).mono ?_
  rintro e w1 ⟨rfl, hb⟩
  have B1 := Lib.hid hb
  clear hb
  go_wp2_with fail
  refine (c2.out w1).mono ?_
  rintro e w2 ⟨rfl, hb⟩
  have B2 := Lib.hid (chain2 B1.out hb)
  clear hb
  go_wp2_with fail
  refine (c1.out w2).mono ?_
  rintro e w3 ⟨rfl, hb⟩
  have B3 := Lib.hid (chain2 B2.out hb)
  clear hb
  go_wp2_with fail
  refine (c3.out w3).mono ?_
  rintro e w4 ⟨rfl, hb⟩
  have B4 := Lib.hid (chain2 B3.out hb)
  clear hb
  go_wp2_with fail
  refine (c4.out w4).mono ?_
  rintro e w5 ⟨rfl, hb⟩
  have B5 := Lib.hid (chain2 B4.out hb)
  clear hb
  go_wp2
  go_ret
  exact ⟨by rw [HF.out]; rfl, B5.out⟩

end Go.Proofs.YtepipdikglabaaaDoor
