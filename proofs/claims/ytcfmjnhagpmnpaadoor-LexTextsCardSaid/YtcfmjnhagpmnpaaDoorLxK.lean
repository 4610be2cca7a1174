/- The walk of chrysalislaw08.known: its contract. No condition but that the library's error lies where its variable is. -/
import Derived.Test.YtcfmjnhagpmnpaaDoorLxH
import Derived.Test.YtcfmjnhagpmnpaaDoorLxI
import Derived.Test.YtcfmjnhagpmnpaaDoorLxJ
namespace Go.Proofs.YtcfmjnhagpmnpaaDoor.Lx
open Go.RowKit Dk

theorem own_form {w : World} {base size n : Nat} {e : TypeId} {v : Value} {xs : List Value} (h : w.ownsRow base e size v n xs) (hn : 0 < n) : ∃ g cap, v = .slice (some ⟨g, 0, none⟩) n cap := by
  rcases h.2 with ⟨rfl, h0⟩ | ⟨g, cap, cur, rfl, _⟩
  · omega
  · exact ⟨g, cap, rfl⟩

def kn1 : List UInt8 := [108, 101, 116, 32, 120, 61, 53, 59, 32, 35, 32, 121]
def kn1T : List Tk := [⟨5, [108, 101, 116], 0, 0⟩, ⟨1, [120], 0, 4⟩, ⟨4, [61], 0, 5⟩, ⟨2, [53], 5, 6⟩, ⟨4, [59], 0, 7⟩]
def kn4 : List UInt8 := [34, 97, 92, 110, 98, 34]
theorem kn1_scan : scanL 0 kn1 = .toks kn1T := by decide +kernel
theorem kn2_scan : scanL 0 [97, 32, 48, 55] = .bad 10 2 := by decide +kernel
theorem kn3_scan : scanL 0 [33] = .bad 9 0 := by decide +kernel
theorem kn4_scan : scanL 0 kn4 = .toks [⟨3, [97, 10, 98], 0, 0⟩] := by decide +kernel

theorem scan_toks (l : List UInt8) (ts : List Tk) (h : scanL 0 l = .toks ts) (hl : l.length ≤ 8192) (w : World) (HE : HasE w) : Calls Tryd.prog 11 #[.string (strOf l)] w fun x w' => ∃ v, x = .returned (.tuple #[v, .int .i64 0, .int .i64 0]) ∧ TR w w' v ts :=
  (scan_any (strOf l) w HE).mono fun x w' hk => by rw [strOf_toList] at hk; exact hk.yes ts hl h
theorem scan_bad (l : List UInt8) (e a : Nat) (h : scanL 0 l = .bad e a) (hl : l.length ≤ 8192) (w : World) (HE : HasE w) : Calls Tryd.prog 11 #[.string (strOf l)] w fun x w' => x = .returned (.tuple #[.slice none 0 0, .int .i64 (e : Int), .int .i64 (a : Int)]) ∧ Below w.heap.size w w' :=
  (scan_any (strOf l) w HE).mono fun x w' hk => by rw [strOf_toList] at hk; exact ⟨hk.bad e a hl h, hk.below⟩

set_option maxHeartbeats 4000000 in
set_option maxRecDepth 100000 in
theorem known8 (w : World) (HE : HasE w) : Calls Tryd.prog 10 #[] w fun e w' => e = .returned (.bool true) ∧ Below w.heap.size w w' := by
  have HHE := Lib.hid HE
  have S1 := Lib.hid (scan_toks kn1 kn1T kn1_scan (by decide))
  have S2 := Lib.hid (scan_bad [97, 32, 48, 55] 10 2 kn2_scan (by decide))
  have S3 := Lib.hid (scan_bad [33] 9 0 kn3_scan (by decide))
  have S4 := Lib.hid (scan_toks kn4 [⟨3, [97, 10, 98], 0, 0⟩] kn4_scan (by decide))
  have K1 := Lib.hid (fun W => key_any [102, 110] W)
  have N1 := Lib.hid (fun W => name_any [97, 95, 49] W (by decide))
  have N2 := Lib.hid (fun W => name_any [102, 110] W (by decide))
  have Q1 : Hid (∀ W, Calls Tryd.prog 16 #[.string ⟨#[34]⟩] W fun e w' => e = .returned (.string ⟨#[34, 92, 34, 34]⟩) ∧ Below W.heap.size W w') := Lib.hid (fun W => by
    have := quote_any [34] W (by decide)
    rw [show quoteL [34] = [34, 92, 34, 34] by decide +kernel] at this
    exact this)
  rw [show isKey [102, 110] = true by decide +kernel] at K1
  rw [show isName [97, 95, 49] = true by decide +kernel] at N1
  rw [show isName [102, 110] = false by decide +kernel] at N2
  clear HE
  go_enter Tryd.func10, Tryd.ntmps10
  go_wp2_with fail
  refine (S1.out w HHE.out).mono ?_
  rintro e w1 ⟨v1, rfl, hr1⟩
  obtain ⟨g1, cap1, hv1⟩ := own_form hr1.row (by decide)
  have HR1 := Lib.hid hr1
  rw [hv1] at HR1 ⊢
  clear hr1 hv1 S1
  go_wp2_with fail
  refine (S2.out w1 (HHE.out.later HR1.out.below)).mono ?_
  rintro e w2 ⟨rfl, hb2⟩
  have HR2 := Lib.hid (HR1.out.later hb2)
  clear hb2 HR1 S2
  go_wp2_with fail
  refine (S3.out w2 (HHE.out.later HR2.out.below)).mono ?_
  rintro e w3 ⟨rfl, hb3⟩
  have HR3 := Lib.hid (HR2.out.later hb3)
  clear hb3 HR2 S3
  go_wp2_with fail
  refine (S4.out w3 (HHE.out.later HR3.out.below)).mono ?_
  rintro e w4 ⟨v4, rfl, hr4⟩
  obtain ⟨g4, cap4, hv4⟩ := own_form hr4.row (by decide)
  have HR4 := Lib.hid (HR3.out.later hr4.below)
  rw [hv4] at hr4 ⊢
  have c0 : w4.cell? ⟨g1, 0, none⟩ = some (.int .i64 5) := HR4.out.row.cellAt 0 (by decide)
  have c1 : w4.cell? ⟨g1, 14, none⟩ = some (.int .i64 5) := HR4.out.row.cellAt 14 (by decide)
  have c2 : w4.cell? ⟨g1, 19, none⟩ = some (.int .i64 7) := HR4.out.row.cellAt 19 (by decide)
  have c3 : w4.cell? ⟨g4, 1, none⟩ = some (.string ⟨#[97, 10, 98]⟩) := hr4.row.cellAt 1 (by decide)
  have HB := Lib.hid HR4.out.below
  clear hr4 hv4 HR3 HR4 S4
  rw [show kn1T.length = 5 from rfl]
  go_wp2_with (first
    | (go_at_call 18; refine (K1.out _).mono ?_; rintro e w' ⟨rfl, rfl⟩)
    | (go_at_call 20; first | (refine (N1.out _).mono ?_; rintro e w5 ⟨rfl, hb5⟩; have HB5 := Lib.hid (chain2 HB.out hb5); clear hb5 N1) | (refine (N2.out _).mono ?_; rintro e w6 ⟨rfl, hb6⟩; have HB6 := Lib.hid (chain2 HB5.out hb6); clear hb6))
    | (go_at_call 16; refine (Q1.out _).mono ?_; rintro e w7 ⟨rfl, hb7⟩; have HB7 := Lib.hid (chain2 HB6.out hb7); clear hb7))
  go_ret
  exact ⟨rfl, HB7.out⟩

end Go.Proofs.YtcfmjnhagpmnpaaDoor.Lx
