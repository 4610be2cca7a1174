/- The walk of the law LexBack. No condition but that the library's error lies where its variable is. -/
import Derived.Test.YtcfmjnhagpmnpaaDoorLxU
import Derived.Test.YtcfmjnhagpmnpaaDoorLxKeW
namespace Go.Proofs.YtcfmjnhagpmnpaaDoor.Lx
open Go.RowKit Dk

set_option maxHeartbeats 4000000 in
set_option maxRecDepth 100000 in
theorem back_main (T : List UInt8) (hb : T.length ≤ 4000) (w : World) (HE : HasE w) :
    Calls Tryd.prog 5 #[.string (strOf T)] w fun e w' => e = .returned (.bool true) ∧ Below w.heap.size w w' := by
  have HHE := Lib.hid HE
  have KN := Lib.hid (fun W h => known8 W h)
  have hsz := strOf_size T
  have h1 : ¬((strOf T).size : Int) > 4000 := by omega
  have S := Lib.hid (scan_ways T (by omega))
  have TX := Lib.hid text_any
  have HTL := Lib.hid hb
  clear hb HE
  go_enter Tryd.func5, Tryd.ntmps5
  go_wp2_with fail
  refine (S.out w HHE.out).mono ?_
  rintro x w1 ⟨hb1, ⟨ts, v1, hs1, rfl, hr1⟩ | ⟨e1, a1, -, he1, ha1, rfl⟩⟩
  · obtain ⟨hg, hw⟩ := scans_good hs1
    have hwl : (writeL ts).length ≤ 8000 := by
      have := HTL.out
      split at hw <;> omega
    have hnl : ts.length ≤ 4000 := Nat.le_trans hs1.len HTL.out
    obtain ⟨us, hu1, hu2⟩ := write_scan ts hg 0
    have hul : us.length = ts.length := by have := congrArg List.length hu2; simpa using this
    have hwu := write_alike hu2
    have HT1 := Lib.hid hr1.toks
    have HB1 := Lib.hid hb1
    have C1 := Lib.hid (TX.out v1 ts w1 hr1.toks (by omega) (fun t ht => by
      have h5 := mem_join (ts.map written) (written t) (List.mem_map_of_mem ht)
      have h6 := text_le t
      have h7 : (joinL (ts.map written)).length ≤ 8000 := hwl
      omega) (by omega))
    have S2 := Lib.hid (scan_toks _ us hu1 (by omega))
    have HW := Lib.hid (show ∀ t ∈ us, t.text.length ≤ 2 ^ 30 from fun t ht => by
      have h5 := mem_join (us.map written) (written t) (List.mem_map_of_mem ht)
      have h6 := text_le t
      have h7 : (joinL (us.map written)).length ≤ 8000 := by show (writeL us).length ≤ 8000; rw [hwu]; exact hwl
      omega)
    have HU := Lib.hid (show us.length ≤ 10000 ∧ (writeL us).length ≤ 2 ^ 40 ∧ writeL us = writeL ts ∧ AlikeP false ts us ∧ ts.length ≤ 2 ^ 40 from ⟨by omega, by rw [hwu]; omega, hwu, alikeP_of hu2.symm, by omega⟩)
    clear hg hw hu1 hu2 hul hs1 hwu hwl hnl hb1 hr1 S
    go_wp2_with fail
    refine C1.out.mono ?_
    rintro e w2 ⟨rfl, hb2⟩
    have HB2 := Lib.hid (chain2 HB1.out hb2)
    have HT2 := Lib.hid (HT1.out.later hb2)
    clear hb2 C1 HT1
    go_wp2_with fail
    refine (S2.out w2 (HHE.out.later HB2.out)).mono ?_
    rintro e w3 ⟨v3, rfl, hr3⟩
    have HB3 := Lib.hid (chain2 HB2.out hr3.below)
    have HT3 := Lib.hid (HT2.out.later hr3.below)
    have HR3 := Lib.hid hr3.toks
    clear hr3 S2 HT2
    go_wp2_with fail
    refine (same_any false ts us v1 v3 w3 HT3.out HR3.out HU.out.2.2.2.1 HU.out.2.2.2.2).mono ?_
    rintro e w4 ⟨rfl, hb4⟩
    have HB4 := Lib.hid (chain2 HB3.out hb4)
    have HR4 := Lib.hid (HR3.out.later hb4)
    clear hb4 HT3 HR3
    go_wp2_with fail
    refine (TX.out v3 us w4 HR4.out HU.out.1 HW.out HU.out.2.1).mono ?_
    rintro e w5 ⟨rfl, hb5⟩
    have HB5 := Lib.hid (chain2 HB4.out hb5)
    rw [HU.out.2.2.1]
    have heq : ((strOf (writeL ts)).toList == (strOf (writeL ts)).toList) = true := by simp
    clear hb5 HR4
    generalize strOf (writeL ts) = y at *
    go_wp2_with (go_at_call 10; refine (KN.out _ (HHE.out.later HB5.out)).mono ?_; rintro e w6 ⟨rfl, hb6⟩; have HB6 := Lib.hid (chain2 HB5.out hb6); clear hb6)
    go_ret
    exact ⟨rfl, HB6.out⟩
  · have HB1 := Lib.hid hb1
    have hz : ((e1 : Int) != 0) = true := by rw [bne_iff_ne]; omega
    clear hb1 he1 ha1 S
    go_wp2_with (go_at_call 10; refine (KN.out _ (HHE.out.later HB1.out)).mono ?_; rintro e w6 ⟨rfl, hb6⟩; have HB6 := Lib.hid (chain2 HB1.out hb6); clear hb6)
    go_ret
    exact ⟨rfl, HB6.out⟩

set_option maxHeartbeats 400000 in
theorem lexBack_law (s : ByteArray) (_hs : s.size ≤ maxLen) (w : World) (HE : HasE w) :
    Calls Tryd.prog 5 #[.string s] w fun e w' => e = .returned (.bool true) ∧ Below w.heap.size w w' := by
  obtain ⟨T, rfl, hT⟩ := toS s
  by_cases hb : T.length ≤ 4000
  · exact back_main T hb w HE
  · have KN := Lib.hid (known8 w HE)
    have h1 : ((strOf T).size : Int) > 4000 := by omega
    clear hT HE
    go_enter Tryd.func5, Tryd.ntmps5
    go_wp2_with (go_at_call 10; refine KN.out.mono ?_; rintro e w3 ⟨rfl, hb3⟩; have HB3 := Lib.hid hb3; clear hb3)
    go_ret
    exact ⟨rfl, HB3.out⟩

end Go.Proofs.YtcfmjnhagpmnpaaDoor.Lx
