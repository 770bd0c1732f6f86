/- The law function same of stage 14. -/
import Derived.Test.YthhfjbhopenchaaMeshC
import Derived.Test.YthhfjbhopenchaaRef14
namespace Go.Proofs.Ythhfjbhopenchaa
open Go.RowKit

set_option maxRecDepth 100000 in
set_option maxHeartbeats 6400000 in
theorem l14same_any {w : World} {A B : Option Addr} {n c m q : Nat} {s t : List Int} {d a b : Int} (hI : Ints w A n s) (hJ : Ints w B m t) (hd : Fits d) (ha : Fits a) (hb : Fits b) (hac : n ≤ c := by omega) :
    Calls Try.prog 8 #[.slice A n c, .slice B m q, .int .i64 d, .int .i64 a, .int .i64 b] w fun e w' => e = .returned (.bool true) ∧ Below w.heap.size w w' := by
  have HI := Lib.hid hI
  have HJ := Lib.hid hJ
  have HD := Lib.hid hd
  have HA := Lib.hid ha
  have HBB := Lib.hid hb
  have HB0 := Lib.hid (Below.refl w.heap.size w)
  clear hI hJ hd ha hb
  go_enter Try.func8, Try.ntmps8
  go_wp2_with fail
  refine (mRight_any (c := c) (HI.out.below HB0.out)).mono ?_; rintro e0 w1 ⟨rfl, hb⟩
  have HB1 := Lib.hid (then_ HB0.out hb)
  clear hb
  go_wp2_with fail
  refine (ref14Right_any (c := c) (HI.out.below HB1.out)).mono ?_; rintro e1 w2 ⟨rfl, hw⟩
  have HB2 := Lib.hid (show Below w.heap.size w w1 from HB1.out)
  subst hw
  go_wp2_with fail
  refine (mDevices_any (c := c) (HI.out.below HB2.out)).mono ?_; rintro e2 w3 ⟨rfl, hb⟩
  have HB3 := Lib.hid (then_ HB2.out hb)
  clear hb
  go_wp2_with fail
  refine (ref14Devices_any (c := c) (HI.out.below HB3.out)).mono ?_; rintro e3 w4 ⟨rfl, hw⟩
  have HB4 := Lib.hid (show Below w.heap.size w w3 from HB3.out)
  subst hw
  go_wp2_with fail
  refine (mAt_any (c := c) d (HI.out.below HB4.out) HD.out).mono ?_; rintro e4 w5 ⟨⟨A4, n4, c4, rfl, hc4, hi4⟩, hb⟩
  have HB5 := Lib.hid (then_ HB4.out hb)
  clear hb
  have HX4 := Lib.hid hi4
  clear hi4
  go_wp2_with fail
  refine (ref14At_any (c := c) d (HI.out.below HB5.out) HD.out).mono ?_; rintro e5 w6 ⟨⟨v5, n5, rfl, hO⟩, hb⟩
  obtain ⟨A5, c5, rfl, _, hi5, _⟩ := hO.form
  have CS := bookSame_eq (c := c4) (d := c5) (HX4.out.below hb) hi5
  have HB6 := Lib.hid (then_ HB5.out hb)
  clear hb
  clear hO hi5
  go_wp2_with fail
  refine (CS).mono ?_; rintro e6 w7 ⟨rfl, z, hw⟩
  have HB7 := Lib.hid (show Below w.heap.size w w7 by rw [hw]; exact below_drewN HB6.out z)
  clear hw CS
  go_wp2_with fail
  refine (mOf_any (c := c) (d := q) (HI.out.below HB7.out) (HJ.out.below HB7.out)).mono ?_; rintro e7 w8 ⟨rfl, hb⟩
  have HB8 := Lib.hid (then_ HB7.out hb)
  clear hb
  go_wp2_with fail
  refine (ref14Of_any (c := c) (d := q) (HI.out.below HB8.out) (HJ.out.below HB8.out)).mono ?_; rintro e8 w9 ⟨rfl, z, hw⟩
  have HB9 := Lib.hid (show Below w.heap.size w w9 by rw [hw]; exact below_drewN HB8.out z)
  clear hw
  go_wp2_with fail
  refine (mGroup_any (c := c) d a (HI.out.below HB9.out) HD.out HA.out).mono ?_; rintro e9 w10 ⟨⟨A9, n9, c9, rfl, hc9, hi9⟩, hb⟩
  have HB10 := Lib.hid (then_ HB9.out hb)
  clear hb
  have HX9 := Lib.hid hi9
  clear hi9
  go_wp2_with fail
  refine (ref14Group_any (c := c) d a (HI.out.below HB10.out) HD.out HA.out).mono ?_; rintro e10 w11 ⟨⟨v10, n10, rfl, hO⟩, hb⟩
  obtain ⟨A10, c10, rfl, _, hi10, _⟩ := hO.form
  have CS := bookSame_eq (c := c9) (d := c10) (HX9.out.below hb) hi10
  have HB11 := Lib.hid (then_ HB10.out hb)
  clear hb
  clear hO hi10
  go_wp2_with fail
  refine (CS).mono ?_; rintro e11 w12 ⟨rfl, z, hw⟩
  have HB12 := Lib.hid (show Below w.heap.size w w12 by rw [hw]; exact below_drewN HB11.out z)
  clear hw CS
  go_wp2_with fail
  refine (mStep_any (c := c) d a b (HI.out.below HB12.out) HD.out HA.out HBB.out).mono ?_; rintro e12 w13 ⟨rfl, hb⟩
  have HB13 := Lib.hid (then_ HB12.out hb)
  clear hb
  go_wp2_with fail
  refine (ref14Step_any (c := c) d a b (HI.out.below HB13.out) HD.out HA.out HBB.out).mono ?_; rintro e13 w14 ⟨rfl, hb⟩
  have HB14 := Lib.hid (then_ HB13.out hb)
  clear hb
  go_wp2
  go_ret
  exact ⟨by trivial, HB14.out⟩
end Go.Proofs.Ythhfjbhopenchaa
