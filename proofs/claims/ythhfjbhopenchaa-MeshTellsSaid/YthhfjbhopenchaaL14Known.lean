/- The law function known of stage 14. -/
import Derived.Test.YthhfjbhopenchaaL14Same
namespace Go.Proofs.Ythhfjbhopenchaa
open Go.RowKit

set_option maxRecDepth 100000 in
set_option maxHeartbeats 6400000 in
theorem l14known_any (w0 : World) : Calls Try.prog 10 #[] w0 fun e w' => e = .returned (.bool true) ∧ Below w0.heap.size w0 w' := by
  have HB0 := Lib.hid (Below.refl w0.heap.size w0)
  go_enter Try.func10, Try.ntmps10
  have j0 := ints_lit w0 3 (w0.heap.size) 2 #[.int .i64 2, .int .i64 4] [2, 4] (by simp) (by rfl) (by decide)
  have a0 := (Below.refl (w0).heap.size (w0)).alloc (Nat.le_refl _) (.cells #[.int .i64 2, .int .i64 4] 3)
  have HA := Lib.hid (then_ HB0.out a0)
  have C := mAt_any (c := 2) 5 j0 ⟨by omega, by omega⟩
  rw [show Mh.placeOf [2, 4] 5 = [1, 1] by decide +kernel] at C
  have HC := Lib.hid C
  clear C a0 j0
  go_wp2_with fail
  refine HC.out.mono ?_; rintro e0 w1 ⟨⟨A, n, c, rfl, hc, hi⟩, hb⟩
  have HB1 := Lib.hid (then_ HA.out hb)
  clear HC HA hb
  have HX := Lib.hid hi
  clear hi hc
  have j0 := ints_lit w1 3 (w1.heap.size) 2 #[.int .i64 1, .int .i64 1] [1, 1] (by simp) (by rfl) (by decide)
  have a0 := (Below.refl (w1).heap.size (w1)).alloc (Nat.le_refl _) (.cells #[.int .i64 1, .int .i64 1] 3)
  have HA := Lib.hid (then_ HB1.out a0)
  have C := bookSame_eq (c := c) (d := 2) (HX.out.below a0) j0
  have HC := Lib.hid C
  clear C a0 j0
  go_wp2_with fail
  refine HC.out.mono ?_; rintro e1 w2 ⟨rfl, z, hw⟩
  have HB2 := Lib.hid (show Below w0.heap.size w0 w2 by rw [hw]; exact below_drewN HA.out z)
  clear HC HA hw HX
  have HA := Lib.hid HB2.out
  have C := mDevices_any (c := 0) (Ints.nil_ w2 none)
  rw [show Mh.size [] = 1 by decide +kernel] at C
  have HC := Lib.hid C
  clear C
  go_wp2_with fail
  refine HC.out.mono ?_; rintro e2 w3 ⟨rfl, hb⟩
  have HB3 := Lib.hid (then_ HA.out hb)
  clear HC HA hb
  have j0 := ints_lit w3 3 (w3.heap.size) 1 #[.int .i64 3] [3] (by simp) (by rfl) (by decide)
  have a0 := (Below.refl (w3).heap.size (w3)).alloc (Nat.le_refl _) (.cells #[.int .i64 3] 3)
  have HA := Lib.hid (then_ HB3.out a0)
  have C := mStep_any (c := 1) 0 0 (-1) j0 ⟨by omega, by omega⟩ ⟨by omega, by omega⟩ ⟨by omega, by omega⟩
  rw [show Mh.step [3] 0 0 (-1) = 2 by decide +kernel] at C
  have HC := Lib.hid C
  clear C a0 j0
  go_wp2_with fail
  refine HC.out.mono ?_; rintro e3 w4 ⟨rfl, hb⟩
  have HB4 := Lib.hid (then_ HA.out hb)
  clear HC HA hb
  have j0 := ints_lit w4 3 (w4.heap.size) 2 #[.int .i64 2, .int .i64 4] [2, 4] (by simp) (by rfl) (by decide)
  have a0 := (Below.refl (w4).heap.size (w4)).alloc (Nat.le_refl _) (.cells #[.int .i64 2, .int .i64 4] 3)
  have j1 := ints_lit ((w4.alloc (.cells #[.int .i64 2, .int .i64 4] 3))) 3 (w4.heap.size + 1) 2 #[.int .i64 1, .int .i64 1] [1, 1] (by simp) (by rfl) (by decide)
  have a1 := (Below.refl ((w4.alloc (.cells #[.int .i64 2, .int .i64 4] 3))).heap.size ((w4.alloc (.cells #[.int .i64 2, .int .i64 4] 3)))).alloc (Nat.le_refl _) (.cells #[.int .i64 1, .int .i64 1] 3)
  have HA := Lib.hid (then_ (then_ HB4.out a0) a1)
  have C := mOf_any (c := 2) (d := 2) (j0.below a1) j1
  rw [show Mh.index [2, 4] [1, 1] = 5 by decide +kernel] at C
  have HC := Lib.hid C
  clear C a0 a1 j0 j1
  go_wp2_with fail
  refine HC.out.mono ?_; rintro e4 w5 ⟨rfl, hb⟩
  have HB5 := Lib.hid (then_ HA.out hb)
  clear HC HA hb
  have j0 := ints_lit w5 3 (w5.heap.size) 2 #[.int .i64 2, .int .i64 2] [2, 2] (by simp) (by rfl) (by decide)
  have a0 := (Below.refl (w5).heap.size (w5)).alloc (Nat.le_refl _) (.cells #[.int .i64 2, .int .i64 2] 3)
  have HA := Lib.hid (then_ HB5.out a0)
  have C := mGroup_any (c := 2) 1 0 j0 ⟨by omega, by omega⟩ ⟨by omega, by omega⟩
  rw [show Mh.group [2, 2] 1 0 = [1, 3] by decide +kernel] at C
  have HC := Lib.hid C
  clear C a0 j0
  go_wp2_with fail
  refine HC.out.mono ?_; rintro e5 w6 ⟨⟨A, n, c, rfl, hc, hi⟩, hb⟩
  have HB6 := Lib.hid (then_ HA.out hb)
  clear HC HA hb
  have HX := Lib.hid hi
  clear hi hc
  have j0 := ints_lit w6 3 (w6.heap.size) 2 #[.int .i64 1, .int .i64 3] [1, 3] (by simp) (by rfl) (by decide)
  have a0 := (Below.refl (w6).heap.size (w6)).alloc (Nat.le_refl _) (.cells #[.int .i64 1, .int .i64 3] 3)
  have HA := Lib.hid (then_ HB6.out a0)
  have C := bookSame_eq (c := c) (d := 2) (HX.out.below a0) j0
  have HC := Lib.hid C
  clear C a0 j0
  go_wp2_with fail
  refine HC.out.mono ?_; rintro e6 w7 ⟨rfl, z, hw⟩
  have HB7 := Lib.hid (show Below w0.heap.size w0 w7 by rw [hw]; exact below_drewN HA.out z)
  clear HC HA hw HX
  have j0 := ints_lit w7 3 (w7.heap.size) 1 #[.int .i64 9] [9] (by simp) (by rfl) (by decide)
  have a0 := (Below.refl (w7).heap.size (w7)).alloc (Nat.le_refl _) (.cells #[.int .i64 9] 3)
  have HA := Lib.hid (then_ HB7.out a0)
  have C := mRight_any (c := 1) j0
  rw [show Mh.right [9] = false by decide +kernel] at C
  have HC := Lib.hid C
  clear C a0 j0
  go_wp2_with fail
  refine HC.out.mono ?_; rintro e7 w8 ⟨rfl, hb⟩
  have HB8 := Lib.hid (then_ HA.out hb)
  clear HC HA hb
  go_wp2
  go_ret
  exact ⟨by trivial, HB8.out⟩
end Go.Proofs.Ythhfjbhopenchaa
