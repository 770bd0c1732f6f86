/- The law's own function 'known': chapter 1's runs hold. -/
import Derived.Test.YtjmioegagigpmaaShapeF
namespace Go.Proofs.Ytjmioegagigpmaa
open Go.RowKit

set_option maxHeartbeats 1600000 in
theorem known_any (w : World) :
    Calls Try.prog 9 #[] w fun e w' => e = .returned (.bool true) ∧ Below w.heap.size w w' := by
  have e1 := Lib.hid (show Sh.index [2, 3] [1, 2] = 5 by decide)
  have e2 := Lib.hid (show Sh.size [] = 1 by decide)
  have e3 := Lib.hid (show Sh.right [33] = false by decide)
  have e4 := Lib.hid (show Sh.right [] = true by decide)
  have e5 := Lib.hid (show Sh.placeOf [2, 3] 5 = [1, 2] by decide)
  have e6 := Lib.hid (show (if Sh.right [2, 3] then Sh.strides [2, 3] else []) = [3, 1] by decide)
  go_enter Try.func9, Try.ntmps9
  go_wp2_with fail
  refine (index_any (xs := [2, 3]) (ys := [1, 2]) ((ints_lit w 3 _ _ _ _ (by rfl) (by rfl) (by decide)).alloc _) (ints_lit _ _ _ _ _ _ (by simp) (by rfl) (by decide))).mono ?_; rw [e1.out]; rintro e w' ⟨rfl, rfl⟩
  go_wp2_with fail
  refine (size_any (Ints.nil_ _ _)).mono ?_; rw [e2.out]; rintro e w' ⟨rfl, rfl⟩
  have hB0 : Below w.heap.size w ((w.alloc (.cells #[.int .i64 2, .int .i64 3] 3)).alloc (.cells #[.int .i64 1, .int .i64 2] 3)) := ((Below.refl _ _).alloc (by simp) _).alloc (by simp) _
  generalize (w.alloc (.cells #[.int .i64 2, .int .i64 3] 3)).alloc (.cells #[.int .i64 1, .int .i64 2] 3) = wa at *
  go_wp2_with fail
  refine (right_any (ints_lit wa _ _ _ _ [33] (by rfl) (by rfl) (by decide))).mono ?_; rw [e3.out]; rintro e w' ⟨rfl, rfl⟩
  go_wp2_with fail
  refine (right_any (Ints.nil_ _ _)).mono ?_; rw [e4.out]; rintro e w' ⟨rfl, rfl⟩
  have hB1 := hB0.alloc hB0.size (.cells #[.int .i64 33] 3)
  clear hB0
  generalize wa.alloc (.cells #[.int .i64 33] 3) = wb at *
  go_wp2_with fail
  refine (place_any 5 (ints_lit wb _ _ _ _ [2, 3] (by rfl) (by rfl) (by decide)) ⟨by omega, by omega⟩).mono ?_; rw [e5.out]; rintro e w1 ⟨⟨A1, n1, c1, rfl, hc1, h1⟩, hB2⟩
  have hB3 := then_ (hB1.alloc hB1.size _) hB2
  clear hB2 hB1
  go_wp2_with fail
  refine (bookSame_eq (h1.alloc _) (ints_lit w1 _ _ _ _ [1, 2] (by rfl) (by rfl) (by decide))).mono ?_; rintro e w' ⟨rfl, k1, rfl⟩
  have hB4 := then_drew (hB3.alloc hB3.size (.cells #[.int .i64 1, .int .i64 2] 3)) k1
  clear hB3 h1 hc1
  generalize (w1.alloc (.cells #[.int .i64 1, .int .i64 2] 3)).drewN k1 = wc at *
  go_wp2_with fail
  refine (strides_any (ints_lit wc _ _ _ _ [2, 3] (by rfl) (by rfl) (by decide))).mono ?_; rw [e6.out]; rintro e w2 ⟨⟨A1, n1, c1, rfl, hc1, h1⟩, hB2⟩
  have hB5 := then_ (hB4.alloc hB4.size _) hB2
  clear hB4 hB2
  go_wp2_with fail
  refine (bookSame_eq (h1.alloc _) (ints_lit w2 _ _ _ _ [3, 1] (by rfl) (by rfl) (by decide))).mono ?_; rintro e w' ⟨rfl, k2, rfl⟩
  have hB6 := then_drew (hB5.alloc hB5.size (.cells #[.int .i64 3, .int .i64 1] 3)) k2
  clear hB5 h1 hc1
  generalize (w2.alloc (.cells #[.int .i64 3, .int .i64 1] 3)).drewN k2 = wd at *
  go_wp2_with fail
  refine (same_any (xs := []) (ys := []) (Ints.nil_ _ _) (Ints.nil_ _ _)).mono ?_; rintro e w' ⟨rfl, rfl⟩
  have hB7 := hB6.alloc hB6.size (.cells #[] 3)
  go_wp2
  go_ret
  exact ⟨rfl, hB7⟩
end Go.Proofs.Ytjmioegagigpmaa
