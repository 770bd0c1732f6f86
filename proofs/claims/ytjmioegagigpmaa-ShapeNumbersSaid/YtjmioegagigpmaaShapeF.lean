/- The law's own function 'same': for any shape, any place, any number it answers true. -/
import Derived.Test.YtjmioegagigpmaaShapeE
namespace Go.Proofs.Ytjmioegagigpmaa
open Go.RowKit

theorem bookSame_eq {w : World} {A B : Option Addr} {n c m d : Nat} {xs : List Int} (h : Ints w A n xs) (g : Ints w B m xs) :
    Calls Try.prog 19 #[.slice A n c, .slice B m d] w fun e w' => e = .returned (.bool true) ∧ ∃ k, w' = w.drewN k :=
  (bookSame_any h g).mono fun _ _ ⟨he, hw⟩ => ⟨by rw [he]; simp, hw⟩

set_option maxHeartbeats 800000 in
theorem lawSame_any {w : World} {A B : Option Addr} {n c m d : Nat} {xs ys : List Int} (i : Int) (h : Ints w A n xs) (g : Ints w B m ys) (hi : Fits i) :
    Calls Try.prog 7 #[.slice A n c, .slice B m d, .int .i64 i] w fun e w' => e = .returned (.bool true) ∧ Below w.heap.size w w' := by
  go_enter Try.func7, Try.ntmps7
  go_wp2_with fail
  refine (right_any h).mono ?_; rintro e w' ⟨rfl, rfl⟩
  go_wp2_with fail
  refine (refRight_any h).mono ?_; rintro e w' ⟨rfl, rfl⟩
  go_wp2_with fail
  refine (size_any h).mono ?_; rintro e w' ⟨rfl, rfl⟩
  go_wp2_with fail
  refine (refSize_any h).mono ?_; rintro e w' ⟨rfl, rfl⟩
  go_wp2_with fail
  refine (strides_any h).mono ?_; rintro e w1 ⟨⟨A1, n1, c1, rfl, hc1, h1⟩, hB1⟩
  go_wp2_with fail
  refine (refStrides_any (h.below hB1)).mono ?_; rintro e w2 ⟨⟨A2, n2, c2, rfl, hc2, h2⟩, hB2⟩
  go_wp2_with fail
  refine (bookSame_eq (h1.below hB2) h2).mono ?_; rintro e w' ⟨rfl, k1, rfl⟩
  have hB3 := then_drew (then_ hB1 hB2) k1
  clear hB1 hB2 h1 h2 hc1 hc2
  generalize w2.drewN k1 = w3 at *
  go_wp2_with fail
  refine (index_any (h.below hB3) (g.below hB3)).mono ?_; rintro e w' ⟨rfl, rfl⟩
  go_wp2_with fail
  refine (refIndex_any (h.below hB3) (g.below hB3)).mono ?_; rintro e w' ⟨rfl, k2, rfl⟩
  have hB4 := then_drew hB3 k2
  clear hB3
  generalize w3.drewN k2 = w4 at *
  go_wp2_with fail
  refine (place_any i (h.below hB4) hi).mono ?_; rintro e w5 ⟨⟨A1, n1, c1, rfl, hc1, h1⟩, hB1⟩
  go_wp2_with fail
  refine (refPlace_any i (h.below (then_ hB4 hB1)) hi).mono ?_; rintro e w6 ⟨⟨A2, n2, c2, rfl, hc2, h2⟩, hB2⟩
  go_wp2_with fail
  refine (bookSame_eq (h1.below hB2) h2).mono ?_; rintro e w' ⟨rfl, k1, rfl⟩
  have hB3 := then_drew (then_ (then_ hB4 hB1) hB2) k1
  clear hB1 hB2 h1 h2 hc1 hc2 hB4
  generalize w6.drewN k1 = w3 at *
  go_wp2_with fail
  refine (same_any (h.below hB3) (g.below hB3)).mono ?_; rintro e w' ⟨rfl, rfl⟩
  go_wp2_with fail
  refine (refInts_any (h.below hB3) (g.below hB3)).mono ?_; rintro e w' ⟨rfl, k2, rfl⟩
  have hB4 := then_drew hB3 k2
  go_wp2
  go_ret
  exact ⟨rfl, hB4⟩
end Go.Proofs.Ytjmioegagigpmaa
