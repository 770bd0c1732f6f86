/- The law function known of stage 9. -/
import Derived.Test.YtpceebpihojdcaaL9Same
namespace Go.Proofs.Ytpceebpihojdcaa
open Go.RowKit

theorem k9_a : noteR (runesOf ⟨#[120, 121]⟩) (runesOf ⟨#[121, 32, 46]⟩) 2 = ([1, -1], true, 0) := by kernel_rfl
theorem k9_b : noteR (runesOf ⟨#[120]⟩) (runesOf ⟨#[120, 120]⟩) 2 = ([], false, 14) := by kernel_rfl
theorem k9_c : noteR (runesOf ⟨#[120]⟩) (runesOf ⟨#[32, 32]⟩) 2 = ([], false, 0) := by kernel_rfl
theorem k9_r : runesOf ⟨#[195, 169]⟩ = [233] := by kernel_rfl
theorem k9_d : rightB (runesOf ⟨#[195, 169]⟩) 1 = true := by
  rw [k9_r]
  refine rightB_yes ⟨by decide, by decide, rfl, fun i x hx => ?_⟩
  cases i with
  | zero => simp at hx; subst hx; exact ⟨by unfold badR; omega, rfl⟩
  | succ i => simp at hx
theorem k9_f : findF (runesOf ⟨#[97, 195, 169]⟩) 233 = 1 := by kernel_rfl
theorem k9_t : textF (runesOf ⟨#[120, 121]⟩) [-1, 1, 5] = ⟨#[46, 121, 46]⟩ := by kernel_rfl
theorem k9_n : (runesOf ⟨#[97, 255]⟩).length = 2 := by kernel_rfl
set_option maxRecDepth 100000 in
set_option maxHeartbeats 6400000 in
theorem l9known_any (w : World) :
    Calls Try.prog 8 #[] w fun e w' => e = .returned (.bool true) ∧ Below w.heap.size w w' := by
  have C1 := nNote_any (w := w) (s := ⟨#[120, 121]⟩) (t := ⟨#[121, 32, 46]⟩) 2 (by decide) (by decide)
  have C2 := fun w : World => nNote_any (w := w) (s := ⟨#[120]⟩) (t := ⟨#[120, 120]⟩) 2 (by decide) (by decide)
  have C3 := fun w : World => nNote_any (w := w) (s := ⟨#[120]⟩) (t := ⟨#[32, 32]⟩) 2 (by decide) (by decide)
  have C4 := fun w : World => nRight_any (w := w) (s := ⟨#[195, 169]⟩) 1 (by decide)
  have C5 := fun w : World => nFind_any (w := w) (s := ⟨#[97, 195, 169]⟩) 233 (by decide)
  have C6 := fun (w : World) (A : Option Addr) (c : Nat) (h : Ints w A 3 [-1, 1, 5]) => nText_any (w := w) (s := ⟨#[120, 121]⟩) (c := c) (by decide) h (by decide)
  have C7 := fun w : World => nRunes_any w ⟨#[97, 255]⟩ (by decide)
  have kn := k9_n
  rw [k9_a] at C1
  simp only [k9_b] at C2
  simp only [k9_c] at C3
  simp only [k9_d] at C4
  simp only [k9_f] at C5
  simp only [k9_t] at C6
  generalize runesOf ⟨#[97, 255]⟩ = R at *
  have KN := Lib.hid kn
  clear kn
  have kt : ((⟨#[46, 121, 46]⟩ : ByteArray).toList == (⟨#[46, 121, 46]⟩ : ByteArray).toList) = true := by simp
  go_enter Try.func8, Try.ntmps8
  go_wp2_with fail
  refine C1.mono ?_; rintro e1 w1 ⟨⟨v1, m1, rfl, hO1⟩, hb1⟩
  obtain ⟨A1, c1, rfl, _, hI1, _⟩ := hO1.form
  have I1 := Lib.hid hI1
  have HB := Lib.hid hb1
  clear C1 hO1 hI1 hb1
  go_wp2_with fail
  refine (C2 _).mono ?_; rintro e2 w2 ⟨⟨v2, m2, rfl, hO2⟩, hb⟩
  obtain ⟨A2, c2, rfl, _⟩ := hO2.form
  replace I1 := Lib.hid (I1.out.below hb)
  replace HB := Lib.hid (then_ HB.out hb)
  clear C2 hO2 hb
  go_wp2_with fail
  refine (C3 _).mono ?_; rintro e3 w3 ⟨⟨v3, m3, rfl, hO3⟩, hb⟩
  obtain ⟨A3, c3, rfl, _⟩ := hO3.form
  replace I1 := Lib.hid (I1.out.below hb)
  replace HB := Lib.hid (then_ HB.out hb)
  clear C3 hO3 hb
  go_wp2_with fail
  have hl := (Below.refl w3.heap.size w3).alloc (Nat.le_refl _) (.cells #[.int .i64 1, .int .i64 (-1)] 3)
  replace I1 := Lib.hid (I1.out.below hl)
  replace HB := Lib.hid (then_ HB.out hl)
  clear hl
  refine (bookSame9_eq I1.out (ints_lit w3 3 _ _ _ [1, -1] (by rfl) (by rfl) (by decide))).mono ?_; rintro e4 w4 ⟨rfl, q, rfl⟩
  replace HB := Lib.hid (then_drew HB.out q)
  clear I1
  go_wp2_with fail
  refine (C4 _).mono ?_; rintro e5 w5 ⟨rfl, hb⟩
  replace HB := Lib.hid (then_ HB.out hb)
  clear C4 hb
  go_wp2_with fail
  refine (C5 _).mono ?_; rintro e6 w6 ⟨rfl, hb⟩
  replace HB := Lib.hid (then_ HB.out hb)
  clear C5 hb
  go_wp2_with fail
  have hl := (Below.refl w6.heap.size w6).alloc (Nat.le_refl _) (.cells #[.int .i64 (-1), .int .i64 1, .int .i64 5] 3)
  replace HB := Lib.hid (then_ HB.out hl)
  clear hl
  refine (C6 _ _ _ (ints_lit w6 3 _ _ _ [-1, 1, 5] (by rfl) (by rfl) (by decide))).mono ?_; rintro e7 w7 ⟨rfl, hb⟩
  replace HB := Lib.hid (then_ HB.out hb)
  clear C6 hb
  go_wp2_with fail
  refine (C7 _).mono ?_; rintro e8 w8 ⟨⟨v8, m8, rfl, hO8⟩, hb⟩
  obtain ⟨A8, c8, rfl, _⟩ := hO8.form
  obtain rfl : 2 = m8 := KN.out.symm.trans hO8.len
  replace HB := Lib.hid (then_ HB.out hb)
  clear C7 hO8 hb
  go_wp2
  go_ret
  exact ⟨rfl, HB.out⟩
end Go.Proofs.Ytpceebpihojdcaa
