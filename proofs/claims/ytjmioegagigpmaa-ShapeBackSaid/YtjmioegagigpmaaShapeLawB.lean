/- ShapeBack: the walk. -/
import Derived.Test.YtjmioegagigpmaaShapeLawA
import Derived.Test.YtjmioegagigpmaaShapeMathB
namespace Go.Proofs.Ytjmioegagigpmaa
open Go.RowKit

/-- What the tape's shapes are: short lists of small numbers, so each is a shape. -/
theorem right_tape {n : Nat} {xs : List Int} (hl : xs.length = n) (hn : n ≤ 3) (hx : ∀ x ∈ xs, 0 ≤ x ∧ x ≤ 7) : Sh.right xs = true := by
  have hd : ∀ x ∈ xs, 0 ≤ x ∧ x ≤ 32 := fun x h => by have := hx x h; omega
  refine Sh.right_iff.2 ⟨by omega, hd, ?_⟩
  have h0 := Sh.pr_bd xs hd
  match xs, hl with
  | [], _ => decide
  | [a], _ => have := hx a (by simp); simp [Sh.pr]; omega
  | [a, b], _ =>
    have h1 := hx a (by simp)
    have h2 := hx b (by simp)
    have : a * b ≤ 7 * 7 := Int.mul_le_mul h1.2 h2.2 h2.1 (by omega)
    simp [Sh.pr]; omega
  | [a, b, c], _ =>
    have h1 := hx a (by simp)
    have h2 := hx b (by simp)
    have h3 := hx c (by simp)
    have h4 : a * b ≤ 7 * 7 := Int.mul_le_mul h1.2 h2.2 h2.1 (by omega)
    have h5 : a * b * c ≤ (7 * 7) * 7 := Int.mul_le_mul h4 h3.2 h3.1 (by omega)
    simp [Sh.pr]; omega
  | _ :: _ :: _ :: _ :: _, h => simp at h; omega

set_option maxHeartbeats 1600000 in
theorem back_walk {w : World} {A0 : Option Addr} {n0 c0 : Nat} {x0 : List Int} (h0 : Ints w A0 n0 x0) :
    Calls Try.prog 5 #[.slice A0 n0 c0] w fun e w' => e = .returned (.bool true) ∧ Below w.heap.size w w' := by
  have hT := tape_new (c := c0) h0
  have hB : Below w.heap.size w (w.alloc (.cells #[.slice A0 n0 c0, .int .i64 0] 29)) := (Below.refl _ _).alloc (Nat.le_refl _) _
  have hz : (w.alloc (.cells #[.slice A0 n0 c0, .int .i64 0] 29)).heap.size = w.heap.size + 1 := by simp
  go_enter Try.func5, Try.ntmps5
  go_wp2_with fail
  generalize w.alloc (.cells #[.slice A0 n0 c0, .int .i64 0] 29) = wa at *
  refine (tapeShape_any hT).mono ?_; rintro e w1 ⟨⟨v, n, xs, rfl, hO, hn3, hx⟩, hT1, hG1⟩
  obtain ⟨A, c, rfl, hc, hI, hA⟩ := hO.form
  have HR := Lib.hid (right_tape hO.len hn3 hx)
  have HLen := Lib.hid hO.len
  have HB1 := Lib.hid (below_of_grown hB (by omega) hG1 (Nat.le_refl _))
  clear hB hT hG1 hO hx hA hz hT1
  go_wp2_with fail
  refine (size_any hI).mono ?_; rintro e w' ⟨rfl, rfl⟩
  obtain ⟨hs0, hs1⟩ := Sh.size_bd xs
  obtain ⟨N, hN⟩ := Int.eq_ofNat_of_zero_le hs0
  have HN := Lib.hid hN
  rw [hN] at hs1 ⊢
  clear hN hs0
  go_wp2_with fail
  go_loopw [6] (fun iv wr => ∃ j : Nat, iv = .int .i64 j ∧ j ≤ N ∧ Ints wr A n xs ∧ Below w.heap.size w wr) (fun iv _ => N - (intOf iv).toNat)
  case atStart => exact ⟨0, rfl, by omega, hI, HB1.out⟩
  case round =>
    clear hI HB1
    obtain ⟨j, rfl, hj, hI, hB⟩ := hrel
    have HB := Lib.hid hB
    clear hB
    by_cases hlt : j < N
    · have hj1 : (j : Int) < Sh.size xs := by rw [HN.out]; omega
      have HP := Lib.hid (Sh.placeOf_place (s := xs) (i := j) (by omega) hj1)
      have HX := Lib.hid (Sh.index_place (s := xs) (i := j) (by omega) hj1)
      have hd := (Sh.size_pos (s := xs) (i := j) (by omega) hj1).2
      have HS := Lib.hid (p := Sh.sm (Sh.place xs j) (Sh.strides xs) = j) (by rw [Sh.sm_lin (Sh.place_length _ _), Sh.lin_place_of (by omega) hj1])
      have HM := Lib.hid (Sh.sm_le (Sh.place_nonneg hd j))
      have HD := Lib.hid hd
      clear hj1 hd
      go_wp2_with fail
      refine (place_any (j : Int) hI ⟨by omega, by omega⟩).mono ?_; rw [HP.out]; rintro e w2 ⟨⟨P, m, d, rfl, hd, hJ⟩, hb2⟩
      obtain rfl : m = n := by rw [← hJ.len, Sh.place_length, HLen.out]
      have hI2 := hI.below hb2
      have HB2 := Lib.hid (then_ HB.out hb2)
      clear hb2 hI
      go_wp2_with fail
      refine (index_any hI2 hJ).mono ?_; rw [HX.out]; rintro e w' ⟨rfl, rfl⟩
      go_wp2_with fail
      refine (strides_any hI2).mono ?_; rw [if_pos HR.out]; rintro e w3 ⟨⟨S, m', d', rfl, hd', hK⟩, hb3⟩
      obtain rfl : m' = m := by rw [← hK.len, Sh.strides_length, HLen.out]
      have hI3 := hI2.below hb3
      have hJ3 := hJ.below hb3
      have HB3 := Lib.hid (then_ HB2.out hb3)
      have hle := hI3.le
      clear hb3 hI2 hJ
      go_wp2_with fail
      go_loopw [8, 47] (fun sv kv wr => ∃ k : Nat, kv = .int .i64 k ∧ k ≤ m' ∧ sv = .int .i64 (Sh.sm ((Sh.place xs j).take k) ((Sh.strides xs).take k)) ∧ ∃ q, wr = w3.drewN q) (fun _ kv _ => m' - (intOf kv).toNat)
      case atStart => exact ⟨0, rfl, by omega, rfl, 0, rfl⟩
      case round =>
        obtain ⟨k, rfl, hk, rfl, q, rfl⟩ := hrel
        by_cases hkl : k < m'
        · obtain ⟨ad, x, rfl, hb, hx, hcx, hf⟩ := hJ3.at_ hkl
          obtain ⟨bd, y, rfl, hb', hy, hcy, hg⟩ := hK.at_ hkl
          have h1 := HM.out k
          have h2 := HM.out (k + 1)
          rw [Sh.sm_take hx hy, HS.out] at h2
          rw [HS.out] at h1
          obtain ⟨h1a, h1b⟩ := h1
          obtain ⟨h2a, h2b⟩ := h2
          have hxy : 0 ≤ x * y := Sh.place_nonneg HD.out j (x, y) (List.mem_of_getElem? (List.getElem?_zip_eq_some.2 ⟨hx, hy⟩))
          have hxy2 : x * y ≤ 4096 := by omega
          have HXX := Lib.hid hx
          have HYY := Lib.hid hy
          clear hx hy
          go_wp2
          go_quiet (fail)
          go_wp2
          go_roundw
          case rel => exact ⟨k + 1, by go_num, by omega, by rw [Sh.sm_take HXX.out HYY.out], _, rfl⟩
          case measure => simp [intOf]; omega
        · have hk' : k = m' := by omega
          have HE := Lib.hid (p := Sh.sm ((Sh.place xs j).take k) ((Sh.strides xs).take k) = j) (by
            rw [List.take_of_length_le (by rw [Sh.place_length, HLen.out]; omega), List.take_of_length_le (by rw [Sh.strides_length, HLen.out]; omega), HS.out])
          rw [HE.out]
          have hI4 := hI3.drewN q
          have HB4 := Lib.hid (then_drew HB3.out q)
          clear hI3 hJ3 hK hk'
          go_wp2
          go_roundw
          case rel => exact ⟨j + 1, by go_num, by omega, hI4, HB4.out⟩
          case measure => simp [intOf]; omega
    · obtain rfl : j = N := by omega
      have HP := Lib.hid (Sh.placeOf_none (s := xs) (i := (j : Int)) (by rw [HN.out]; omega))
      go_wp2_with fail
      refine (place_any (j : Int) hI ⟨by omega, by omega⟩).mono ?_; rw [HP.out]; rintro e w2 ⟨⟨P, m, d, rfl, hd, hJ⟩, hb2⟩
      obtain rfl : m = 0 := hJ.len.symm
      have HB2 := Lib.hid (then_ HB.out hb2)
      clear hb2 hI hJ
      go_wp2_with fail
      refine (known_any _).mono ?_; rintro e w7 ⟨rfl, hb7⟩
      have HB7 := Lib.hid (then_ HB2.out hb7)
      clear hb7
      go_wp2
      go_ret
      exact ⟨rfl, HB7.out⟩
end Go.Proofs.Ytjmioegagigpmaa
