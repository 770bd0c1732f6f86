/- Contracts of the functions that compare or index lists of numbers: shape.Index, shape.Same, and the reference's Right, Size, Index, Ints, and book.Same. -/
import Derived.Test.YtjmioegagigpmaaShapeA
namespace Go.Proofs.Ytjmioegagigpmaa
open Go.RowKit

set_option maxHeartbeats 400000 in
theorem refRight_any {w : World} {A : Option Addr} {n c : Nat} {xs : List Int} (h : Ints w A n xs) :
    Calls Try.prog 17 #[.slice A n c] w fun e w' => e = .returned (.bool (Sh.right xs)) ∧ w = w' := by
  have hn := h.len
  have hle := h.le
  go_enter Try.func17, Try.ntmps17
  go_wp2
  go_loop [3, 4] (fun p i => ∃ k : Nat, k ≤ n ∧ k ≤ 4 ∧ i = .int .i64 k ∧ p = .int .i64 (Sh.pr (xs.take k)) ∧ ∀ x ∈ xs.take k, 0 ≤ x ∧ x ≤ 32) (fun _ i => n - (intOf i).toNat)
  case atStart => exact ⟨0, Nat.zero_le _, Nat.zero_le _, rfl, rfl, by simp⟩
  case round =>
    obtain ⟨k, hk, hk4, rfl, rfl, hd⟩ := hrel
    have H2 := Lib.hid hn; clear hn
    by_cases hlt : k < n
    · obtain ⟨ad, x, rfl, hb, hx, hc, hf⟩ := h.at_ hlt
      have H := Lib.hid hx; clear hx
      have HD := Lib.hid hd; clear hd
      by_cases hx0 : 0 ≤ x ∧ x ≤ 32
      · obtain ⟨hx1, hx2⟩ := hx0
        by_cases hk3 : k < 4
        · have hall : ∀ y ∈ xs.take (k + 1), 0 ≤ y ∧ y ≤ 32 := by
            intro y hy
            rw [List.take_add_one, H.out] at hy
            simp at hy
            rcases hy with hy | rfl
            · exact HD.out y hy
            · exact ⟨hx1, hx2⟩
          have hm := Sh.pr_small (xs.take (k + 1)) hall (by have := H2.out; simp; omega)
          rw [Sh.pr_take _ H.out] at hm
          obtain ⟨hm1, hm2⟩ := hm
          have HA := Lib.hid hall; clear hall
          go_wp2
          go_round
          case rel => exact ⟨k + 1, by omega, by omega, by go_num, by rw [Sh.pr_take _ H.out], HA.out⟩
          case measure => simp [intOf]; omega
        · have HR := Lib.hid (Sh.not_right_long (s := xs) (by have := H2.out; omega))
          go_wp2
          go_ret
          exact ⟨ret_bool HR.out.symm, rfl⟩
      · have HR := Lib.hid (Sh.not_right_dim H.out hx0)
        by_cases hx1 : x < 0
        · go_wp2
          go_ret
          exact ⟨ret_bool HR.out.symm, rfl⟩
        · have hx2 : 32 < x := by omega
          go_wp2
          go_ret
          exact ⟨ret_bool HR.out.symm, rfl⟩
    · have hkn : k = n := by omega
      have ht : xs.take k = xs := List.take_of_length_le (by have := H2.out; omega)
      rw [ht] at hd ⊢
      have hb := Sh.pr_small xs hd (by have := H2.out; omega)
      have HR := Lib.hid (Sh.right_small (by have := H2.out; omega) hd)
      have HD := Lib.hid hd; clear hd
      have HT := Lib.hid ht; clear ht
      have HK := Lib.hid hkn; clear hkn
      go_wp2
      go_ret
      exact ⟨ret_bool HR.out.symm, rfl⟩

set_option maxHeartbeats 400000 in
theorem refSize_any {w : World} {A : Option Addr} {n c : Nat} {xs : List Int} (h : Ints w A n xs) :
    Calls Try.prog 18 #[.slice A n c] w fun e w' => e = .returned (.int .i64 (Sh.size xs)) ∧ w = w' := by
  have hn := h.len
  have hle := h.le
  cases hr : Sh.right xs with
  | false =>
    have H2 := Lib.hid hn; clear hn
    have HR := Lib.hid hr; clear hr
    go_enter Try.func18, Try.ntmps18
    go_wp2_with (go_at_call 17; refine (refRight_any h).mono ?_; rw [HR.out]; rintro e w' ⟨rfl, rfl⟩)
    go_ret
    exact ⟨ret_int (Sh.size_not HR.out).symm, rfl⟩
  | true =>
    obtain ⟨hl4, hd, hbig⟩ := Sh.right_iff.1 hr
    have H2 := Lib.hid hn; clear hn
    have HR := Lib.hid hr; clear hr
    have HD := Lib.hid hd; clear hd
    go_enter Try.func18, Try.ntmps18
    go_wp2_with (go_at_call 17; refine (refRight_any h).mono ?_; rw [HR.out]; rintro e w' ⟨rfl, rfl⟩)
    go_loop [3, 4] (fun p i => ∃ k : Nat, k ≤ n ∧ i = .int .i64 k ∧ p = .int .i64 (Sh.pr (xs.take k))) (fun _ i => n - (intOf i).toNat)
    case atStart => exact ⟨0, Nat.zero_le _, rfl, rfl⟩
    case round =>
      obtain ⟨k, hk, rfl, rfl⟩ := hrel
      by_cases hlt : k < n
      · obtain ⟨ad, x, rfl, hb, hx, hc, hf⟩ := h.at_ hlt
        have hm := Sh.pr_small (xs.take (k + 1)) (fun y hy => HD.out y (List.mem_of_mem_take hy)) (by have := H2.out; simp; omega)
        rw [Sh.pr_take _ hx] at hm
        obtain ⟨hm1, hm2⟩ := hm
        have H := Lib.hid hx; clear hx
        go_wp2
        go_round
        case rel => exact ⟨k + 1, by omega, by go_num, by rw [Sh.pr_take _ H.out]⟩
        case measure => simp [intOf]; omega
      · have ht : xs.take k = xs := List.take_of_length_le (by have := H2.out; omega)
        rw [ht]
        have HT := Lib.hid ht; clear ht
        go_wp2
        go_ret
        exact ⟨ret_int (Sh.size_of HR.out).symm, rfl⟩

set_option maxHeartbeats 400000 in
theorem index_any {w : World} {A B : Option Addr} {n c m d : Nat} {xs ys : List Int} (h : Ints w A n xs) (g : Ints w B m ys) :
    Calls Try.prog 14 #[.slice A n c, .slice B m d] w fun e w' => e = .returned (.int .i64 (Sh.index xs ys)) ∧ w = w' := by
  have hn := h.len
  have hm := g.len
  have hle := h.le
  have hme := g.le
  cases hr : Sh.right xs with
  | false =>
    have HX := Lib.hid (Sh.index_right (p := ys) hr)
    have HR := Lib.hid hr; clear hr
    have H1 := Lib.hid hn; clear hn
    have H2 := Lib.hid hm; clear hm
    go_enter Try.func14, Try.ntmps14
    go_wp2_with (go_at_call 16; refine (right_any h).mono ?_; rw [HR.out]; rintro e w' ⟨rfl, rfl⟩)
    go_ret
    exact ⟨ret_int HX.out.symm, rfl⟩
  | true =>
    have H1 := Lib.hid hn; clear hn
    have H2 := Lib.hid hm; clear hm
    by_cases hnm : m = n
    · have HR := Lib.hid hr; clear hr
      subst hnm
      go_enter Try.func14, Try.ntmps14
      go_wp2_with (go_at_call 16; refine (right_any h).mono ?_; rw [HR.out]; rintro e w' ⟨rfl, rfl⟩)
      go_loop [5, 20] (fun p i => ∃ k : Nat, k ≤ m ∧ i = .int .i64 k ∧ p = .int .i64 (Sh.hor (xs.take k) (ys.take k)) ∧ Sh.within (xs.take k) (ys.take k) = true) (fun _ i => m - (intOf i).toNat)
      case atStart => exact ⟨0, Nat.zero_le _, rfl, rfl, rfl⟩
      case round =>
        obtain ⟨k, hk, rfl, rfl, hd⟩ := hrel
        have HD := Lib.hid hd; clear hd
        by_cases hlt : k < m
        · obtain ⟨ad, x, rfl, hb, hx, hc, hf⟩ := h.at_ hlt
          obtain ⟨bd, y, rfl, hb', hy, hc', hf'⟩ := g.at_ hlt
          have H := Lib.hid hx; clear hx
          have G := Lib.hid hy; clear hy
          by_cases hy0 : 0 ≤ y ∧ y < x
          · obtain ⟨hy1, hy2⟩ := hy0
            have hw := Lib.hid (p := Sh.within (xs.take (k + 1)) (ys.take (k + 1)) = true) (by rw [Sh.within_take H.out G.out, HD.out]; simp [hy1, hy2])
            have hs := Sh.hor_small HR.out (H1.out.trans H2.out.symm) (k + 1) hw.out
            rw [Sh.hor_take H.out G.out] at hs
            obtain ⟨hs1, hs2⟩ := hs
            have hs' := Sh.hor_small HR.out (H1.out.trans H2.out.symm) k HD.out
            have hx32 : x ≤ 32 := ((Sh.right_iff.1 HR.out).2.1 x (List.mem_of_getElem? H.out)).2
            have hp0 : 0 ≤ Sh.hor (xs.take k) (ys.take k) * x := Int.mul_nonneg hs'.1 (by omega)
            have hp1 : Sh.hor (xs.take k) (ys.take k) * x ≤ 1048576 := by omega
            clear hs'
            go_wp2
            go_round
            case rel => exact ⟨k + 1, by omega, by go_num, by rw [Sh.hor_take H.out G.out], hw.out⟩
            case measure => simp [intOf]; omega
          · have HX := Lib.hid (Sh.index_out H.out G.out hy0)
            by_cases hy1 : y < 0
            · go_wp2
              go_ret
              exact ⟨ret_int HX.out.symm, rfl⟩
            · have hy2 : x ≤ y := by omega
              go_wp2
              go_ret
              exact ⟨ret_int HX.out.symm, rfl⟩
        · have ht : xs.take k = xs := List.take_of_length_le (by have := H1.out; omega)
          have ht' : ys.take k = ys := List.take_of_length_le (by have := H2.out; omega)
          have hd := HD.out
          rw [ht, ht'] at hd ⊢
          have HX := Lib.hid (Sh.index_of HR.out (H2.out.trans H1.out.symm) hd)
          clear ht ht' hd
          go_wp2
          go_ret
          exact ⟨ret_int HX.out.symm, rfl⟩
    · have HX := Lib.hid (Sh.index_len (s := xs) (p := ys) (by have := H1.out; have := H2.out; omega))
      have hb : ((m : Int) != (n : Int)) = true := by simp; omega
      have HR := Lib.hid hr; clear hr
      go_enter Try.func14, Try.ntmps14
      go_wp2_with (go_at_call 16; refine (right_any h).mono ?_; rw [HR.out]; rintro e w' ⟨rfl, rfl⟩)
      go_ret
      exact ⟨ret_int HX.out.symm, rfl⟩
end Go.Proofs.Ytjmioegagigpmaa
