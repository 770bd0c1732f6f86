/- Contracts of the comparing functions: shape.Same, the reference's Ints and Index, book.Same. -/
import Derived.Test.YtjmioegagigpmaaShapeB
namespace Go.Proofs.Ytjmioegagigpmaa
open Go.RowKit

theorem ne_of_at {xs ys : List Int} {k : Nat} {x y : Int} (h : xs[k]? = some x) (g : ys[k]? = some y) (hne : x ≠ y) : (xs == ys) = false := by
  rw [beq_eq_false_iff_ne]
  rintro rfl
  rw [h] at g
  exact hne (by injection g)
theorem eq_of_take {xs ys : List Int} {k n : Nat} (h : xs.length = n) (g : ys.length = n) (hk : n ≤ k) (he : xs.take k = ys.take k) : (xs == ys) = true := by
  rw [List.take_of_length_le (by omega), List.take_of_length_le (by omega)] at he
  simp [he]
theorem take_same {xs ys : List Int} {k : Nat} {x : Int} (h : xs[k]? = some x) (g : ys[k]? = some x) (he : xs.take k = ys.take k) : xs.take (k + 1) = ys.take (k + 1) := by
  rw [List.take_add_one, List.take_add_one, h, g, he]

set_option maxHeartbeats 400000 in
theorem same_any {w : World} {A B : Option Addr} {n c m d : Nat} {xs ys : List Int} (h : Ints w A n xs) (g : Ints w B m ys) :
    Calls Try.prog 22 #[.slice A n c, .slice B m d] w fun e w' => e = .returned (.bool (xs == ys)) ∧ w = w' := by
  have hn := h.len
  have hm := g.len
  have hle := h.le
  have hme := g.le
  by_cases hnm : n = m
  · subst hnm
    have H1 := Lib.hid hn; clear hn
    have H2 := Lib.hid hm; clear hm
    go_enter Try.func22, Try.ntmps22
    go_wp2
    go_loop [14] (fun i => ∃ k : Nat, k ≤ n ∧ i = .int .i64 k ∧ xs.take k = ys.take k) (fun i => n - (intOf i).toNat)
    case atStart => exact ⟨0, Nat.zero_le _, rfl, rfl⟩
    case round =>
      obtain ⟨k, hk, rfl, hd⟩ := hrel
      have HD := Lib.hid hd; clear hd
      by_cases hlt : k < n
      · obtain ⟨ad, x, rfl, hb, hx, hc, hf⟩ := h.at_ hlt
        obtain ⟨bd, y, rfl, hb', hy, hc', hf'⟩ := g.at_ hlt
        have H := Lib.hid hx; clear hx
        have G := Lib.hid hy; clear hy
        by_cases hxy : x = y
        · subst hxy
          go_wp2
          go_round
          case rel => exact ⟨k + 1, by omega, by go_num, take_same H.out G.out HD.out⟩
          case measure => simp [intOf]; omega
        · have HX := Lib.hid (ne_of_at H.out G.out hxy)
          have hb : (x != y) = true := by simpa using hxy
          go_wp2
          go_ret
          exact ⟨ret_bool HX.out.symm, rfl⟩
      · have HX := Lib.hid (eq_of_take H1.out H2.out (by omega) HD.out)
        go_wp2
        go_ret
        exact ⟨ret_bool HX.out.symm, rfl⟩
  · have HX := Lib.hid (p := (xs == ys) = false) (by rw [beq_eq_false_iff_ne]; rintro rfl; exact hnm (hn.symm.trans hm))
    have H1 := Lib.hid hn; clear hn
    have H2 := Lib.hid hm; clear hm
    have hb : ((n : Int) != (m : Int)) = true := by simp; omega
    go_enter Try.func22, Try.ntmps22
    go_wp2
    go_ret
    exact ⟨ret_bool HX.out.symm, rfl⟩

set_option maxHeartbeats 400000 in
theorem bookSame_any {w : World} {A B : Option Addr} {n c m d : Nat} {xs ys : List Int} (h : Ints w A n xs) (g : Ints w B m ys) :
    Calls Try.prog 19 #[.slice A n c, .slice B m d] w fun e w' => e = .returned (.bool (xs == ys)) ∧ ∃ k, w' = w.drewN k := by
  have hn := h.len
  have hm := g.len
  have hle := h.le
  have hme := g.le
  by_cases hnm : n = m
  · subst hnm
    have H1 := Lib.hid hn; clear hn
    have H2 := Lib.hid hm; clear hm
    go_enter Try.func19, Try.ntmps19
    go_wp2
    go_loopw [5] (fun i wr => ∃ k : Nat, k ≤ n ∧ i = .int .i64 k ∧ xs.take k = ys.take k ∧ ∃ q, wr = w.drewN q) (fun i _ => n - (intOf i).toNat)
    case atStart => exact ⟨0, Nat.zero_le _, rfl, rfl, 0, rfl⟩
    case round =>
      obtain ⟨k, hk, rfl, hd, q, rfl⟩ := hrel
      have HD := Lib.hid hd; clear hd
      by_cases hlt : k < n
      · obtain ⟨ad, x, rfl, hb, hx, hc, hf⟩ := h.at_ hlt
        obtain ⟨bd, y, rfl, hb', hy, hc', hf'⟩ := g.at_ hlt
        have H := Lib.hid hx; clear hx
        have G := Lib.hid hy; clear hy
        by_cases hxy : x = y
        · subst hxy
          go_wp2
          go_quiet (fail)
          go_wp2
          go_roundw
          case rel => exact ⟨k + 1, by omega, by go_num, take_same H.out G.out HD.out, _, rfl⟩
          case measure => simp [intOf]; omega
        · have HX := Lib.hid (ne_of_at H.out G.out hxy)
          have hb : (x != y) = true := by simpa using hxy
          go_wp2
          go_quiet (fail)
          go_wp2
          go_ret
          exact ⟨ret_bool HX.out.symm, _, World.drewN_drewN _ _ _⟩
      · have HX := Lib.hid (eq_of_take H1.out H2.out (by omega) HD.out)
        go_wp2
        go_ret
        exact ⟨ret_bool HX.out.symm, _, rfl⟩
  · have HX := Lib.hid (p := (xs == ys) = false) (by rw [beq_eq_false_iff_ne]; rintro rfl; exact hnm (hn.symm.trans hm))
    have H1 := Lib.hid hn; clear hn
    have H2 := Lib.hid hm; clear hm
    have hb : ((n : Int) != (m : Int)) = true := by simp; omega
    go_enter Try.func19, Try.ntmps19
    go_wp2
    go_ret
    exact ⟨ret_bool HX.out.symm, 0, rfl⟩
set_option maxHeartbeats 400000 in
theorem refInts_any {w : World} {A B : Option Addr} {n c m d : Nat} {xs ys : List Int} (h : Ints w A n xs) (g : Ints w B m ys) :
    Calls Try.prog 23 #[.slice A n c, .slice B m d] w fun e w' => e = .returned (.bool (xs == ys)) ∧ ∃ k, w' = w.drewN k := by
  have hn := h.len
  have hm := g.len
  have hle := h.le
  have hme := g.le
  by_cases hnm : n = m
  · subst hnm
    have H1 := Lib.hid hn; clear hn
    have H2 := Lib.hid hm; clear hm
    go_enter Try.func23, Try.ntmps23
    go_wp2
    go_loopw [5] (fun i wr => ∃ k : Nat, k ≤ n ∧ i = .int .i64 k ∧ xs.take k = ys.take k ∧ ∃ q, wr = w.drewN q) (fun i _ => n - (intOf i).toNat)
    case atStart => exact ⟨0, Nat.zero_le _, rfl, rfl, 0, rfl⟩
    case round =>
      obtain ⟨k, hk, rfl, hd, q, rfl⟩ := hrel
      have HD := Lib.hid hd; clear hd
      by_cases hlt : k < n
      · obtain ⟨ad, x, rfl, hb, hx, hc, hf⟩ := h.at_ hlt
        obtain ⟨bd, y, rfl, hb', hy, hc', hf'⟩ := g.at_ hlt
        have H := Lib.hid hx; clear hx
        have G := Lib.hid hy; clear hy
        by_cases hxy : x = y
        · subst hxy
          go_wp2
          go_quiet (fail)
          go_wp2
          go_roundw
          case rel => exact ⟨k + 1, by omega, by go_num, take_same H.out G.out HD.out, _, rfl⟩
          case measure => simp [intOf]; omega
        · have HX := Lib.hid (ne_of_at H.out G.out hxy)
          have hb : (x != y) = true := by simpa using hxy
          go_wp2
          go_quiet (fail)
          go_wp2
          go_ret
          exact ⟨ret_bool HX.out.symm, _, World.drewN_drewN _ _ _⟩
      · have HX := Lib.hid (eq_of_take H1.out H2.out (by omega) HD.out)
        go_wp2
        go_ret
        exact ⟨ret_bool HX.out.symm, _, rfl⟩
  · have HX := Lib.hid (p := (xs == ys) = false) (by rw [beq_eq_false_iff_ne]; rintro rfl; exact hnm (hn.symm.trans hm))
    have H1 := Lib.hid hn; clear hn
    have H2 := Lib.hid hm; clear hm
    have hb : ((n : Int) != (m : Int)) = true := by simp; omega
    go_enter Try.func23, Try.ntmps23
    go_wp2
    go_ret
    exact ⟨ret_bool HX.out.symm, 0, rfl⟩

set_option maxHeartbeats 400000 in
theorem refIndex_any {w : World} {A B : Option Addr} {n c m d : Nat} {xs ys : List Int} (h : Ints w A n xs) (g : Ints w B m ys) :
    Calls Try.prog 21 #[.slice A n c, .slice B m d] w fun e w' => e = .returned (.int .i64 (Sh.index xs ys)) ∧ ∃ k, w' = w.drewN k := by
  have hn := h.len
  have hm := g.len
  have hle := h.le
  have hme := g.le
  cases hr : Sh.right xs with
  | false =>
    have HX := Lib.hid (Sh.index_right (p := ys) hr)
    have HR := Lib.hid hr; clear hr
    have H1 := Lib.hid hn; clear hn
    have H2 := Lib.hid hm; clear hm
    go_enter Try.func21, Try.ntmps21
    go_wp2_with (go_at_call 17; refine (refRight_any h).mono ?_; rw [HR.out]; rintro e w' ⟨rfl, rfl⟩)
    go_ret
    exact ⟨ret_int HX.out.symm, 0, rfl⟩
  | true =>
    have H1 := Lib.hid hn; clear hn
    have H2 := Lib.hid hm; clear hm
    by_cases hnm : m = n
    · have HR := Lib.hid hr; clear hr
      subst hnm
      go_enter Try.func21, Try.ntmps21
      go_wp2_with (go_at_call 17; refine (refRight_any h).mono ?_; rw [HR.out]; rintro e w' ⟨rfl, rfl⟩)
      go_loopw [5, 6] (fun p i wr => ∃ k : Nat, k ≤ m ∧ i = .int .i64 k ∧ p = .int .i64 (Sh.hor (xs.take k) (ys.take k)) ∧ Sh.within (xs.take k) (ys.take k) = true ∧ ∃ q, wr = w.drewN q) (fun _ i _ => m - (intOf i).toNat)
      case atStart => exact ⟨0, Nat.zero_le _, rfl, rfl, rfl, 0, rfl⟩
      case round =>
        obtain ⟨k, hk, rfl, rfl, hd, q, rfl⟩ := hrel
        have HD := Lib.hid hd; clear hd
        by_cases hlt : k < m
        · obtain ⟨ad, x, rfl, hb, hx, hc, hf⟩ := h.at_ hlt
          obtain ⟨bd, y, rfl, hb', hy, hc', hf'⟩ := g.at_ hlt
          have H := Lib.hid hx; clear hx
          have G := Lib.hid hy; clear hy
          by_cases hy0 : 0 ≤ y ∧ y < x
          · obtain ⟨hy1, hy2⟩ := hy0
            have hw := Lib.hid (p := Sh.within (xs.take (k + 1)) (ys.take (k + 1)) = true) (by rw [Sh.within_take H.out G.out, HD.out]; simp [hy1, hy2])
            have hs := Sh.hor_small HR.out (H1.out.trans H2.out.symm) (k + 1) hw.out
            rw [Sh.hor_take H.out G.out] at hs
            obtain ⟨hs1, hs2⟩ := hs
            have hs' := Sh.hor_small HR.out (H1.out.trans H2.out.symm) k HD.out
            have hp0 : 0 ≤ Sh.hor (xs.take k) (ys.take k) * x := Int.mul_nonneg hs'.1 (by omega)
            have hp1 : Sh.hor (xs.take k) (ys.take k) * x ≤ 1048576 := by omega
            clear hs'
            have hd1 : decide (y < 0) = false := by simp; omega
            have hd2 : decide (x ≤ y) = false := by simp; omega
            go_wp2
            go_quiet (fail)
            go_wp2
            go_quiet (fail)
            go_wp2
            go_roundw
            case rel => exact ⟨k + 1, by omega, by go_num, by rw [Sh.hor_take H.out G.out], hw.out, _, rfl⟩
            case measure => simp [intOf]; omega
          · have HX := Lib.hid (Sh.index_out H.out G.out hy0)
            by_cases hy1 : y < 0
            · have hd1 : decide (y < 0) = true := by simpa using hy1
              go_wp2
              go_quiet (fail)
              go_wp2
              go_ret
              exact ⟨ret_int HX.out.symm, _, World.drewN_drewN _ _ _⟩
            · have hy2 : x ≤ y := by omega
              have hd1 : decide (y < 0) = false := by simpa using hy1
              have hd2 : decide (x ≤ y) = true := by simpa using hy2
              go_wp2
              go_quiet (fail)
              go_wp2
              go_ret
              exact ⟨ret_int HX.out.symm, _, World.drewN_drewN _ _ _⟩
        · have ht : xs.take k = xs := List.take_of_length_le (by have := H1.out; omega)
          have ht' : ys.take k = ys := List.take_of_length_le (by have := H2.out; omega)
          have hd := HD.out
          rw [ht, ht'] at hd ⊢
          have HX := Lib.hid (Sh.index_of HR.out (H2.out.trans H1.out.symm) hd)
          clear ht ht' hd
          go_wp2
          go_ret
          exact ⟨ret_int HX.out.symm, _, rfl⟩
    · have HX := Lib.hid (Sh.index_len (s := xs) (p := ys) (by have := H1.out; have := H2.out; omega))
      have hb : ((m : Int) != (n : Int)) = true := by simp; omega
      have HR := Lib.hid hr; clear hr
      go_enter Try.func21, Try.ntmps21
      go_wp2_with (go_at_call 17; refine (refRight_any h).mono ?_; rw [HR.out]; rintro e w' ⟨rfl, rfl⟩)
      go_ret
      exact ⟨ret_int HX.out.symm, 0, rfl⟩
end Go.Proofs.Ytjmioegagigpmaa
