/- Contracts of the reference's and the book's functions on shapes. -/
import Derived.Test.YtmekkhegokcpoaaRows
import Derived.Test.YtmekkhegokcpoaaShape
import Derived.Test.YtmekkhegokcpoaaKit
import Derived.Test.YtmekkhegokcpoaaShapeMath
namespace Go.Proofs.Ytmekkhegokcpoaa
open Go.RowKit

set_option maxHeartbeats 400000 in
theorem refRight_any {w : World} {A : Option Addr} {n c : Nat} {xs : List Int} (h : Ints w A n xs) :
    Calls Try.prog 36 #[.slice A n c] w fun e w' => e = .returned (.bool (Sh.right xs)) ∧ w = w' := by
  have hn := h.len
  have hle := h.le
  go_enter Try.func36, Try.ntmps36
  go_wp2
  go_loop [3, 4] (fun p i => ∃ k : Nat, k ≤ n ∧ k ≤ 4 ∧ i = .int .i64 k ∧ p = .int .i64 (Sh.pr (xs.take k)) ∧ ∀ x ∈ xs.take k, 0 ≤ x ∧ x ≤ 32) (fun _ i => n - (intOf i).toNat)
  case atStart => exact ⟨0, Nat.zero_le _, Nat.zero_le _, rfl, rfl, by simp⟩
  case round =>
    obtain ⟨k, hk, hk4, rfl, rfl, hd⟩ := hrel
    have H2 := Lib.hid hn; clear hn
    by_cases hlt : k < n
    · obtain ⟨ad, x, rfl, hb, hx, hc, hf⟩ := h.at_ hlt
      have H := Lib.hid hx; clear hx
      have HD := Lib.hid hd; clear hd
      by_cases hx0 : 0 ≤ x ∧ x ≤ 32
      · obtain ⟨hx1, hx2⟩ := hx0
        by_cases hk3 : k < 4
        · have hall : ∀ y ∈ xs.take (k + 1), 0 ≤ y ∧ y ≤ 32 := by
            intro y hy
            rw [List.take_add_one, H.out] at hy
            simp at hy
            rcases hy with hy | rfl
            · exact HD.out y hy
            · exact ⟨hx1, hx2⟩
          have hm := Sh.pr_small (xs.take (k + 1)) hall (by have := H2.out; simp; omega)
          rw [Sh.pr_take _ H.out] at hm
          obtain ⟨hm1, hm2⟩ := hm
          have HA := Lib.hid hall; clear hall
          go_wp2
          go_round
          case rel => exact ⟨k + 1, by omega, by omega, by go_num, by rw [Sh.pr_take _ H.out], HA.out⟩
          case measure => simp [intOf]; omega
        · have HR := Lib.hid (Sh.not_right_long (s := xs) (by have := H2.out; omega))
          go_wp2
          go_ret
          exact ⟨ret_bool HR.out.symm, rfl⟩
      · have HR := Lib.hid (Sh.not_right_dim H.out hx0)
        by_cases hx1 : x < 0
        · go_wp2
          go_ret
          exact ⟨ret_bool HR.out.symm, rfl⟩
        · have hx2 : 32 < x := by omega
          go_wp2
          go_ret
          exact ⟨ret_bool HR.out.symm, rfl⟩
    · have hkn : k = n := by omega
      have ht : xs.take k = xs := List.take_of_length_le (by have := H2.out; omega)
      rw [ht] at hd ⊢
      have hb := Sh.pr_small xs hd (by have := H2.out; omega)
      have HR := Lib.hid (Sh.right_small (by have := H2.out; omega) hd)
      have HD := Lib.hid hd; clear hd
      have HT := Lib.hid ht; clear ht
      have HK := Lib.hid hkn; clear hkn
      go_wp2
      go_ret
      exact ⟨ret_bool HR.out.symm, rfl⟩

set_option maxHeartbeats 400000 in
theorem refSize_any {w : World} {A : Option Addr} {n c : Nat} {xs : List Int} (h : Ints w A n xs) :
    Calls Try.prog 29 #[.slice A n c] w fun e w' => e = .returned (.int .i64 (Sh.size xs)) ∧ w = w' := by
  have hn := h.len
  have hle := h.le
  cases hr : Sh.right xs with
  | false =>
    have H2 := Lib.hid hn; clear hn
    have HR := Lib.hid hr; clear hr
    go_enter Try.func29, Try.ntmps29
    go_wp2_with (go_at_call 36; refine (refRight_any h).mono ?_; rw [HR.out]; rintro e w' ⟨rfl, rfl⟩)
    go_ret
    exact ⟨ret_int (Sh.size_not HR.out).symm, rfl⟩
  | true =>
    obtain ⟨hl4, hd, hbig⟩ := Sh.right_iff.1 hr
    have H2 := Lib.hid hn; clear hn
    have HR := Lib.hid hr; clear hr
    have HD := Lib.hid hd; clear hd
    go_enter Try.func29, Try.ntmps29
    go_wp2_with (go_at_call 36; refine (refRight_any h).mono ?_; rw [HR.out]; rintro e w' ⟨rfl, rfl⟩)
    go_loop [3, 4] (fun p i => ∃ k : Nat, k ≤ n ∧ i = .int .i64 k ∧ p = .int .i64 (Sh.pr (xs.take k))) (fun _ i => n - (intOf i).toNat)
    case atStart => exact ⟨0, Nat.zero_le _, rfl, rfl⟩
    case round =>
      obtain ⟨k, hk, rfl, rfl⟩ := hrel
      by_cases hlt : k < n
      · obtain ⟨ad, x, rfl, hb, hx, hc, hf⟩ := h.at_ hlt
        have hm := Sh.pr_small (xs.take (k + 1)) (fun y hy => HD.out y (List.mem_of_mem_take hy)) (by have := H2.out; simp; omega)
        rw [Sh.pr_take _ hx] at hm
        obtain ⟨hm1, hm2⟩ := hm
        have H := Lib.hid hx; clear hx
        go_wp2
        go_round
        case rel => exact ⟨k + 1, by omega, by go_num, by rw [Sh.pr_take _ H.out]⟩
        case measure => simp [intOf]; omega
      · have ht : xs.take k = xs := List.take_of_length_le (by have := H2.out; omega)
        rw [ht]
        have HT := Lib.hid ht; clear ht
        go_wp2
        go_ret
        exact ⟨ret_int (Sh.size_of HR.out).symm, rfl⟩


set_option maxHeartbeats 400000 in
theorem refInts_any {w : World} {A B : Option Addr} {n c m d : Nat} {xs ys : List Int} (h : Ints w A n xs) (g : Ints w B m ys) :
    Calls Try.prog 30 #[.slice A n c, .slice B m d] w fun e w' => e = .returned (.bool (xs == ys)) ∧ ∃ k, w' = w.drewN k := by
  have hn := h.len
  have hm := g.len
  have hle := h.le
  have hme := g.le
  by_cases hnm : n = m
  · subst hnm
    have H1 := Lib.hid hn; clear hn
    have H2 := Lib.hid hm; clear hm
    go_enter Try.func30, Try.ntmps30
    go_wp2
    go_loopw [5] (fun i wr => ∃ k : Nat, k ≤ n ∧ i = .int .i64 k ∧ xs.take k = ys.take k ∧ ∃ q, wr = w.drewN q) (fun i _ => n - (intOf i).toNat)
    case atStart => exact ⟨0, Nat.zero_le _, rfl, rfl, 0, rfl⟩
    case round =>
      obtain ⟨k, hk, rfl, hd, q, rfl⟩ := hrel
      have HD := Lib.hid hd; clear hd
      by_cases hlt : k < n
      · obtain ⟨ad, x, rfl, hb, hx, hc, hf⟩ := h.at_ hlt
        obtain ⟨bd, y, rfl, hb', hy, hc', hf'⟩ := g.at_ hlt
        have H := Lib.hid hx; clear hx
        have G := Lib.hid hy; clear hy
        by_cases hxy : x = y
        · subst hxy
          go_wp2
          go_quiet (fail)
          go_wp2
          go_roundw
          case rel => exact ⟨k + 1, by omega, by go_num, take_same H.out G.out HD.out, _, rfl⟩
          case measure => simp [intOf]; omega
        · have HX := Lib.hid (ne_of_at H.out G.out hxy)
          have hb : (x != y) = true := by simpa using hxy
          go_wp2
          go_quiet (fail)
          go_wp2
          go_ret
          exact ⟨ret_bool HX.out.symm, _, World.drewN_drewN _ _ _⟩
      · have HX := Lib.hid (eq_of_take H1.out H2.out (by omega) HD.out)
        go_wp2
        go_ret
        exact ⟨ret_bool HX.out.symm, _, rfl⟩
  · have HX := Lib.hid (p := (xs == ys) = false) (by rw [beq_eq_false_iff_ne]; rintro rfl; exact hnm (hn.symm.trans hm))
    have H1 := Lib.hid hn; clear hn
    have H2 := Lib.hid hm; clear hm
    have hb : ((n : Int) != (m : Int)) = true := by simp; omega
    go_enter Try.func30, Try.ntmps30
    go_wp2
    go_ret
    exact ⟨ret_bool HX.out.symm, 0, rfl⟩





end Go.Proofs.Ytmekkhegokcpoaa
