/- Contracts of package shape. -/
import Derived.Test.YtihjobpdphljiaaRows
import Derived.Test.YtihjobpdphljiaaKit
import Derived.Test.YtihjobpdphljiaaShapeMath
namespace Go.Proofs.Ytihjobpdphljiaa
open Go.RowKit

theorem Try.infoInt : (Try.prog.info? 3).map (fun i => (i.zero, i.size, i.bytes)) = some (some (.int .i64 0), 1, 8) := by kernel_rfl

set_option maxHeartbeats 400000 in
theorem product_any {w : World} {A : Option Addr} {n c : Nat} {xs : List Int} (h : Ints w A n xs) :
    Calls Try.prog 39 #[.slice A n c] w fun e w' => e = .returned (.tuple #[.int .i64 (Sh.size xs), .bool (Sh.right xs)]) ∧ w = w' := by
  have hn := h.len
  have hle := h.le
  by_cases h4 : n ≤ 4
  · go_enter Try.func39, Try.ntmps39
    go_wp2
    go_loop [4, 12] (fun p i => ∃ k : Nat, k ≤ n ∧ i = .int .i64 k ∧ p = .int .i64 (Sh.pr (xs.take k)) ∧ ∀ x ∈ xs.take k, 0 ≤ x ∧ x ≤ 32) (fun _ i => n - (intOf i).toNat)
    case atStart => exact ⟨0, Nat.zero_le _, rfl, rfl, by simp⟩
    case round =>
      obtain ⟨k, hk, rfl, rfl, hd⟩ := hrel
      have H2 := Lib.hid hn; clear hn
      by_cases hlt : k < n
      · obtain ⟨ad, x, rfl, hb, hx, hc, hf⟩ := h.at_ hlt
        have H := Lib.hid hx; clear hx
        have HD := Lib.hid hd; clear hd
        by_cases hx0 : 0 ≤ x ∧ x ≤ 32
        · obtain ⟨hx1, hx2⟩ := hx0
          have hall : ∀ y ∈ xs.take (k + 1), 0 ≤ y ∧ y ≤ 32 := by
            intro y hy
            rw [List.take_add_one, H.out] at hy
            simp at hy
            rcases hy with hy | rfl
            · exact HD.out y hy
            · exact ⟨hx1, hx2⟩
          have hm := Sh.pr_small (xs.take (k + 1)) hall (by have := H2.out; simp; omega)
          rw [Sh.pr_take _ H.out] at hm
          obtain ⟨hm1, hm2⟩ := hm
          have HA := Lib.hid hall; clear hall
          go_wp2
          go_round
          case rel => exact ⟨k + 1, by omega, by go_num, by rw [Sh.pr_take _ H.out], HA.out⟩
          case measure => simp [intOf]; omega
        · have hr := Sh.not_right_dim H.out hx0
          have HR := Lib.hid hr; clear hr
          by_cases hx1 : x < 0
          · go_wp2
            go_ret2
            exact ⟨ret_ib (Sh.size_not HR.out).symm HR.out.symm, rfl⟩
          · have hx2 : 32 < x := by omega
            go_wp2
            go_ret2
            exact ⟨ret_ib (Sh.size_not HR.out).symm HR.out.symm, rfl⟩
      · have hkn : k = n := by omega
        have ht : xs.take k = xs := List.take_of_length_le (by have := H2.out; omega)
        rw [ht] at hd ⊢
        have hb := Sh.pr_small xs hd (by have := H2.out; omega)
        have HD := Lib.hid hd; clear hd
        have HT := Lib.hid ht; clear ht
        have HK := Lib.hid hkn; clear hkn
        by_cases hbig : Sh.pr xs ≤ 4096
        · have hr : Sh.right xs = true := Sh.right_iff.2 ⟨by have := H2.out; omega, HD.out, hbig⟩
          have HR := Lib.hid hr; clear hr
          go_wp2
          go_ret2
          exact ⟨ret_ib (Sh.size_of HR.out).symm HR.out.symm, rfl⟩
        · have hr : Sh.right xs = false := Sh.not_right_big hbig
          have HR := Lib.hid hr; clear hr
          go_wp2
          go_ret2
          exact ⟨ret_ib (Sh.size_not HR.out).symm HR.out.symm, rfl⟩
  · have hr : Sh.right xs = false := Sh.not_right_long (by omega)
    have HR := Lib.hid hr; clear hr
    have H2 := Lib.hid hn; clear hn
    go_enter Try.func39, Try.ntmps39
    go_wp2
    go_ret2
    exact ⟨ret_ib (Sh.size_not HR.out).symm HR.out.symm, rfl⟩

theorem right_any {w : World} {A : Option Addr} {n c : Nat} {xs : List Int} (h : Ints w A n xs) :
    Calls Try.prog 35 #[.slice A n c] w fun e w' => e = .returned (.bool (Sh.right xs)) ∧ w = w' := by
  go_enter Try.func35, Try.ntmps35
  go_wp2_with (go_at_call 39; refine (product_any h).mono ?_; rintro e w' ⟨rfl, rfl⟩)
  go_ret
  exact ⟨rfl, rfl⟩

theorem size_any {w : World} {A : Option Addr} {n c : Nat} {xs : List Int} (h : Ints w A n xs) :
    Calls Try.prog 31 #[.slice A n c] w fun e w' => e = .returned (.int .i64 (Sh.size xs)) ∧ w = w' := by
  go_enter Try.func31, Try.ntmps31
  go_wp2_with (go_at_call 39; refine (product_any h).mono ?_; rintro e w' ⟨rfl, rfl⟩)
  go_ret
  exact ⟨rfl, rfl⟩


set_option maxHeartbeats 400000 in
theorem same_any {w : World} {A B : Option Addr} {n c m d : Nat} {xs ys : List Int} (h : Ints w A n xs) (g : Ints w B m ys) :
    Calls Try.prog 36 #[.slice A n c, .slice B m d] w fun e w' => e = .returned (.bool (xs == ys)) ∧ w = w' := by
  have hn := h.len
  have hm := g.len
  have hle := h.le
  have hme := g.le
  by_cases hnm : n = m
  · subst hnm
    have H1 := Lib.hid hn; clear hn
    have H2 := Lib.hid hm; clear hm
    go_enter Try.func36, Try.ntmps36
    go_wp2
    go_loop [14] (fun i => ∃ k : Nat, k ≤ n ∧ i = .int .i64 k ∧ xs.take k = ys.take k) (fun i => n - (intOf i).toNat)
    case atStart => exact ⟨0, Nat.zero_le _, rfl, rfl⟩
    case round =>
      obtain ⟨k, hk, rfl, hd⟩ := hrel
      have HD := Lib.hid hd; clear hd
      by_cases hlt : k < n
      · obtain ⟨ad, x, rfl, hb, hx, hc, hf⟩ := h.at_ hlt
        obtain ⟨bd, y, rfl, hb', hy, hc', hf'⟩ := g.at_ hlt
        have H := Lib.hid hx; clear hx
        have G := Lib.hid hy; clear hy
        by_cases hxy : x = y
        · subst hxy
          go_wp2
          go_round
          case rel => exact ⟨k + 1, by omega, by go_num, take_same H.out G.out HD.out⟩
          case measure => simp [intOf]; omega
        · have HX := Lib.hid (ne_of_at H.out G.out hxy)
          have hb : (x != y) = true := by simpa using hxy
          go_wp2
          go_ret
          exact ⟨ret_bool HX.out.symm, rfl⟩
      · have HX := Lib.hid (eq_of_take H1.out H2.out (by omega) HD.out)
        go_wp2
        go_ret
        exact ⟨ret_bool HX.out.symm, rfl⟩
  · have HX := Lib.hid (p := (xs == ys) = false) (by rw [beq_eq_false_iff_ne]; rintro rfl; exact hnm (hn.symm.trans hm))
    have H1 := Lib.hid hn; clear hn
    have H2 := Lib.hid hm; clear hm
    have hb : ((n : Int) != (m : Int)) = true := by simp; omega
    go_enter Try.func36, Try.ntmps36
    go_wp2
    go_ret
    exact ⟨ret_bool HX.out.symm, rfl⟩



end Go.Proofs.Ytihjobpdphljiaa
