/- Mathematics of the laws WindowCounts, WindowOnes. No Go in it. -/
import Derived.Test.YtiigbkjkmfjhcaaWn
import Derived.Test.YtiigbkjkmfjhcaaFdB
namespace Go.Proofs.Ytiigbkjkmfjhcaa
open Go.RowKit

/-! Columns of two. -/
theorem right_cols {n : Nat} (hn : n ≤ 20) : Sh.right [(n : Int), 2] = true := Sh.right_iff.2 ⟨by simp, fun x hx => by simp at hx; omega, by simp [Sh.pr]; omega⟩
theorem size_cols {n : Nat} (hn : n ≤ 20) : Sh.size [(n : Int), 2] = ((2 * n : Nat) : Int) := by
  rw [Sh.size_of (right_cols hn)]; simp [Sh.pr]; omega
theorem winS_cols (n : Int) (w a : Int) : winS [n, 2] 0 w a = [winN n w a, 2] := rfl
theorem winB_cols (n : Int) : winB [n, 2] 0 = 2 := by simp [winB, Sh.pd]
theorem winN_nat {n : Nat} {w a : Int} : ∃ k : Nat, winN (n : Int) w a = k ∧ k ≤ n := by
  have h := winN_bd (n := (n : Int)) (wide := w) (apart := a)
  obtain ⟨k, hk⟩ := Int.eq_ofNat_of_zero_le h.1
  exact ⟨k, hk, by have := h.2 (by omega); omega⟩
theorem winD_cols {how : Int} {n k : Nat} {w a : Int} (hn : n ≤ 20) (hk : winN (n : Int) w a = k) (hkn : k ≤ n) (d : List Int) : winD how [(n : Int), 2] d 0 w a = gen (2 * k) fun i => winV how d n k 2 a.toNat i w.toNat := by
  rw [winD, winS_cols, hk, size_cols (by omega), Int.toNat_natCast]
  refine List.map_congr_left fun i _ => ?_
  show winI how [(n : Int), 2] d 0 w a i w.toNat = _
  rw [winI, winB_cols]
  show winV how d ((n : Int)).toNat (winN (n : Int) w a).toNat 2 a.toNat i w.toNat = _
  rw [hk, Int.toNat_natCast, Int.toNat_natCast]
theorem winAt_cols {n k a i j : Nat} (hi : i < 2 * k) : winAt n k 2 a i j = (i / 2 * a + j) * 2 + i % 2 := by
  have h1 : i / (k * 2) = 0 := Nat.div_eq_of_lt (by omega)
  have h2 : i / 2 % k = i / 2 := Nat.mod_eq_of_lt (by omega)
  rw [winAt, h1, h2, Nat.zero_mul, Nat.zero_add]
theorem winV_ones {n k : Nat} {w a : Int} (hk : winN (n : Int) w a = k) (ha : 1 ≤ a) (hw : w ≤ 32) {i : Nat} (hi : i < 2 * k) : ∀ J : Nat, (J : Int) ≤ w → winV 1 (List.replicate (2 * n) 1) n k 2 a.toNat i J = J
  | 0, _ => rfl
  | J + 1, hJ => by
    have hin := win_in (n := (n : Int)) (wide := w) (apart := a) (r := ((i / 2 : Nat) : Int)) (j := (J : Int)) (by omega) (by rw [hk]; omega) (by omega) (by omega) ha
    obtain ⟨aa, rfl⟩ := Int.eq_ofNat_of_zero_le (show 0 ≤ a by omega)
    rw [← Int.natCast_mul] at hin
    rw [winV, winV_ones hk ha hw hi J (by omega), winAt_cols hi, Int.toNat_natCast, List.getD_eq_getElem?_getD, List.getElem?_replicate, if_pos (by omega)]
    simp only [putF, if_pos, Option.getD_some]
    rw [wrap_fits ⟨by omega, by omega⟩]; omega
/-- Windows of ones are as wide as they are. -/
theorem cols_ones {n k : Nat} {w a : Int} (hn : n ≤ 20) (hk : winN (n : Int) w a = k) (hkn : k ≤ n) (ha : 1 ≤ a) (hw0 : 0 ≤ w) (hw : w ≤ 32) {i : Nat} (hi : i < 2 * k) : (winD 1 [(n : Int), 2] (List.replicate (2 * n) 1) 0 w a)[i]? = some w := by
  rw [winD_cols hn hk hkn, gen_at hi, winV_ones hk ha hw hi w.toNat (by omega)]
  congr 1; omega
/-- Further apart ones are some of those next to each other. -/
theorem cols_pick {n k m : Nat} {w : Int} {a : Nat} (hn : n ≤ 20) (hk : winN (n : Int) w a = k) (hkn : k ≤ n) (hm : winN (n : Int) w 1 = m) (hmn : m ≤ n) (ha : 1 ≤ a) (d : List Int) {r c : Nat} (hr : r < k) (hc : c < 2) :
    2 * r * a + c < 2 * m ∧ (winD 1 [(n : Int), 2] d 0 w a)[2 * r + c]? = (winD 1 [(n : Int), 2] d 0 w 1)[2 * r * a + c]? := by
  have hb : r * a < m := by
    by_cases h : (n : Int) < 0 ∨ w < 1 ∨ (a : Int) < 1 ∨ (n : Int) < w
    · rw [winN_no h] at hk; omega
    · rw [winN_yes h] at hk
      rw [winN_yes (by omega), Int.ediv_one] at hm
      have h1 : (r : Int) * a ≤ ((n : Int) - w) / a * a := Int.mul_le_mul_of_nonneg_right (by omega) (by omega)
      have h2 := Int.ediv_mul_le ((n : Int) - w) (show (a : Int) ≠ 0 by omega)
      rw [← Int.natCast_mul] at h1
      omega
  have e : 2 * r * a = 2 * (r * a) := Nat.mul_assoc _ _ _
  have hi2 : 2 * r * a + c < 2 * m := by omega
  refine ⟨hi2, ?_⟩
  rw [winD_cols hn hk hkn, winD_cols (a := 1) hn hm hmn, gen_at (by omega), gen_at hi2]
  congr 1
  generalize w.toNat = W
  induction W with
  | zero => rfl
  | succ J ih =>
    rw [winV, winV, ih, winAt_cols (by omega), winAt_cols hi2]
    have h1 : (2 * r + c) / 2 = r := by omega
    have h2 : (2 * r + c) % 2 = c := by omega
    have h3 : (2 * r * a + c) / 2 = r * a := by omega
    have h4 : (2 * r * a + c) % 2 = c := by omega
    rw [h1, h2, h3, h4, Int.toNat_natCast]
    show putF 1 _ _ = putF 1 _ (d.getD ((r * a * 1 + J) * 2 + c) 0)
    rw [Nat.mul_one]
end Go.Proofs.Ytiigbkjkmfjhcaa
