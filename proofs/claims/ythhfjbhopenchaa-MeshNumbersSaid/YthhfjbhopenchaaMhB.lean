/- More on devices: steps and groups. No Go in them. -/
import Derived.Test.YthhfjbhopenchaaMh
namespace Go.Proofs.Ythhfjbhopenchaa
open Go.RowKit
namespace Mh

theorem tmod_emod' (y n : Int) : y.tmod n % n = y % n := by
  have h := Int.mul_tdiv_add_tmod y n
  have e : y = y.tmod n + n * y.tdiv n := by omega
  conv => rhs; rw [e]
  rw [Int.add_mul_emod_self_left]
theorem turn_emod {x b n : Int} (hn : 0 < n) : turn x b n = (x + b) % n := by
  unfold turn
  obtain ⟨h1, h2, _⟩ := tmod_bd (a := x + b.tmod n) hn
  rw [Int.tmod_eq_emod_of_nonneg (by omega), Int.add_emod_right, tmod_emod', Int.add_emod, tmod_emod', ← Int.add_emod]
theorem turn_back {x b n : Int} (h0 : 0 ≤ x) (h1 : x < n) : turn (turn x b n) (-b) n = x := by
  have hn : 0 < n := by omega
  rw [turn_emod hn, turn_emod hn, Int.emod_add_emod, show x + b + -b = x by omega, Int.emod_eq_of_lt h0 h1]
theorem turn_round {x b n : Int} (hn : 0 < n) : turn x (b + n) n = turn x b n := by
  rw [turn_emod hn, turn_emod hn, show x + (b + n) = x + b + n by omega, Int.add_emod_right]
theorem turn_bd {x b n : Int} (hn : 0 < n) : 0 ≤ turn x b n ∧ turn x b n < n := by
  rw [turn_emod hn]; exact ⟨Int.emod_nonneg _ (by omega), Int.emod_lt_of_pos _ hn⟩
end Mh
end Go.Proofs.Ythhfjbhopenchaa
