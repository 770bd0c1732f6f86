/- What holds of the eleven meshes of stage 14's laws. -/
import Derived.Test.YthhfjbhopenchaaMhB
namespace Go.Proofs.Ythhfjbhopenchaa
open Go.RowKit

def elevenM : List (List Int) := [[], [1], [2], [8], [2, 4], [4, 2], [2, 2, 2], [1, 3], [3, 2], [1, 1, 1], [2, 1, 3]]
theorem eleven_right : ∀ s ∈ elevenM, Mh.right s = true ∧ 1 ≤ Mh.size s ∧ s.length ≤ 3 := by decide +kernel
theorem eleven_group : ∀ s ∈ elevenM, ∀ k ∈ List.range 8, ∀ a ∈ List.range 3, (k : Int) < Mh.size s → a < s.length →
    ((Mh.group s k a).length : Int) = s.getD a 0 ∧ (Mh.group s k a).count (k : Int) = 1 ∧ (Mh.group s k a).all (fun x => decide (0 ≤ x) && decide (x < Mh.size s) && decide (Mh.group s x a = Mh.group s k a)) = true := by decide +kernel
theorem eleven_at : ∀ s ∈ elevenM, ∀ k ∈ List.range 8, ∀ a ∈ List.range 3, (k : Int) < Mh.size s → a < s.length →
    ((List.range 8).all fun j => decide (j < (Mh.group s k a).length → (Sh.place s ((Mh.group s k a).getD j 0)).getD a 0 = (j : Int))) = true := by decide +kernel
theorem eleven_more : ∀ s ∈ elevenM, s.length < 3 → Mh.right (1 :: s) = true ∧ Mh.size (1 :: s) = Mh.size s ∧ ((List.range 8).all fun k => decide ((k : Int) < Mh.size s → Mh.placeOf (1 :: s) k = 0 :: Mh.placeOf s k)) = true := by decide +kernel
theorem eleven_apart : ∀ s ∈ elevenM, ∀ d ∈ List.range 8, ∀ e ∈ List.range 8, (d : Int) < Mh.size s → e < d → Mh.placeOf s d ≠ Mh.placeOf s e := by decide +kernel
end Go.Proofs.Ythhfjbhopenchaa
