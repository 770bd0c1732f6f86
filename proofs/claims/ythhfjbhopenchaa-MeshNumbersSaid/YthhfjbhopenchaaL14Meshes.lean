/- The law function meshes of stage 14. -/
import Derived.Test.YthhfjbhopenchaaL14Known
import Derived.Test.YthhfjbhopenchaaSepL
namespace Go.Proofs.Ythhfjbhopenchaa
open Go.RowKit

def meshes14 : List (List Int) := [[], [1], [2], [8], [2, 4], [4, 2], [2, 2, 2], [1, 3], [3, 2], [1, 1, 1], [2, 1, 3]]
/-- A list of meshes. -/
def IsMeshes (w : World) (v : Value) : Prop :=
  ∃ g, v = .slice (some ⟨g, 0, none⟩) 11 11 ∧ g < w.heap.size ∧ ∀ (j : Nat) (s : List Int), meshes14[j]? = some s → ∃ B c, w.cell? ⟨g, j, none⟩ = some (.slice B s.length c) ∧ s.length ≤ c ∧ Ints w B s.length s
set_option maxRecDepth 100000 in
set_option maxHeartbeats 6400000 in
theorem l14meshes_any (w : World) : Calls Try.prog 7 #[] w fun e w' => (∃ v, e = .returned v ∧ IsMeshes w' v) ∧ Below w.heap.size w w' := by
  have h1 := (Sep.nil w).litL 3 #[.int .i64 1] [1] 1 (w.heap.size) (by simp) rfl (by decide)
  have h2 := h1.litL 3 #[.int .i64 2] [2] 1 (w.heap.size + 1) (by simp) rfl (by decide)
  have h3 := h2.litL 3 #[.int .i64 8] [8] 1 (w.heap.size + 1 + 1) (by simp) rfl (by decide)
  have h4 := h3.litL 3 #[.int .i64 2, .int .i64 4] [2, 4] 2 (w.heap.size + 1 + 1 + 1) (by simp) rfl (by decide)
  have h5 := h4.litL 3 #[.int .i64 4, .int .i64 2] [4, 2] 2 (w.heap.size + 1 + 1 + 1 + 1) (by simp) rfl (by decide)
  have h6 := h5.litL 3 #[.int .i64 2, .int .i64 2, .int .i64 2] [2, 2, 2] 3 (w.heap.size + 1 + 1 + 1 + 1 + 1) (by simp) rfl (by decide)
  have h7 := h6.litL 3 #[.int .i64 1, .int .i64 3] [1, 3] 2 (w.heap.size + 1 + 1 + 1 + 1 + 1 + 1) (by simp) rfl (by decide)
  have h8 := h7.litL 3 #[.int .i64 3, .int .i64 2] [3, 2] 2 (w.heap.size + 1 + 1 + 1 + 1 + 1 + 1 + 1) (by simp) rfl (by decide)
  have h9 := h8.litL 3 #[.int .i64 1, .int .i64 1, .int .i64 1] [1, 1, 1] 3 (w.heap.size + 1 + 1 + 1 + 1 + 1 + 1 + 1 + 1) (by simp) rfl (by decide)
  have h10 := h9.litL 3 #[.int .i64 2, .int .i64 1, .int .i64 3] [2, 1, 3] 3 (w.heap.size + 1 + 1 + 1 + 1 + 1 + 1 + 1 + 1 + 1) (by simp) rfl (by decide)
  have hB := h10.allocBox (w.heap.size + 1 + 1 + 1 + 1 + 1 + 1 + 1 + 1 + 1 + 1) 24 [.slice none 0 0, .slice (some ⟨w.heap.size, 0, none⟩) 1 1, .slice (some ⟨w.heap.size + 1, 0, none⟩) 1 1, .slice (some ⟨w.heap.size + 1 + 1, 0, none⟩) 1 1, .slice (some ⟨w.heap.size + 1 + 1 + 1, 0, none⟩) 2 2, .slice (some ⟨w.heap.size + 1 + 1 + 1 + 1, 0, none⟩) 2 2, .slice (some ⟨w.heap.size + 1 + 1 + 1 + 1 + 1, 0, none⟩) 3 3, .slice (some ⟨w.heap.size + 1 + 1 + 1 + 1 + 1 + 1, 0, none⟩) 2 2, .slice (some ⟨w.heap.size + 1 + 1 + 1 + 1 + 1 + 1 + 1, 0, none⟩) 2 2, .slice (some ⟨w.heap.size + 1 + 1 + 1 + 1 + 1 + 1 + 1 + 1, 0, none⟩) 3 3, .slice (some ⟨w.heap.size + 1 + 1 + 1 + 1 + 1 + 1 + 1 + 1 + 1, 0, none⟩) 3 3] (by simp)
  have H := Lib.hid hB
  clear hB h1 h2 h3 h4 h5 h6 h7 h8 h9 h10
  go_enter Try.func7, Try.ntmps7
  go_wp2
  go_ret
  refine ⟨⟨_, rfl, _, rfl, (H.out.blockLt 0 rfl).2, fun j s hj => ?_⟩, H.out.base⟩
  match j, hj with
  | 0, hj => injection hj with hj; subst hj; exact ⟨_, _, H.out.cell 0 0 rfl rfl, Nat.le_refl _, Ints.nil_ _ _⟩
  | 1, hj => injection hj with hj; subst hj; exact ⟨_, _, H.out.cell 0 1 rfl rfl, Nat.le_refl _, (H.out.ownInts 10 rfl).2.2⟩
  | 2, hj => injection hj with hj; subst hj; exact ⟨_, _, H.out.cell 0 2 rfl rfl, Nat.le_refl _, (H.out.ownInts 9 rfl).2.2⟩
  | 3, hj => injection hj with hj; subst hj; exact ⟨_, _, H.out.cell 0 3 rfl rfl, Nat.le_refl _, (H.out.ownInts 8 rfl).2.2⟩
  | 4, hj => injection hj with hj; subst hj; exact ⟨_, _, H.out.cell 0 4 rfl rfl, Nat.le_refl _, (H.out.ownInts 7 rfl).2.2⟩
  | 5, hj => injection hj with hj; subst hj; exact ⟨_, _, H.out.cell 0 5 rfl rfl, Nat.le_refl _, (H.out.ownInts 6 rfl).2.2⟩
  | 6, hj => injection hj with hj; subst hj; exact ⟨_, _, H.out.cell 0 6 rfl rfl, Nat.le_refl _, (H.out.ownInts 5 rfl).2.2⟩
  | 7, hj => injection hj with hj; subst hj; exact ⟨_, _, H.out.cell 0 7 rfl rfl, Nat.le_refl _, (H.out.ownInts 4 rfl).2.2⟩
  | 8, hj => injection hj with hj; subst hj; exact ⟨_, _, H.out.cell 0 8 rfl rfl, Nat.le_refl _, (H.out.ownInts 3 rfl).2.2⟩
  | 9, hj => injection hj with hj; subst hj; exact ⟨_, _, H.out.cell 0 9 rfl rfl, Nat.le_refl _, (H.out.ownInts 2 rfl).2.2⟩
  | 10, hj => injection hj with hj; subst hj; exact ⟨_, _, H.out.cell 0 10 rfl rfl, Nat.le_refl _, (H.out.ownInts 1 rfl).2.2⟩
  | j + 11, hj => simp [meshes14] at hj
end Go.Proofs.Ythhfjbhopenchaa
