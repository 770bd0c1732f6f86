/- Plain mathematics of the laws AxesBack, AxesJoins. No Go in it. -/
import Derived.Test.YtgdgpggicgfddaaAxB
namespace Go.Proofs.Ytgdgpggicgfddaa
open Go.RowKit

/-- All numbers below i, each once. -/
def Perm (i : Nat) (P : List Int) : Prop := P.length = i ∧ (∀ x ∈ P, 0 ≤ x ∧ x < i) ∧ P.Nodup
theorem perm_zero : Perm 0 [] := ⟨rfl, by simp, by simp⟩
theorem perm_ins {i k : Nat} {P : List Int} (h : Perm i P) (hk : k ≤ i) : Perm (i + 1) (ins P k i) := by
  obtain ⟨h1, h2, h3⟩ := h
  have hp : (ins P k i).Perm ((i : Int) :: P) := by
    rw [ins, List.append_assoc, List.singleton_append]
    have := List.perm_middle (a := (i : Int)) (l₁ := P.take k) (l₂ := P.drop k)
    rwa [List.take_append_drop] at this
  refine ⟨by rw [ins_length _ (by omega), h1], fun x hx => ?_, ?_⟩
  · rcases List.mem_cons.1 (hp.mem_iff.1 hx) with rfl | hx
    · omega
    · have := h2 x hx; omega
  · rw [hp.nodup_iff, List.nodup_cons]
    exact ⟨fun hm => by have := h2 _ hm; omega, h3⟩
theorem perm_tu {s P : List Int} (h : Perm s.length P) : TuOk s P := by
  obtain ⟨h1, h2, h3⟩ := h
  refine ⟨h1, fun k x hx => ?_⟩
  have := h2 x (List.mem_of_getElem? hx)
  refine ⟨this.1, this.2, fun hm => ?_⟩
  obtain ⟨j, hj⟩ := List.getElem?_of_mem hm
  rw [List.getElem?_take] at hj
  split at hj
  · have hl : j < P.length := (List.getElem?_eq_some_iff.1 hj).1
    have := (List.getElem?_inj hl h3).1 (hj.trans hx.symm)
    omega
  · cases hj
def iotaL (n : Nat) : List Int := gen n fun i => (i : Int)
theorem iotaL_at {n i : Nat} (h : i < n) : (iotaL n)[i]? = some (i : Int) := gen_at h
theorem iotaL_length (n : Nat) : (iotaL n).length = n := gen_length _ _
def backL (s P : List Int) : List Int := setAll (List.replicate s.length 0) P (iotaL s.length) P.length
theorem backL_length (s P : List Int) : (backL s P).length = s.length := by rw [backL, setAll_length, List.length_replicate]
theorem back_inv {s P : List Int} (h : TuOk s P) (i : Nat) (x : Int) (hx : P[i]? = some x) : (backL s P)[x.toNat]? = some (i : Int) := by
  have hi : i < P.length := (List.getElem?_eq_some_iff.1 hx).1
  exact setAll_at h (by rw [iotaL_length, h.1]) (by simp) hi (Nat.le_refl _) hx (iotaL_at (by have := h.1; omega))

/-- As many numbers, 0 to 2. -/
def Tiny (n : Nat) (l : List Int) : Prop := l.length = n ∧ ∀ x ∈ l, 0 ≤ x ∧ x ≤ 2
theorem tiny_zero : Tiny 0 [] := ⟨rfl, by simp⟩
theorem tiny_snoc {n : Nat} {l : List Int} {x : Int} (h : Tiny n l) (h0 : 0 ≤ x) (h1 : x ≤ 2) : Tiny (n + 1) (l ++ [x]) :=
  ⟨by rw [List.length_append, h.1]; rfl, fun y hy => by
    rcases List.mem_append.1 hy with hy | hy
    · exact h.2 y hy
    · have := List.mem_singleton.1 hy; omega⟩
theorem tiny_pad {s lo hi : List Int} (h : Tiny s.length lo) (g : Tiny s.length hi) : PadOk s lo hi :=
  ⟨h.1, g.1, fun k x y hx hy => by
    have := h.2 x (List.mem_of_getElem? hx)
    have := g.2 y (List.mem_of_getElem? hy)
    omega⟩
end Go.Proofs.Ytgdgpggicgfddaa
