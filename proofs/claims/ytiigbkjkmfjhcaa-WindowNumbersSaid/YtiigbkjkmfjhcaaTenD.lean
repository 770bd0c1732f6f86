/- Contracts of package tensor: Iota. -/
import Derived.Test.YtiigbkjkmfjhcaaTenC
import Derived.Deep.RegionHeld3
import Derived.RegionTactic
namespace Go.Proofs.Ytiigbkjkmfjhcaa
open Go.RowKit

theorem Sh.pd_pos : ∀ {s : List Int}, (∀ x ∈ s, 1 ≤ x) → 1 ≤ Sh.pd s
  | [], _ => by simp [Sh.pd]
  | x :: s, h => by
    have h1 := Sh.pd_pos (s := s) fun y hy => h y (List.mem_cons_of_mem _ hy)
    have h2 := h x (List.mem_cons_self ..)
    have := Int.mul_le_mul h2 h1 (by omega) (by omega)
    simpa [Sh.pd] using this

/-- A tensor's two lists. -/
theorem ten_ints {w : World} {A B : Option Addr} {n c m e : Nat} {s d : List Int} (h : Ten w (.agg #[.slice A n c, .slice B m e]) s d) : Ints w A n s ∧ Ints w B m d := by
  obtain ⟨A', n', c', B', m', e', h1, _, _, h2, h3⟩ := h
  simp only [Value.agg.injEq, Array.mk.injEq, List.cons.injEq, Value.slice.injEq, and_true] at h1
  obtain ⟨⟨rfl, rfl, rfl⟩, rfl, rfl, rfl⟩ := h1
  exact ⟨h2, h3⟩

def iotaS (s : List Int) (a : Int) : List Int := if iotaErr s a = 0 then s else []
def iotaD (s : List Int) (a : Int) : List Int := if iotaErr s a = 0 then Sh.iota s a.toNat else []
theorem iota_shape {s : List Int} {a : Int} (h : Sh.right s = false) : iotaErr s a = 13 ∧ iotaS s a = [] ∧ iotaD s a = [] := by simp [iotaErr, iotaS, iotaD, h]
theorem iota_arg {s : List Int} {a : Int} (h : Sh.right s = true) (ha : ¬ (0 ≤ a ∧ a < s.length)) : iotaErr s a = 1 ∧ iotaS s a = [] ∧ iotaD s a = [] := by
  have : iotaErr s a = 1 := by rw [iotaErr, if_pos h, if_neg ha]
  simp [iotaS, iotaD, this]
theorem iota_ok {s : List Int} {a : Nat} (h : Sh.right s = true) (ha : a < s.length) : iotaErr s a = 0 ∧ iotaS s a = s ∧ iotaD s a = Sh.iota s a := by
  have : iotaErr s a = 0 := by rw [iotaErr, if_pos h, if_pos ⟨by omega, by omega⟩]
  simp [iotaS, iotaD, this]

end Go.Proofs.Ytiigbkjkmfjhcaa
