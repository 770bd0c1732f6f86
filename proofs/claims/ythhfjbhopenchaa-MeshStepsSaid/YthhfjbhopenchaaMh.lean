/- Devices of a mesh: plain mathematics. No Go in them. -/
import Derived.Test.YthhfjbhopenchaaShapeMathB
namespace Go.Proofs.Ythhfjbhopenchaa
open Go.RowKit
namespace Mh

def inD (x : Int) : Bool := decide (1 ≤ x) && decide (x ≤ 8)
def right (s : List Int) : Bool := decide (s.length ≤ 3) && s.all inD && decide (Sh.pr s ≤ 8)
def size (s : List Int) : Int := if right s then Sh.pr s else 0
def index (s p : List Int) : Int := if right s && decide (p.length = s.length) && Sh.within s p then Sh.hor s p else -1
def placeOf (s : List Int) (i : Int) : List Int := if 0 ≤ i ∧ i < size s then Sh.place s i else []
theorem inD_iff {x : Int} : inD x = true ↔ 1 ≤ x ∧ x ≤ 8 := by simp [inD]
theorem right_iff {s : List Int} : right s = true ↔ s.length ≤ 3 ∧ (∀ x ∈ s, 1 ≤ x ∧ x ≤ 8) ∧ Sh.pr s ≤ 8 := by
  simp [right, List.all_eq_true, inD_iff, and_assoc]
theorem wide {s : List Int} (h : ∀ x ∈ s, 1 ≤ x ∧ x ≤ 8) : ∀ x ∈ s, 0 ≤ x ∧ x ≤ 32 := fun x hx => ⟨by have := h x hx; omega, by have := h x hx; omega⟩
theorem right_sh {s : List Int} (h : right s = true) : Sh.right s = true := by
  obtain ⟨h1, h2, h3⟩ := right_iff.1 h
  exact Sh.right_iff.2 ⟨by omega, wide h2, by omega⟩
theorem not_right_long {s : List Int} (h : ¬ s.length ≤ 3) : right s = false := by simp [right, h]
theorem not_right_dim {s : List Int} {k : Nat} {x : Int} (h : s[k]? = some x) (hx : ¬ (1 ≤ x ∧ x ≤ 8)) : right s = false := by
  cases hr : right s with
  | false => rfl
  | true => exact absurd ((right_iff.1 hr).2.1 x (List.mem_of_getElem? h)) hx
theorem right_small {s : List Int} (h : s.length ≤ 3) (hd : ∀ x ∈ s, 1 ≤ x ∧ x ≤ 8) : right s = decide (Sh.pr s ≤ 8) := by
  have : s.all inD = true := by rw [List.all_eq_true]; exact fun x hx => inD_iff.2 (hd x hx)
  simp [right, h, this]
theorem size_of {s : List Int} (h : right s = true) : size s = Sh.pr s := by simp [size, h]
theorem size_not {s : List Int} (h : right s = false) : size s = 0 := by simp [size, h]
theorem size_sh {s : List Int} (h : right s = true) : Sh.size s = size s := by rw [size_of h, Sh.size_of (right_sh h)]
theorem size_bd (s : List Int) : 0 ≤ size s ∧ size s ≤ 8 := by
  cases h : right s with
  | false => rw [size_not h]; omega
  | true =>
    obtain ⟨h1, h2, h3⟩ := right_iff.1 h
    rw [size_of h]
    exact ⟨(Sh.pr_bd s (wide h2)).1, h3⟩
theorem size_right {s : List Int} {i : Int} (h0 : 0 ≤ i) (h : i < size s) : right s = true := by
  cases hr : right s with
  | true => rfl
  | false => rw [size_not hr] at h; omega
theorem size_pos {s : List Int} {i : Int} (h0 : 0 ≤ i) (h : i < size s) : right s = true ∧ ∀ x ∈ s, 1 ≤ x ∧ x ≤ 8 := ⟨size_right h0 h, (right_iff.1 (size_right h0 h)).2.1⟩
theorem index_of {s p : List Int} (hr : right s = true) (hl : p.length = s.length) (h : Sh.within s p = true) : index s p = Sh.hor s p := by simp [index, hr, hl, h]
theorem index_right {s p : List Int} (hr : right s = false) : index s p = -1 := by simp [index, hr]
theorem index_len {s p : List Int} (hl : ¬ p.length = s.length) : index s p = -1 := by simp [index, hl]
theorem index_out {s p : List Int} {k : Nat} {d x : Int} (hd : s[k]? = some d) (hx : p[k]? = some x) (h : ¬ (0 ≤ x ∧ x < d)) : index s p = -1 := by
  cases hw : Sh.within s p with
  | false => simp [index, hw]
  | true => exact absurd (Sh.within_at hw hd hx) h
theorem index_sh {s : List Int} (h : right s = true) (p : List Int) : Sh.index s p = index s p := by rw [Sh.index, index, h, right_sh h]
theorem placeOf_sh {s : List Int} (h : right s = true) (i : Int) : Sh.placeOf s i = placeOf s i := by rw [Sh.placeOf, placeOf, size_sh h]
/-- A device's place is that device's. -/
theorem index_place {s : List Int} {i : Int} (h0 : 0 ≤ i) (h : i < size s) : index s (Sh.place s i) = i := by
  have hr := size_right h0 h
  rw [← index_sh hr]; exact Sh.index_place h0 (by rw [size_sh hr]; exact h)
/-- The devices at i's place but any along the axis k. -/
def group (s : List Int) (i : Int) (k : Int) : List Int :=
  if 0 ≤ i ∧ i < size s ∧ 0 ≤ k ∧ k < s.length then (List.range (s.getD k.toNat 0).toNat).map fun (x : Nat) => index s ((Sh.place s i).set k.toNat x) else []
/-- 'g[((x + by % n) % n + n) % n]' -/
def turn (x b n : Int) : Int := ((x + b.tmod n).tmod n + n).tmod n
def step (s : List Int) (i k b : Int) : Int :=
  if (group s i k).length = 0 then -1 else (group s i k).getD (turn ((Sh.place s i).getD k.toNat 0) b (group s i k).length).toNat 0
theorem tmod_bd {a n : Int} (hn : 0 < n) : -n < a.tmod n ∧ a.tmod n < n ∧ (0 ≤ a → 0 ≤ a.tmod n) := by
  by_cases h : 0 ≤ a
  · rw [Int.tmod_eq_emod_of_nonneg h]
    have h1 := Int.emod_nonneg a (show n ≠ 0 by omega)
    have h2 := Int.emod_lt_of_pos a hn
    exact ⟨by omega, h2, fun _ => h1⟩
  · have h1 := Int.emod_nonneg (-a) (show n ≠ 0 by omega)
    have h2 := Int.emod_lt_of_pos (-a) hn
    have e : a.tmod n = -((-a) % n) := by
      rw [← Int.tmod_eq_emod_of_nonneg (show 0 ≤ -a by omega), Int.neg_tmod, Int.neg_neg]
    rw [e]
    exact ⟨by omega, by omega, fun h9 => absurd h9 h⟩
theorem group_cond {s : List Int} {i k : Int} (h : (group s i k).length ≠ 0) : 0 ≤ i ∧ i < size s ∧ 0 ≤ k ∧ k < s.length := by
  refine Decidable.byContradiction fun hn => h ?_
  unfold group
  rw [if_neg hn]; rfl
end Mh
end Go.Proofs.Ythhfjbhopenchaa
