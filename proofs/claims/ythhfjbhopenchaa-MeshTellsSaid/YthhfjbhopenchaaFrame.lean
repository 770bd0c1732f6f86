/- A law's arguments opened: slices of numbers, tensors; the reach gives their lengths a bound. -/
import Derived.Test.YthhfjbhopenchaaKit
import Derived.ProofKit
import Derived.SizedLaws
import Derived.Lib.SmallJoins
namespace Go.Proofs.Ythhfjbhopenchaa
open Go.ChangeShapes Go.WideShapes Go.ChangeAt Go.RowKit Go.Joins Go.Deep

section
variable {H : Type} {enc : TypeId × Value → H} {P : Program} {W : World} {r : Reach} {b0 : Nat}
/-- A slice of numbers of 64 bits that came in. -/
theorem open_row {t e : TypeId} {a : Option Addr} {len cap fuel : Nat} {x : DataW H × List MemPlace} (ht : P.underlying t = some (.slice e)) (he : P.underlying e = some (.int .i64)) (hc : P.cellsOf e = 1) (hby : P.bytesOf e = 8)
    (hf : DataW.trod enc P W 0 (fun _ => true) true fuel t [.slice a len cap] = some x) (hsz : ∀ n ∈ x.1.weights P t, n ≤ reachBytes) :
    ∃ zs, IsRow .i64 W a len cap zs ∧ len ≤ 17592186043904 ∧ len ≤ cap := by
  rcases open_ints ht he hc hf with ⟨hcs, _⟩ | ⟨y, l, c, zs, hcs, _, hl, hm, hz, hx, hcell, hwz⟩
  · simp at hcs
    obtain ⟨rfl, rfl, rfl⟩ := hcs
    exact ⟨[], .inl ⟨rfl, rfl, rfl, rfl⟩, by omega, by omega⟩
  · simp at hcs
    obtain ⟨rfl, rfl, rfl⟩ := hcs
    have hzl : zs.length = cap := by simpa using hz
    have hb := hsz ((List.length (lits (H := H) .i64 (zs.take len)) + List.length (lits (H := H) .i64 (zs.drop len))) * P.bytesOf e) (by rw [hx]; simp [DataW.weights, ht])
    rw [hby] at hb
    simp only [lits, List.length_map, List.length_take, List.length_drop, reachBytes] at hb
    exact ⟨zs, .inr ⟨_, rfl, hl, hm, hzl, hcell, hwz⟩, by omega, hl⟩

/-- A parameter that is such a slice. -/
theorem open_slice_arg {t e : TypeId} {v : Value} {d : DataW H} {p : List MemPlace} (ht : P.underlying t = some (.slice e)) (he : P.underlying e = some (.int .i64)) (hc : P.cellsOf e = 1) (hby : P.bytesOf e = 8)
    (hv : Value.okWide P W r b0 t v) (h : DataW.Trod enc P W 0 (fun _ => true) true t v d p) (hsz : ∀ n ∈ d.weights P t, n ≤ reachBytes) :
    ∃ a len cap zs, v = .slice a len cap ∧ IsRow .i64 W a len cap zs ∧ len ≤ 17592186043904 ∧ len ≤ cap := by
  obtain ⟨a, len, cap, rfl⟩ := okWide_slice ht hv
  obtain ⟨fuel, hf⟩ := h
  obtain ⟨zs, h1, h2⟩ := open_row (x := (d, p)) ht he hc hby (by simpa [Value.cells] using hf) hsz
  exact ⟨a, len, cap, zs, rfl, h1, h2⟩

/-- A parameter that is a struct of two such slices. -/
theorem open_ten_arg {t e0 e1 : TypeId} {f0 f1 : Field} {v : Value} {d : DataW H} {p : List MemPlace} (hs : P.underlying t = some (.struct #[f0, f1])) (hone : oneCellFields P #[f0, f1] = true) (hC : P.cellsOf t = 2)
    (h0 : P.underlying f0.type = some (.slice e0)) (h1 : P.underlying f1.type = some (.slice e1)) (g0 : P.underlying e0 = some (.int .i64)) (g1 : P.underlying e1 = some (.int .i64))
    (c0 : P.cellsOf e0 = 1) (c1 : P.cellsOf e1 = 1) (y0 : P.bytesOf e0 = 8) (y1 : P.bytesOf e1 = 8)
    (hv : Value.okWide P W r b0 t v) (h : DataW.Trod enc P W 0 (fun _ => true) true t v d p) (hsz : ∀ n ∈ d.weights P t, n ≤ reachBytes) :
    ∃ a n c z b m k y, v = .agg #[.slice a n c, .slice b m k] ∧ IsRow .i64 W a n c z ∧ n ≤ 17592186043904 ∧ n ≤ c ∧ IsRow .i64 W b m k y ∧ m ≤ 17592186043904 ∧ m ≤ k := by
  obtain ⟨v0, v1, x0, x1, n, rfl, rfl, rfl, hx0, hx1⟩ := open_agg2 hs hone hC hv h
  obtain ⟨a, ln, c, e⟩ := slice_form h0 hx0
  obtain ⟨b, lm, k, e'⟩ := slice_form h1 hx1
  simp only [List.cons.injEq, and_true] at e e'
  subst e
  subst e'
  have w0 : ∀ j ∈ x0.1.weights P f0.type, j ≤ reachBytes := fun j hj => hsz j (by simp [DataW.weights, hs, DataW.weightsEach, hj])
  have w1 : ∀ j ∈ x1.1.weights P f1.type, j ≤ reachBytes := fun j hj => hsz j (by simp [DataW.weights, hs, DataW.weightsEach, hj])
  obtain ⟨z, i0, i1, i2⟩ := open_row h0 g0 c0 y0 hx0 w0
  obtain ⟨y, j0, j1, j2⟩ := open_row h1 g1 c1 y1 hx1 w1
  exact ⟨a, ln, c, z, b, lm, k, y, rfl, i0, i1, i2, j0, j1, j2⟩
end
end Go.Proofs.Ythhfjbhopenchaa
