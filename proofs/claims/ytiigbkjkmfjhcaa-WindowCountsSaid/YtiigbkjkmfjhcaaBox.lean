/- Words for law functions: tensors in boxes, off a block that a tape lies in. -/
import Derived.Test.YtiigbkjkmfjhcaaTenD
import Derived.Test.YtiigbkjkmfjhcaaKitReg
namespace Go.Proofs.Ytiigbkjkmfjhcaa
open Go.RowKit

/-- A tensor whose numbers lie in no block that may change (g0). -/
def Tx (w : World) (g0 : Option Nat) (v : Value) (s d : List Int) : Prop :=
  ∃ (S : Option Addr) (sn sc : Nat) (D : Option Addr) (dn dc : Nat), v = .agg #[.slice S sn sc, .slice D dn dc] ∧ sn ≤ sc ∧ dn ≤ dc ∧ Ints w S sn s ∧ Ints w D dn d ∧
    (∀ ad, S = some ad → 0 < sn → some ad.block ≠ g0) ∧ (∀ ad, D = some ad → 0 < dn → some ad.block ≠ g0)
section
variable {w w' w0 : World} {g0 : Option Nat} {v : Value} {s d : List Int}
theorem Tx.ten (h : Tx w g0 v s d) : Ten w v s d := by
  obtain ⟨S, sn, sc, D, dn, dc, e, h1, h2, h3, h4, _⟩ := h
  exact ⟨S, sn, sc, D, dn, dc, e, h1, h2, h3, h4⟩
theorem Tx.grown (h : Tx w g0 v s d) (hg : w.grownBy w' g0) : Tx w' g0 v s d := by
  obtain ⟨S, sn, sc, D, dn, dc, e, h1, h2, h3, h4, h5, h6⟩ := h
  exact ⟨S, sn, sc, D, dn, dc, e, h1, h2, h3.grown hg h5, h4.grown hg h6, h5, h6⟩
theorem Tx.below (h : Tx w g0 v s d) (hb : Below w.heap.size w w') : Tx w' g0 v s d := h.grown (grown_of_below hb _)
theorem Tx.of (h : Ten w v s d) (hg : ∀ S sn sc D dn dc, v = .agg #[.slice S sn sc, .slice D dn dc] → (∀ ad, S = some ad → 0 < sn → some ad.block ≠ g0) ∧ (∀ ad, D = some ad → 0 < dn → some ad.block ≠ g0)) : Tx w g0 v s d := by
  obtain ⟨S, sn, sc, D, dn, dc, rfl, h1, h2, h3, h4⟩ := h
  obtain ⟨h5, h6⟩ := hg S sn sc D dn dc rfl
  exact ⟨S, sn, sc, D, dn, dc, rfl, h1, h2, h3, h4, h5, h6⟩
theorem Ten.tx (h : Ten w v s d) : Tx w none v s d := Tx.of h fun _ _ _ _ _ _ _ => ⟨fun _ _ _ => by simp, fun _ _ _ => by simp⟩
theorem OTen.tx {base : Nat} (h : OTen w base v s d) (hb : ∀ g, g0 = some g → g < base) : Tx w g0 v s d := by
  obtain ⟨vs, vd, n, m, rfl, h1, h2⟩ := h
  obtain ⟨S, sc, rfl, hc, hI, hS⟩ := h1.form
  obtain ⟨D, dc, rfl, hd, hJ, hD⟩ := h2.form
  refine ⟨S, n, sc, D, m, dc, rfl, hc, hd, hI, hJ, fun ad he _ h' => ?_, fun ad he _ h' => ?_⟩
  · have := hS ad he; have := hb _ h'.symm; omega
  · have := hD ad he; have := hb _ h'.symm; omega

/-- Tensors in boxes; nothing that was there at w0 has changed. -/
def Bx (w0 w : World) (g0 : Option Nat) (l : List (Nat × List Int × List Int)) : Prop :=
  Below w0.heap.size w0 w ∧ (∀ g, g0 = some g → w0.heap.size ≤ g ∧ g < w.heap.size) ∧ ∀ x ∈ l, some x.1 ≠ g0 ∧ ∃ (S : Option Addr) (sn sc : Nat) (D : Option Addr) (dn dc : Nat), w.heap[x.1]? = some (.cells #[.slice S sn sc, .slice D dn dc] 27 (0, 0)) ∧ Tx w g0 (.agg #[.slice S sn sc, .slice D dn dc]) x.2.1 x.2.2
variable {l : List (Nat × List Int × List Int)}
theorem Bx.nil (w : World) : Bx w w none [] := ⟨Below.refl _ _, (fun _ h => by cases h), (fun _ h => by cases h)⟩
theorem Bx.grown (h : Bx w0 w g0 l) (hg : w.grownBy w' g0) : Bx w0 w' g0 l := by
  obtain ⟨h1, h2, h3⟩ := h
  refine ⟨h1.grown hg h1.size fun k hk => ?_, fun g e => ⟨(h2 g e).1, by have := (h2 g e).2; have := hg.size; omega⟩, fun x hx => ?_⟩
  · exact (h2 k hk).1
  · obtain ⟨hn, S, sn, sc, D, dn, dc, hb, ht⟩ := h3 x hx
    exact ⟨hn, S, sn, sc, D, dn, dc, (hg.block _ (block_lt_of_cell (cell0_of hb)) hn).trans hb, ht.grown hg⟩
theorem Bx.below (h : Bx w0 w g0 l) (hb : Below w.heap.size w w') : Bx w0 w' g0 l := h.grown (grown_of_below hb _)
theorem Bx.base (h : Bx w0 w g0 l) : Below w0.heap.size w0 w := h.1
theorem Bx.push {S D : Option Addr} {sn sc dn dc : Nat} (h : Bx w0 w g0 l) (ht : Tx w g0 (.agg #[.slice S sn sc, .slice D dn dc]) s d) : Bx w0 (w.alloc (.cells #[.slice S sn sc, .slice D dn dc] 27)) g0 ((w.heap.size, s, d) :: l) := by
  have hb := (Below.refl w.heap.size w).alloc (Nat.le_refl _) (.cells #[.slice S sn sc, .slice D dn dc] 27)
  have h' := h.below hb
  refine ⟨h'.1, h'.2.1, fun x hx => ?_⟩
  rcases List.mem_cons.1 hx with rfl | hx
  · exact ⟨fun e => by have := (h.2.1 _ e.symm).2; omega, S, sn, sc, D, dn, dc, heap_alloc_new w _, ht.below hb⟩
  · exact h'.2.2 x hx
theorem Bx.get (h : Bx w0 w g0 l) {g : Nat} (hm : (g, s, d) ∈ l) : ∃ (S : Option Addr) (sn sc : Nat) (D : Option Addr) (dn dc : Nat), w.cell? ⟨g, 0, none⟩ = some (.slice S sn sc) ∧ w.cell? ⟨g, 1, none⟩ = some (.slice D dn dc) ∧ Ten w (.agg #[.slice S sn sc, .slice D dn dc]) s d := by
  obtain ⟨_, S, sn, sc, D, dn, dc, hb, ht⟩ := h.2.2 _ hm
  exact ⟨S, sn, sc, D, dn, dc, cell0_of hb, cell1_of hb, ht.ten⟩
theorem Bx.lt (h : Bx w0 w g0 l) : ∀ g, g0 = some g → g < w.heap.size := fun g e => (h.2.1 g e).2
theorem Bx.getx (h : Bx w0 w g0 l) {g : Nat} (hm : (g, s, d) ∈ l) : ∃ (S : Option Addr) (sn sc : Nat) (D : Option Addr) (dn dc : Nat), w.cell? ⟨g, 0, none⟩ = some (.slice S sn sc) ∧ w.cell? ⟨g, 1, none⟩ = some (.slice D dn dc) ∧ Tx w g0 (.agg #[.slice S sn sc, .slice D dn dc]) s d := by
  obtain ⟨_, S, sn, sc, D, dn, dc, hb, ht⟩ := h.2.2 _ hm
  exact ⟨S, sn, sc, D, dn, dc, cell0_of hb, cell1_of hb, ht⟩
theorem Bx.drew (h : Bx w0 w g0 l) : Bx w0 w.drew g0 l := h.grown (grown_drewN w 1 _)
theorem Bx.ne (h : Bx w0 w g0 l) {g : Nat} (hm : (g, s, d) ∈ l) : some g ≠ g0 := (h.2.2 _ hm).1
theorem Bx.start (hb : Below w0.heap.size w0 w) (hg : ∀ g, g0 = some g → w0.heap.size ≤ g ∧ g < w.heap.size) : Bx w0 w g0 [] := ⟨hb, hg, (fun _ h => by cases h)⟩
theorem Bx.box {S D : Option Addr} {sn sc dn dc g : Nat} (h : Bx w0 w g0 l) (hg : w.heap[g]? = some (.cells #[.slice S sn sc, .slice D dn dc] 27 (0, 0))) (hn : some g ≠ g0) (ht : Tx w g0 (.agg #[.slice S sn sc, .slice D dn dc]) s d) : Bx w0 w g0 ((g, s, d) :: l) :=
  ⟨h.1, h.2.1, fun x hx => by
    rcases List.mem_cons.1 hx with rfl | hx
    · exact ⟨hn, S, sn, sc, D, dn, dc, hg, ht⟩
    · exact h.2.2 x hx⟩
theorem heap_lt_ {w : World} {g : Nat} {o : Obj} (h : w.heap[g]? = some o) : g < w.heap.size := by
  rcases Nat.lt_or_ge g w.heap.size with h' | h'
  · exact h'
  · rw [Array.getElem?_eq_none h'] at h; cases h
theorem cell_grown {w w' : World} {row : Option Nat} {p : Addr} {v : Value} (hg : w.grownBy w' row) (h : w.cell? p = some v) (hn : some p.block ≠ row) : w'.cell? p = some v := hg.cell h hn
/-- An argument's tensor is older than the tape. -/
theorem tx_old {A B : Option Addr} {n c m e g : Nat} (hI : Ints w A n s) (hc : n ≤ c) (hJ : Ints w B m d) (he : m ≤ e) (hg : w.heap.size ≤ g) : Tx w (some g) (.agg #[.slice A n c, .slice B m e]) s d :=
  ⟨A, n, c, B, m, e, rfl, hc, he, hI, hJ, fun ad h0 hn h' => by have := hI.lt ad h0 hn; injection h' with h'; omega, fun ad h0 hn h' => by have := hJ.lt ad h0 hn; injection h' with h'; omega⟩

theorem small_shape {s : List Int} (h : s.length ≤ 3) (hd : ∀ x ∈ s, 0 ≤ x ∧ x ≤ 7) : Sh.right s = true := by
  refine Sh.right_iff.2 ⟨by omega, fun x hx => ?_, ?_⟩
  · have := hd x hx; omega
  · match s, h, hd with
    | [], _, _ => decide
    | [a], _, hd => have := hd a (by simp); simp only [Sh.pr, List.foldl, Int.one_mul]; omega
    | [a, b], _, hd =>
      have h1 := hd a (by simp); have h2 := hd b (by simp)
      have := Int.mul_le_mul h1.2 h2.2 h2.1 (by omega)
      simp only [Sh.pr, List.foldl, Int.one_mul]; omega
    | [a, b, c], _, hd =>
      have h1 := hd a (by simp); have h2 := hd b (by simp); have h3 := hd c (by simp)
      have h4 := Int.mul_le_mul h1.2 h2.2 h2.1 (by omega)
      have h5 := Int.mul_nonneg h1.1 h2.1
      have := Int.mul_le_mul h4 h3.2 h3.1 (by omega)
      simp only [Sh.pr, List.foldl, Int.one_mul]; omega
    | a :: b :: c :: d :: r, h, _ => simp at h

/-- A list of numbers that lies in no block that may change. -/
def Ix (w : World) (g0 : Option Nat) (A : Option Addr) (n : Nat) (xs : List Int) : Prop := Ints w A n xs ∧ ∀ ad, A = some ad → 0 < n → some ad.block ≠ g0
theorem Ix.grown {A : Option Addr} {n : Nat} {xs : List Int} (h : Ix w g0 A n xs) (hg : w.grownBy w' g0) : Ix w' g0 A n xs := ⟨h.1.grown hg h.2, h.2⟩
theorem Ix.below {A : Option Addr} {n : Nat} {xs : List Int} (h : Ix w g0 A n xs) (hb : Below w.heap.size w w') : Ix w' g0 A n xs := h.grown (grown_of_below hb _)
theorem ix_old {A : Option Addr} {n g : Nat} {xs : List Int} (h : Ints w A n xs) (hg : w.heap.size ≤ g) : Ix w (some g) A n xs := ⟨h, fun ad h0 hn h' => by have := h.lt ad h0 hn; injection h' with h'; omega⟩
theorem ix_new {A : Option Addr} {n base : Nat} {xs : List Int} (h : Ints w A n xs) (hA : ∀ ad, A = some ad → base ≤ ad.block) (hb : ∀ g, g0 = some g → g < base) : Ix w g0 A n xs := ⟨h, fun ad h0 _ h' => by have := hA ad h0; have := hb _ h'.symm; omega⟩
theorem Ten.fits (h : Ten w v s d) : ∀ x ∈ d, Fits x := by
  obtain ⟨_, _, _, _, _, _, _, _, _, _, hJ⟩ := h
  exact hJ.fit
theorem Tx.drew (h : Tx w g0 v s d) : Tx w.drew g0 v s d := h.grown (grown_drewN w 1 _)
theorem Ix.drew {A : Option Addr} {n : Nat} {xs : List Int} (h : Ix w g0 A n xs) : Ix w.drew g0 A n xs := h.grown (grown_drewN w 1 _)
theorem Tape.drew_ {g : Nat} (h : Tape w g) : Tape w.drew g := h
theorem OTen.grow {base g : Nat} (h : OTen w base v s d) (hr : w.grownBy w' (some g)) (hb : g < base) : OTen w' base v s d := by
  obtain ⟨vs, vd, n, m, rfl, h1, h2⟩ := h
  exact ⟨vs, vd, n, m, rfl, h1.grown hr hb, h2.grown hr hb⟩
/-- A result goes into a box that was made ahead of the call, or behind it: what is told of it. -/
theorem Bx.late {v0 w7 : World} {S D : Option Addr} {sn sc dn dc base : Nat} (h : Bx w0 v0 g0 l) (hb : Below v0.heap.size v0 w7) (hu : OTen w7 base (.agg #[.slice S sn sc, .slice D dn dc]) s d) (hv : v0.heap.size ≤ base) :
    Bx w0 (w7.alloc (.cells #[.slice S sn sc, .slice D dn dc] 27)) g0 ((w7.heap.size, s, d) :: l) := by
  refine (h.below hb).push ?_
  exact hu.tx fun g e => by have := h.lt g e; omega
theorem Bx.early {v0 w7 : World} {x y : Value} {S D : Option Addr} {sn sc dn dc base gz : Nat} (h : Bx w0 v0 g0 l) (hb : Below v0.heap.size v0 w7) (hu : OTen w7 base (.agg #[.slice S sn sc, .slice D dn dc]) s d) (hv : v0.heap.size ≤ gz) (hz : gz < base)
    (hg : w7.heap[gz]? = some (.cells #[x, y] 27 (0, 0))) :
    Bx w0 ((w7.setCell ⟨gz, 0, none⟩ (.slice S sn sc)).setCell ⟨gz, 1, none⟩ (.slice D dn dc)) g0 ((gz, s, d) :: l) := by
  have hgr := grown_trans (grown_setCell w7 gz 0 (.slice S sn sc)) (grown_setCell _ gz 1 (.slice D dn dc))
  have hl := h.lt
  have hB : Below v0.heap.size v0 ((w7.setCell ⟨gz, 0, none⟩ (.slice S sn sc)).setCell ⟨gz, 1, none⟩ (.slice D dn dc)) := (hb.setCell (p := ⟨gz, 0, none⟩) hv _).setCell (p := ⟨gz, 1, none⟩) hv _
  refine (h.below hB).box (block_set2 hg _ _) (fun e => by have := hl gz e.symm; omega) ((hu.grow hgr hz).tx fun g e => by have := hl g e; omega)
/-- A box more, that a parameter of its own was put into. -/
theorem Bx.sub {l' : List (Nat × List Int × List Int)} (h : Bx w0 w g0 l) (hs : ∀ x ∈ l', x ∈ l) : Bx w0 w g0 l' := ⟨h.1, h.2.1, fun x hx => h.2.2 x (hs x hx)⟩
/-- From here on a tape's block may change. -/
theorem Bx.tape {g : Nat} (h : Bx w0 w none l) (h0 : w0.heap.size ≤ g) (hg : g < w.heap.size) (hl : ∀ x ∈ l, x.1 ≠ g ∧ ∀ S sn sc D dn dc, w.heap[x.1]? = some (.cells #[.slice S sn sc, .slice D dn dc] 27 (0, 0)) → (∀ ad, S = some ad → 0 < sn → ad.block ≠ g) ∧ (∀ ad, D = some ad → 0 < dn → ad.block ≠ g)) : Bx w0 w (some g) l := by
  refine ⟨h.1, fun k e => by injection e with e; subst e; exact ⟨h0, hg⟩, fun x hx => ?_⟩
  obtain ⟨_, S, sn, sc, D, dn, dc, hb, ht⟩ := h.2.2 x hx
  obtain ⟨hn, hk⟩ := hl x hx
  obtain ⟨h5, h6⟩ := hk _ _ _ _ _ _ hb
  refine ⟨fun e => hn (by injection e), S, sn, sc, D, dn, dc, hb, Tx.of ht.ten fun S' sn' sc' D' dn' dc' e => ?_⟩
  simp only [Value.agg.injEq, Array.mk.injEq, List.cons.injEq, Value.slice.injEq, and_true] at e
  obtain ⟨⟨rfl, rfl, rfl⟩, rfl, rfl, rfl⟩ := e
  exact ⟨fun ad he hn h' => h5 ad he hn (by injection h'), fun ad he hn h' => h6 ad he hn (by injection h')⟩
end
end Go.Proofs.Ytiigbkjkmfjhcaa
