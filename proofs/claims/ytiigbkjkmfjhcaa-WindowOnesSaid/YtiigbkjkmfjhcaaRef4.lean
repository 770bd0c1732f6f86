/- Contracts of the fourth reference, chapter 4: Step, all, One, Two, Pick. -/
import Derived.Test.YtiigbkjkmfjhcaaPt
import Derived.Test.YtiigbkjkmfjhcaaKitReg
namespace Go.Proofs.Ytiigbkjkmfjhcaa
open Go.RowKit


theorem cell_keep {w w' : World} {p : Addr} {v : Value} (hb : Below w.heap.size w w') (h : w.cell? p = some v) : w'.cell? p = some v := (hb.cell (World.block_lt_of_cell? w p h)).trans h

/-- A list of tensors in memory, two cells each. -/
def Tens (w : World) (A : Option Addr) (n : Nat) (l : List (List Int × List Int)) : Prop :=
  l.length = n ∧ n ≤ 1000000 ∧ ∀ j x, l[j]? = some x → ∃ a S sn sc D dn dc, A = some a ∧ a.block < w.heap.size ∧ w.cell? (a.add (j * 2)) = some (.slice S sn sc) ∧ w.cell? ⟨(a.add (j * 2)).block, (a.add (j * 2)).off + 1, none⟩ = some (.slice D dn dc) ∧ Ten w (.agg #[.slice S sn sc, .slice D dn dc]) x.1 x.2
theorem Tens.below {w w' : World} {A : Option Addr} {n : Nat} {l : List (List Int × List Int)} (h : Tens w A n l) (hb : Below w.heap.size w w') : Tens w' A n l :=
  ⟨h.1, h.2.1, fun j x hx => by
    obtain ⟨a, S, sn, sc, D, dn, dc, e, hbl, h0, h1, ht⟩ := h.2.2 j x hx
    exact ⟨a, S, sn, sc, D, dn, dc, e, by have := hb.size; omega, (hb.cell (by rw [block_of_add]; exact hbl)).trans h0, (hb.cell (by simp only [block_of_add]; exact hbl)).trans h1, ht.below hb⟩⟩

/-- The refusal of a list of tensors: each is right and of the first one's shape. -/
def allR (x0 : List Int × List Int) (l : List (List Int × List Int)) : Int := if l.all (fun y => tenRight y.1 y.2 && y.1 == x0.1) then 0 else 13
theorem allR_bad {x0 y : List Int × List Int} {l : List (List Int × List Int)} {j : Nat} (h : l[j]? = some y) (hb : (tenRight y.1 y.2 && y.1 == x0.1) = false) : allR x0 l = 13 := by
  rw [allR, if_neg]
  rw [List.all_eq_true]
  intro ha
  have := ha y (List.mem_of_getElem? h)
  rw [hb] at this; cases this
theorem allR_good {x0 : List Int × List Int} {l : List (List Int × List Int)} (h : ∀ k y, k < l.length → l[k]? = some y → (tenRight y.1 y.2 && y.1 == x0.1) = true) : allR x0 l = 0 := by
  rw [allR, if_pos]
  rw [List.all_eq_true]
  intro y hy
  obtain ⟨k, hk, e⟩ := List.getElem_of_mem hy
  exact h k y hk (by rw [List.getElem?_eq_getElem hk, e])


theorem tens_one {w : World} {g : Nat} {S D : Option Addr} {sn sc dn dc : Nat} {s d : List Int} (hg : w.heap[g]? = some (.cells #[.slice S sn sc, .slice D dn dc] 27 (0, 0))) (h : Ten w (.agg #[.slice S sn sc, .slice D dn dc]) s d) :
    Tens w (some ⟨g, 0, none⟩) 1 [(s, d)] :=
  ⟨rfl, by omega, fun j x hx => by
    cases j with
    | zero => simp at hx; subst hx; exact ⟨_, S, sn, sc, D, dn, dc, rfl, block_lt_of_cell (cell0_of hg), cell0_of hg, cell1_of hg, h⟩
    | succ j => simp at hx⟩

/-- All of a tensor's new block, in which each number is being laid: the loop's state. -/
def Laying (W wr : World) (g : Nat) (S D : Option Addr) (sn sc N dc : Nat) (s ds : List Int) : Prop :=
  W.heap.size ≤ g ∧ wr.heap[g]? = some (.cells #[.slice S sn sc, .slice D N dc] 27 (0, 0)) ∧ OwnS wr W.heap.size 3 (.slice S sn sc) sn s ∧ OwnS wr W.heap.size 2 (.slice D N dc) N ds ∧ Below W.heap.size W wr

theorem laying_new {W w1 : World} {S D : Option Addr} {sn sc N dc : Nat} {s ds : List Int} (hb : Below W.heap.size W w1) (hs : OwnS w1 W.heap.size 3 (.slice S sn sc) sn s) (hd : OwnS w1 W.heap.size 2 (.slice D N dc) N ds) :
    Laying W (w1.alloc (.cells #[.slice S sn sc, .slice D N dc] 27)) w1.heap.size S D sn sc N dc s ds :=
  ⟨hb.size, heap_alloc_new w1 _, hs.alloc _, hd.alloc _, hb.alloc hb.size _⟩
theorem Laying.store {W wr : World} {g gb : Nat} {S : Option Addr} {sn sc N dc : Nat} {s ds : List Int} (h : Laying W wr g S (some ⟨gb, 0, none⟩) sn sc N dc s ds) (j : Nat) {x : Int} (hx : Fits x) :
    Laying W (wr.setCell ⟨gb, j, none⟩ (.int .i64 x)) g S (some ⟨gb, 0, none⟩) sn sc N dc s (ds.set j x) := by
  obtain ⟨hg, hgx, hS, hD, hB⟩ := h
  have hO : Own wr W.heap.size 2 gb N dc ds := hD
  obtain ⟨cs, hb⟩ := hO.blk
  have hgw := grown_setCell wr gb j (.int .i64 x)
  exact ⟨hg, (hgw.block _ (block_lt_of_cell (cell0_of hgx)) (fun h' => ne_of_types hgx hb ty_ne.2.2.1.symm (by injection h'))).trans hgx, hS.grownNe hgw (hS.apart hb ty_ne.1), hO.store j hx, hB.setCell (p := ⟨gb, j, none⟩) hO.base_.1 _⟩
theorem Laying.drew {W wr : World} {g : Nat} {S D : Option Addr} {sn sc N dc : Nat} {s ds : List Int} (h : Laying W wr g S D sn sc N dc s ds) (q : Nat) : Laying W (wr.drewN q) g S D sn sc N dc s ds :=
  ⟨h.1, h.2.1, h.2.2.1, h.2.2.2.1, below_drewN h.2.2.2.2 q⟩
theorem Laying.below {W wr w' : World} {g : Nat} {S D : Option Addr} {sn sc N dc : Nat} {s ds : List Int} (h : Laying W wr g S D sn sc N dc s ds) (hb : Below wr.heap.size wr w') : Laying W w' g S D sn sc N dc s ds :=
  ⟨h.1, (hb.block _ (block_lt_of_cell (cell0_of h.2.1))).trans h.2.1, h.2.2.1.below hb, h.2.2.2.1.below hb, h.2.2.2.2.trans (hb.mono h.2.2.2.2.size)⟩

theorem keep_set {wr : World} {p q : Addr} {v u : Value} (h : wr.cell? p = some v) (hne : p.block ≠ q.block) : (wr.setCell q u).drew.cell? p = some v :=
  (World.cell?_setCell_other wr q p u (fun e => hne (by rw [e]))).trans h
theorem Laying.ne {W wr : World} {g gb : Nat} {S : Option Addr} {sn sc N dc : Nat} {s ds : List Int} (h : Laying W wr g S (some ⟨gb, 0, none⟩) sn sc N dc s ds) : g ≠ gb ∧ W.heap.size ≤ gb := by
  obtain ⟨_, hgx, _, hD, _⟩ := h
  have hO : Own wr W.heap.size 2 gb N dc ds := hD
  obtain ⟨cs, hb⟩ := hO.blk
  exact ⟨ne_of_types hgx hb ty_ne.2.2.1.symm, hO.base_.1⟩

end Go.Proofs.Ytiigbkjkmfjhcaa
