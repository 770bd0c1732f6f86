/- Contracts of package tensor: Copy, Set, Fill, Iota. -/
import Derived.Test.YtiigbkjkmfjhcaaTen
namespace Go.Proofs.Ytiigbkjkmfjhcaa
open Go.RowKit

theorem alloc_keep {w : World} {a : Addr} {v : Value} (o : Obj) (h : w.cell? a = some v) : (w.alloc o).cell? a = some v := (World.cell?_alloc_lt w o a (World.block_lt_of_cell? w a h)).trans h

theorem Ints.lt {w : World} {A : Option Addr} {n : Nat} {xs : List Int} (h : Ints w A n xs) : ∀ ad, A = some ad → 0 < n → ad.block < w.heap.size := fun ad he hn => by
  obtain ⟨a', e', hb, _⟩ := h.2.2.2 hn
  rw [e'] at he
  injection he with he
  rw [← he]; exact hb

end Go.Proofs.Ytiigbkjkmfjhcaa
