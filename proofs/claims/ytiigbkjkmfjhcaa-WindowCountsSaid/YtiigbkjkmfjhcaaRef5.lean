/- Contracts of the fourth reference, chapter 5: number, Slice. -/
import Derived.Test.YtiigbkjkmfjhcaaPlaceO
import Derived.Test.YtiigbkjkmfjhcaaAx
import Derived.StillTailTactics
namespace Go.Proofs.Ytiigbkjkmfjhcaa
open Go.RowKit

set_option maxRecDepth 100000 in
set_option maxHeartbeats 1600000 in
theorem ref4Number_any {w : World} {v : Value} {A : Option Addr} {n c : Nat} {s d p : List Int} (h : Ten w v s d) (g : Ints w A n p) (hr : tenRight s d = true) (hl : p.length = s.length) (hw : Sh.within s p = true) :
    Calls Try.prog 40 #[v, .slice A n c] w fun e w' => e = .returned (.int .i64 (num s d p)) ∧ Below w.heap.size w w' := by
  obtain ⟨As, ns, cs, Bd, nd, cd, rfl, hsc, hdc, hS, hD⟩ := h
  have h1 := ((((Sep.nil w).old g).old hD).old hS).allocBox w.heap.size 27 [.slice As ns cs, .slice Bd nd cd] rfl
  go_enter Try.func40, Try.ntmps40
  go_upto_region 1 with fail
  generalize w.alloc (.cells #[.slice As ns cs, .slice Bd nd cd] 27) = W at *
  have b0 := h1.cell 0 0 rfl rfl
  have b1 := h1.cell 0 1 rfl rfl
  have IS := h1.oldInts 1 rfl
  have ID := h1.oldInts 2 rfl
  have IP := h1.oldInts 3 rfl
  obtain ⟨k, hk, hkd, hx⟩ := num_at hr hl hw
  rw [hD.len] at hkd
  obtain ⟨ad, x, rfl, hb, hx', hc, hf⟩ := ID.at_ hkd
  rw [hx] at hx'
  injection hx' with hx'
  have HX := Lib.hid hx'
  have C1 : ∀ q, Calls Try.prog 38 #[.slice As ns cs, .slice A n c] (W.drewN q) fun e w' => e = .returned (.int .i64 k) ∧ ∃ k, w' = (W.drewN q).drewN k := fun q => by rw [← hk]; exact refIndex_any (IS.drewN q) (IP.drewN q)
  have H := Lib.hid h1
  have HC := Lib.hid C1
  clear h1 IS ID IP hk hx hx' hD hS g hl hw hr C1
  go_quiet ((go_at_call 38; exact (HC.out _).mono fun _ _ ⟨e, k, h⟩ => ⟨e, _, h.trans (World.drewN_drewN _ _ _)⟩))
  go_wp2
  go_ret
  exact ⟨ret_int HX.out.symm, below_drewN H.out.base _⟩

end Go.Proofs.Ytiigbkjkmfjhcaa
