/- The tape of numbers: what it is in memory, and its calls Within, Next. -/
import Derived.Test.YthhfjbhopenchaaRows
import Derived.Test.YthhfjbhopenchaaShape
namespace Go.Proofs.Ythhfjbhopenchaa
open Go.RowKit

theorem tmod_neg {a : Int} (_ha : a < 0) (h : a.tmod 1073741825 < 0) : a.tmod 1073741825 + 1073741824 + 1 = a % 1073741825 := by
  have e := Int.tmod_eq_emod (a := a) (b := 1073741825)
  by_cases hd : 0 ≤ a ∨ (1073741825 : Int) ∣ a
  · rw [if_pos hd] at e; omega
  · rw [if_neg hd] at e; simp at e; omega
theorem tmod_nonneg {a : Int} (_ha : a < 0) (h : ¬ a.tmod 1073741825 < 0) : a.tmod 1073741825 = a % 1073741825 := by
  have e := Int.tmod_eq_emod (a := a) (b := 1073741825)
  by_cases hd : 0 ≤ a ∨ (1073741825 : Int) ∣ a
  · rw [if_pos hd] at e; omega
  · rw [if_neg hd] at e; simp at e; omega

set_option maxRecDepth 100000 in
set_option maxHeartbeats 400000 in
theorem within_any (a : Int) (w : World) (hf : Fits a) :
    Calls Try.prog 11 #[.int .i64 a, .int .i64 0, .int .i64 1073741824] w fun e w' => e = .returned (.int .i64 (a % 1073741825)) ∧ w = w' := by
  obtain ⟨h1, h2⟩ := hf
  by_cases h0 : 0 ≤ a
  · by_cases hb : a ≤ 1073741824
    · go_enter Try.func11, Try.ntmps11
      go_wp2
      go_ret
      exact ⟨ret_int (by omega), rfl⟩
    · go_enter Try.func11, Try.ntmps11
      go_wp2
      go_ret
      exact ⟨ret_int (by omega), rfl⟩
  · have hlt : a < 0 := by omega
    have hm1 : -1073741825 < a.tmod 1073741825 := by
      have e := Int.tmod_eq_emod (a := a) (b := 1073741825)
      by_cases hd : 0 ≤ a ∨ (1073741825 : Int) ∣ a
      · rw [if_pos hd] at e; omega
      · rw [if_neg hd] at e; simp at e; omega
    have hm2 : a.tmod 1073741825 ≤ 0 := by
      have e := Int.tmod_eq_emod (a := a) (b := 1073741825)
      by_cases hd : 0 ≤ a ∨ (1073741825 : Int) ∣ a
      · rw [if_pos hd] at e; omega
      · rw [if_neg hd] at e; simp at e; omega
    by_cases ht : a.tmod 1073741825 < 0
    · have HX := Lib.hid (tmod_neg hlt ht)
      go_enter Try.func11, Try.ntmps11
      go_wp2
      go_ret
      exact ⟨ret_int (by rw [← HX.out]), rfl⟩
    · have HX := Lib.hid (tmod_nonneg hlt ht)
      go_enter Try.func11, Try.ntmps11
      go_wp2
      go_ret
      exact ⟨ret_int (by rw [← HX.out]), rfl⟩

/-- Block g is a tape: a list of numbers that lies elsewhere, and how many were read. -/
def Tape (w : World) (g : Nat) : Prop :=
  ∃ (A : Option Addr) (n c at_ : Nat) (xs : List Int), w.heap[g]? = some (.cells #[.slice A n c, .int .i64 at_] 99999 (0, 0)) ∧ at_ ≤ n ∧ Ints w A n xs ∧ ∀ ad, A = some ad → 0 < n → ad.block < g

theorem Tape.lt {w : World} {g : Nat} (h : Tape w g) : g < w.heap.size := by
  obtain ⟨A, n, c, at_, xs, hg, _⟩ := h
  rcases Nat.lt_or_ge g w.heap.size with hlt | hge
  · exact hlt
  · rw [Array.getElem?_eq_none hge] at hg; cases hg
theorem Tape.below {w w' : World} {g : Nat} (h : Tape w g) (hb : Below w.heap.size w w') : Tape w' g := by
  have hl := h.lt
  obtain ⟨A, n, c, at_, xs, hg, ha, hI, hne⟩ := h
  exact ⟨A, n, c, at_, xs, (hb.block g hl).trans hg, ha, hI.below hb, hne⟩
/-- Nothing up to the tape's own block has changed. -/
theorem Tape.over {w w' : World} {g : Nat} (h : Tape w g) (hb : Below (g + 1) w w') : Tape w' g := by
  obtain ⟨A, n, c, at_, xs, hg, ha, hI, hne⟩ := h
  refine ⟨A, n, c, at_, xs, (hb.block g (by omega)).trans hg, ha, ⟨hI.1, hI.2.1, hI.2.2.1, fun hn => ?_⟩, hne⟩
  obtain ⟨ad, e, hl, hc⟩ := hI.2.2.2 hn
  have := hne ad e hn
  exact ⟨ad, e, by have := hb.size; omega, fun j u hu => (hb.cell (by rw [block_of_add]; omega)).trans (hc j u hu)⟩
theorem Tape.drewN {w : World} {g : Nat} (h : Tape w g) (k : Nat) : Tape (w.drewN k) g := h

/-- A call on a tape leaves the tape a tape, and changes nothing else that was there. -/
def Read (w : World) (g : Nat) (w' : World) : Prop := Tape w' g ∧ w.grownBy w' (some g)


/-- What Shape draws from. -/
def shapeDims : List Int := [1, 2, 3, 4, 5, 0, 7, 2]
theorem dims_at (r : Nat) (h : r < 8) : ∃ x : Int, shapeDims[r]? = some x ∧ 0 ≤ x ∧ x ≤ 7 := by
  have : r = 0 ∨ r = 1 ∨ r = 2 ∨ r = 3 ∨ r = 4 ∨ r = 5 ∨ r = 6 ∨ r = 7 := by omega
  rcases this with rfl | rfl | rfl | rfl | rfl | rfl | rfl | rfl <;> exact ⟨_, rfl, by decide, by decide⟩


theorem fits_bits (op : BinOp) (x y : Int) : Fits (bits op .i64 x y) := bounds_i64 (wf_bits op .i64 x y)

/-- A new tape over a list that came in. -/
theorem tape_new {w : World} {A : Option Addr} {n c : Nat} {xs : List Int} (h : Ints w A n xs) :
    Tape (w.alloc (.cells #[.slice A n c, .int .i64 0] 99999)) w.heap.size := by
  refine ⟨A, n, c, 0, xs, heap_alloc_new w _, by omega, h.alloc _, fun ad he hn => ?_⟩
  obtain ⟨ad', he', hb, _⟩ := h.2.2.2 hn
  rw [he] at he'
  injection he' with he'
  subst he'
  exact hb

theorem Ints.read {w w' : World} {g : Nat} {A : Option Addr} {n : Nat} {xs : List Int} (h : Ints w A n xs) (hr : w.grownBy w' (some g)) (hA : ∀ ad, A = some ad → ad.block ≠ g) : Ints w' A n xs :=
  h.grown hr fun ad e _ he => hA ad e (by injection he)

end Go.Proofs.Ythhfjbhopenchaa
