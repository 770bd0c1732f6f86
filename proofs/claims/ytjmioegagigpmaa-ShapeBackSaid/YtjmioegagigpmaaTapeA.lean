/- The tape of numbers: what it is in memory, and its calls Within, Next. -/
import Derived.Test.YtjmioegagigpmaaRows
import Derived.Test.YtjmioegagigpmaaKit
import Derived.BigQuiet
import Derived.Deep.QuietTactic
namespace Go.Proofs.Ytjmioegagigpmaa
open Go.RowKit

theorem tmod_neg {a : Int} (_ha : a < 0) (h : a.tmod 1073741825 < 0) : a.tmod 1073741825 + 1073741824 + 1 = a % 1073741825 := by
  have e := Int.tmod_eq_emod (a := a) (b := 1073741825)
  by_cases hd : 0 ≤ a ∨ (1073741825 : Int) ∣ a
  · rw [if_pos hd] at e; omega
  · rw [if_neg hd] at e; simp at e; omega
theorem tmod_nonneg {a : Int} (_ha : a < 0) (h : ¬ a.tmod 1073741825 < 0) : a.tmod 1073741825 = a % 1073741825 := by
  have e := Int.tmod_eq_emod (a := a) (b := 1073741825)
  by_cases hd : 0 ≤ a ∨ (1073741825 : Int) ∣ a
  · rw [if_pos hd] at e; omega
  · rw [if_neg hd] at e; simp at e; omega

set_option maxHeartbeats 400000 in
theorem within_any (a : Int) (w : World) (hf : Fits a) :
    Calls Try.prog 24 #[.int .i64 a, .int .i64 0, .int .i64 1073741824] w fun e w' => e = .returned (.int .i64 (a % 1073741825)) ∧ w = w' := by
  obtain ⟨h1, h2⟩ := hf
  by_cases h0 : 0 ≤ a
  · by_cases hb : a ≤ 1073741824
    · go_enter Try.func24, Try.ntmps24
      go_wp2
      go_ret
      exact ⟨ret_int (by omega), rfl⟩
    · go_enter Try.func24, Try.ntmps24
      go_wp2
      go_ret
      exact ⟨ret_int (by omega), rfl⟩
  · have hlt : a < 0 := by omega
    have hm1 : -1073741825 < a.tmod 1073741825 := by
      have e := Int.tmod_eq_emod (a := a) (b := 1073741825)
      by_cases hd : 0 ≤ a ∨ (1073741825 : Int) ∣ a
      · rw [if_pos hd] at e; omega
      · rw [if_neg hd] at e; simp at e; omega
    have hm2 : a.tmod 1073741825 ≤ 0 := by
      have e := Int.tmod_eq_emod (a := a) (b := 1073741825)
      by_cases hd : 0 ≤ a ∨ (1073741825 : Int) ∣ a
      · rw [if_pos hd] at e; omega
      · rw [if_neg hd] at e; simp at e; omega
    by_cases ht : a.tmod 1073741825 < 0
    · have HX := Lib.hid (tmod_neg hlt ht)
      go_enter Try.func24, Try.ntmps24
      go_wp2
      go_ret
      exact ⟨ret_int (by rw [← HX.out]), rfl⟩
    · have HX := Lib.hid (tmod_nonneg hlt ht)
      go_enter Try.func24, Try.ntmps24
      go_wp2
      go_ret
      exact ⟨ret_int (by rw [← HX.out]), rfl⟩

/-- Block g is a tape: a list of numbers that lies elsewhere, and how many were read. -/
def Tape (w : World) (g : Nat) : Prop :=
  ∃ (A : Option Addr) (n c at_ : Nat) (xs : List Int), w.heap[g]? = some (.cells #[.slice A n c, .int .i64 at_] 29 (0, 0)) ∧ at_ ≤ n ∧ Ints w A n xs ∧ ∀ ad, A = some ad → 0 < n → ad.block < g

theorem Tape.lt {w : World} {g : Nat} (h : Tape w g) : g < w.heap.size := by
  obtain ⟨A, n, c, at_, xs, hg, _⟩ := h
  rcases Nat.lt_or_ge g w.heap.size with hlt | hge
  · exact hlt
  · rw [Array.getElem?_eq_none hge] at hg; cases hg
theorem Tape.below {w w' : World} {g : Nat} (h : Tape w g) (hb : Below w.heap.size w w') : Tape w' g := by
  have hl := h.lt
  obtain ⟨A, n, c, at_, xs, hg, ha, hI, hne⟩ := h
  exact ⟨A, n, c, at_, xs, (hb.block g hl).trans hg, ha, hI.below hb, hne⟩
/-- Nothing up to the tape's own block has changed. -/
theorem Tape.over {w w' : World} {g : Nat} (h : Tape w g) (hb : Below (g + 1) w w') : Tape w' g := by
  obtain ⟨A, n, c, at_, xs, hg, ha, hI, hne⟩ := h
  refine ⟨A, n, c, at_, xs, (hb.block g (by omega)).trans hg, ha, ⟨hI.1, hI.2.1, hI.2.2.1, fun hn => ?_⟩, hne⟩
  obtain ⟨ad, e, hl, hc⟩ := hI.2.2.2 hn
  have := hne ad e hn
  exact ⟨ad, e, by have := hb.size; omega, fun j u hu => (hb.cell (by rw [block_of_add]; omega)).trans (hc j u hu)⟩
theorem Tape.drewN {w : World} {g : Nat} (h : Tape w g) (k : Nat) : Tape (w.drewN k) g := h

/-- A call on a tape leaves the tape a tape, and changes nothing else that was there. -/
def Read (w : World) (g : Nat) (w' : World) : Prop := Tape w' g ∧ w.grownBy w' (some g)

set_option maxHeartbeats 800000 in
theorem next_any {w : World} {g : Nat} (m : Int) (h : Tape w g) (hm : Fits m) :
    Calls Try.prog 11 #[.pointer (some ⟨g, 0, none⟩), .int .i64 m] w fun e w' => (∃ r : Int, e = .returned (.int .i64 r) ∧ 0 ≤ r ∧ (r = 0 ∨ r < m)) ∧ Read w g w' := by
  have hT := h
  obtain ⟨A, n, c, at_, xs, hg, ha, hI, hne⟩ := h
  obtain ⟨hm1, hm2⟩ := hm
  have hle := hI.le
  have hc0 : w.cell? ⟨g, 0, none⟩ = some (.slice A n c) := by rw [cell_of_row w g 0 _ _ _ hg]; rfl
  have hc1 : w.cell? ⟨g, 1, none⟩ = some (.int .i64 at_) := by rw [cell_of_row w g 1 _ _ _ hg]; rfl
  have hQ := Lib.hid hT; clear hT
  have hfz : w.frozen? ⟨g, 1, none⟩ = false := frozen_of_row w g 1 _ _ hg
  have HG := Lib.hid hg; clear hg
  by_cases h1 : at_ = n
  · subst h1
    have hd1 : decide (at_ ≤ at_) = true := by simp
    have hd2 : decide ((at_ : Int) ≤ (at_ : Int)) = true := by simp
    go_enter Try.func11, Try.ntmps11
    go_wp2
    go_quiet (fail)
    go_wp2
    go_ret
    exact ⟨⟨0, rfl, by omega, .inl rfl⟩, hQ.out.drewN _, grown_drewN _ _ _⟩
  · have h2 : at_ < n := by omega
    obtain ⟨ad, x, rfl, hb, hx, hcx, hf⟩ := hI.at_ h2
    have hne' : ad.block ≠ g := by have := hne ad rfl (by omega); omega
    have hd1 : decide (n ≤ at_) = false := by simp; omega
    have hd2 : decide ((n : Int) ≤ (at_ : Int)) = false := by simp; omega
    by_cases hm0 : m < 1
    · have hd3 : decide (m < 1) = true := by simp; omega
      go_enter Try.func11, Try.ntmps11
      go_wp2
      go_quiet (fail)
      go_wp2
      go_ret
      exact ⟨⟨0, rfl, by omega, .inl rfl⟩, hQ.out.drewN _, grown_drewN _ _ _⟩
    · have hd3 : decide (m < 1) = false := by simp; omega
      go_enter Try.func11, Try.ntmps11
      go_wp2
      go_quiet (fail)
      go_wp2
      have hG2 : w.grownBy ((w.drewN nq).setCell ⟨g, 1, none⟩ (.int .i64 (at_ + 1))) (some g) := grown_trans (grown_drewN w nq _) (grown_setCell _ g 1 _)
      have hI2 := hI.grown hG2 (fun ad' e _ => by injection e with e; subst e; intro h'; injection h' with h'; exact hne' h')
      have hg2 : ((w.drewN nq).setCell ⟨g, 1, none⟩ (.int .i64 (at_ + 1))).heap[g]? = some (.cells #[.slice (some ad) n c, .int .i64 ((at_ + 1 : Nat) : Int)] 29 (0, 0)) := heap_setCell_same (w.drewN nq) g 1 _ _ (.int .i64 (at_ + 1)) HG.out
      have hT2 := Lib.hid (p := Tape ((w.drewN nq).setCell ⟨g, 1, none⟩ (.int .i64 (at_ + 1))) g) ⟨some ad, n, c, at_ + 1, xs, hg2, by omega, hI2, hne⟩
      have hcx := hI2.get hx
      clear hQ hI
      generalize hw2 : (w.drewN nq).setCell ⟨g, 1, none⟩ (.int .i64 (at_ + 1)) = w2 at *
      clear hw2
      have hc0 : w2.cell? ⟨g, 0, none⟩ = some (.slice (some ad) n c) := by rw [cell_of_row w2 g 0 _ _ _ hg2]; rfl
      have hc1 : w2.cell? ⟨g, 1, none⟩ = some (.int .i64 ((at_ : Int) + 1)) := by rw [cell_of_row w2 g 1 _ _ _ hg2]; rfl
      have HX := Lib.hid hx
      have HH := Lib.hid hg2
      have HGG := Lib.hid hG2
      clear hx hg2 hd1 hd2 hd3 hG2 HG hfz
      have hr0 : 0 ≤ x % 1073741825 := Int.emod_nonneg _ (by omega)
      have hr1 : x % 1073741825 < 1073741825 := Int.emod_lt_of_pos _ (by omega)
      have hs0 : 0 ≤ x % 1073741825 % m := Int.emod_nonneg _ (by omega)
      have hs1 : x % 1073741825 % m < m := Int.emod_lt_of_pos _ (by omega)
      go_quiet ((go_at_call 24; exact quietS (within_any _ _ hf)))
      go_wp2
      go_ret
      exact ⟨⟨_, rfl, by omega, .inr (by omega)⟩, hT2.out.drewN _, grown_trans HGG.out (grown_drewN _ _ _)⟩
end Go.Proofs.Ytjmioegagigpmaa
