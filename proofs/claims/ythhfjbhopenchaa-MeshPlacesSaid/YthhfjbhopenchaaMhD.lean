/- Devices by the first one of a line and how far apart they are. No Go in them. -/
import Derived.Test.YthhfjbhopenchaaMhB
namespace Go.Proofs.Ythhfjbhopenchaa
open Go.RowKit
namespace Mh

theorem pd_pos {s : List Int} (h : ∀ x ∈ s, 1 ≤ x ∧ x ≤ 8) : 1 ≤ Sh.pd s := by
  induction s with
  | nil => simp [Sh.pd]
  | cons x r ih =>
    have h1 := h x (by simp)
    have h2 := ih fun y hy => h y (by simp [hy])
    have h3 := Int.mul_le_mul_of_nonneg_left h2 (show 0 ≤ x by omega)
    rw [Sh.pd]; omega
theorem le_left {a b m : Int} (ha : 1 ≤ a) (hb : 1 ≤ b) (h : a * b ≤ m) : a ≤ m := by
  have h3 := Int.mul_le_mul_of_nonneg_left hb (show 0 ≤ a by omega); omega
theorem le_right {a b m : Int} (ha : 1 ≤ a) (hb : 1 ≤ b) (h : a * b ≤ m) : b ≤ m := le_left hb ha (by rw [Int.mul_comm]; exact h)
theorem right_cut {s : List Int} (h : right s = true) (k : Nat) : (1 ≤ Sh.pd (s.take k) ∧ Sh.pd (s.take k) ≤ 8) ∧ 1 ≤ Sh.pd (s.drop k) ∧ Sh.pd (s.drop k) ≤ 8 := by
  obtain ⟨h1, h2, h3⟩ := right_iff.1 h
  rw [Sh.pr_pd, ← List.take_append_drop k s, Sh.pd_append] at h3
  have ha := pd_pos fun x hx => h2 x (List.mem_of_mem_take (i := k) hx)
  have hb := pd_pos fun x hx => h2 x (List.mem_of_mem_drop (i := k) hx)
  exact ⟨⟨ha, le_left ha hb h3⟩, hb, le_right ha hb h3⟩
theorem right_part {s : List Int} (h : right s = true) (k : Nat) : 1 ≤ Sh.pr (s.take k) ∧ Sh.pr (s.take k) ≤ 8 := by
  rw [Sh.pr_pd]; exact (right_cut h k).1
/-- A size that is too small, or too great for what the ones before leave. -/
theorem dev_out {s : List Int} {k : Nat} {x p : Int} (hx : s[k]? = some x) (hp : Sh.pr (s.take k) = p) (h : x < 1 ∨ 8 / p < x) : right s = false := by
  cases hr : right s with
  | false => rfl
  | true =>
    exfalso
    have h1 := (right_iff.1 hr).2.1 x (List.mem_of_getElem? hx)
    have h2 := (right_part hr (k + 1)).2
    have h3 := (right_part hr k).1
    rw [Sh.pr_take _ hx, hp] at h2
    rw [hp] at h3
    have h4 : x ≤ 8 / p := Int.le_ediv_of_mul_le (by omega) (by rw [Int.mul_comm]; exact h2)
    omega
theorem dev_end {s : List Int} (h3 : s.length ≤ 3) (h : ∀ x ∈ s, 1 ≤ x ∧ x ≤ 8) (hp : Sh.pr s ≤ 8) : size s = Sh.pr s := size_of (right_iff.2 ⟨h3, h, hp⟩)
theorem right_size (s : List Int) : right s = decide (0 < size s) := by
  cases hr : right s with
  | false => rw [size_not hr]; rfl
  | true =>
    have h := (right_part hr s.length).1
    rw [List.take_length] at h
    rw [size_of hr]
    exact (decide_eq_true (by omega)).symm
/-- The number of a device's place with one thing else. -/
theorem index_line {s : List Int} {i : Int} {k : Nat} {d : Int} (h0 : 0 ≤ i) (h : i < size s) (hd : s[k]? = some d) {y : Int} (hy : 0 ≤ y ∧ y < d) :
    index s ((Sh.place s i).set k y) = i - i / Sh.pd (s.drop (k + 1)) % d * Sh.pd (s.drop (k + 1)) + y * Sh.pd (s.drop (k + 1)) ∧ 0 ≤ index s ((Sh.place s i).set k y) ∧ index s ((Sh.place s i).set k y) ≤ 7 := by
  have hr := size_right h0 h
  obtain ⟨_, hall, hbig⟩ := right_iff.1 hr
  have hw := Sh.within_set (Sh.within_place (fun x hx => ⟨(hall x hx).1, by have := (hall x hx).2; omega⟩) i) hd hy
  have hl : ((Sh.place s i).set k y).length = s.length := by rw [List.length_set, Sh.place_length]
  have hb := Sh.hor_bd hw hl.symm
  rw [index_of hr hl hw]
  refine ⟨?_, hb.1, by omega⟩
  rw [Sh.hor_lin hl, Sh.lin_set (Sh.place_at hd) (Sh.strides_at hd) (Sh.place_length s i), Sh.lin_place_of h0 (by rw [size_sh hr]; exact h), Int.sub_mul]
  omega
/-- What the code reckons of a line. -/
theorem line_bd {s : List Int} {i : Int} {k : Nat} {d : Int} (h0 : 0 ≤ i) (h : i < size s) (hd : s[k]? = some d) :
    (1 ≤ d ∧ d ≤ 8) ∧ (1 ≤ Sh.pd (s.drop (k + 1)) ∧ Sh.pd (s.drop (k + 1)) ≤ 8) ∧ (0 ≤ i / Sh.pd (s.drop (k + 1)) % d ∧ i / Sh.pd (s.drop (k + 1)) % d < d) ∧
      0 ≤ i - i / Sh.pd (s.drop (k + 1)) % d * Sh.pd (s.drop (k + 1)) ∧ i - i / Sh.pd (s.drop (k + 1)) % d * Sh.pd (s.drop (k + 1)) ≤ 7 := by
  have hr := size_right h0 h
  have h1 := (right_iff.1 hr).2.1 d (List.mem_of_getElem? hd)
  have h2 := index_line h0 h hd (y := 0) ⟨by omega, by omega⟩
  refine ⟨h1, (right_cut hr (k + 1)).2, ⟨Int.emod_nonneg _ (by omega), Int.emod_lt_of_pos _ (by omega)⟩, ?_, ?_⟩ <;> omega
theorem group_of {s : List Int} {i : Int} {k q : Nat} (h0 : 0 ≤ i) (h : i < size s) (hd : s[k]? = some (q : Int)) :
    (group s i k).length = q ∧ ∀ j : Nat, j < q → (group s i k)[j]? = some (i - i / Sh.pd (s.drop (k + 1)) % q * Sh.pd (s.drop (k + 1)) + j * Sh.pd (s.drop (k + 1))) := by
  have hk : k < s.length := (List.getElem?_eq_some_iff.1 hd).1
  have e : group s i k = (List.range q).map fun (x : Nat) => index s ((Sh.place s i).set k x) := by
    unfold group
    rw [if_pos ⟨h0, h, by omega, by omega⟩, Int.toNat_natCast, List.getD_eq_getElem?_getD, hd]; rfl
  refine ⟨by rw [e]; simp, fun j hj => ?_⟩
  rw [e, List.getElem?_map, List.getElem?_range hj]
  show some (index s ((Sh.place s i).set k (j : Int))) = _
  rw [(index_line h0 h hd ⟨by omega, by omega⟩).1]
theorem step_of {s : List Int} {i b : Int} {k q : Nat} (h0 : 0 ≤ i) (h : i < size s) (hd : s[k]? = some (q : Int)) :
    step s i k b = i - i / Sh.pd (s.drop (k + 1)) % q * Sh.pd (s.drop (k + 1)) + turn (i / Sh.pd (s.drop (k + 1)) % q) b q * Sh.pd (s.drop (k + 1)) := by
  obtain ⟨h1, h2⟩ := group_of h0 h hd
  obtain ⟨⟨h3, _⟩, _⟩ := line_bd h0 h hd
  obtain ⟨h4, h5⟩ := turn_bd (x := i / Sh.pd (s.drop (k + 1)) % q) (b := b) (n := q) (by omega)
  obtain ⟨j, hj⟩ := Int.eq_ofNat_of_zero_le h4
  unfold step
  rw [if_neg (by omega), h1, Int.toNat_natCast, List.getD_eq_getElem?_getD, List.getD_eq_getElem?_getD, Sh.place_at hd]
  show (group s i k)[(turn (i / Sh.pd (s.drop (k + 1)) % q) b q).toNat]?.getD 0 = _
  rw [hj, Int.toNat_natCast, h2 j (by omega)]; rfl
theorem step_not {s : List Int} {i k b : Int} (h : ¬ (0 ≤ i ∧ i < size s ∧ 0 ≤ k ∧ k < s.length)) : step s i k b = -1 := by
  unfold step
  rw [if_pos]
  unfold group
  rw [if_neg h]; rfl
theorem group_not {s : List Int} {i k : Int} (h : ¬ (0 ≤ i ∧ i < size s ∧ 0 ≤ k ∧ k < s.length)) : group s i k = [] := by
  unfold group
  rw [if_neg h]
/-- One '%' more takes what is left into the round. -/
theorem turn_two {x b n : Int} (h0 : 0 ≤ x) (hn : 0 < n) : (x + b.tmod n + n).tmod n = turn x b n ∧ -n < b.tmod n ∧ b.tmod n < n := by
  obtain ⟨h1, h2, _⟩ := tmod_bd (a := b) hn
  refine ⟨?_, h1, h2⟩
  rw [turn_emod hn, Int.tmod_eq_emod_of_nonneg (by omega), Int.add_emod_right, Int.add_emod, tmod_emod', ← Int.add_emod]
end Mh
end Go.Proofs.Ythhfjbhopenchaa
