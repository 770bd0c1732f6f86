/- Contracts of the fourth reference, chapter 4: Two, Pick. -/
import Derived.Test.YtiigbkjkmfjhcaaRef4
namespace Go.Proofs.Ytiigbkjkmfjhcaa
open Go.RowKit

theorem tens_two {w : World} {g : Nat} {S D S' D' : Option Addr} {sn sc dn dc sn' sc' dn' dc' : Nat} {s d t k : List Int} (hg : w.heap[g]? = some (.cells #[.slice S sn sc, .slice D dn dc, .slice S' sn' sc', .slice D' dn' dc'] 27 (0, 0)))
    (h : Ten w (.agg #[.slice S sn sc, .slice D dn dc]) s d) (h' : Ten w (.agg #[.slice S' sn' sc', .slice D' dn' dc']) t k) : Tens w (some ⟨g, 0, none⟩) 2 [(s, d), (t, k)] :=
  ⟨rfl, by omega, fun j x hx => by
    have c0 : w.cell? ⟨g, 0, none⟩ = _ := cell_of_row _ _ 0 _ _ _ hg
    have c1 : w.cell? ⟨g, 1, none⟩ = _ := cell_of_row _ _ 1 _ _ _ hg
    have c2 : w.cell? ⟨g, 2, none⟩ = _ := cell_of_row _ _ 2 _ _ _ hg
    have c3 : w.cell? ⟨g, 3, none⟩ = _ := cell_of_row _ _ 3 _ _ _ hg
    match j, hx with
    | 0, hx => simp at hx; subst hx; exact ⟨_, S, sn, sc, D, dn, dc, rfl, block_lt_of_cell c0, c0, c1, h⟩
    | 1, hx => simp at hx; subst hx; exact ⟨_, S', sn', sc', D', dn', dc', rfl, block_lt_of_cell c0, c2, c3, h'⟩
    | j + 2, hx => simp at hx⟩
theorem allR_two {s d t k : List Int} : allR (s, d) [(s, d), (t, k)] = if (tenRight s d && (tenRight t k && t == s)) = true then 0 else 13 := by simp [allR]
theorem right_two {s d t k : List Int} (h : (tenRight s d && (tenRight t k && t == s)) = true) : tenRight s d = true ∧ tenRight t k = true ∧ t = s := by
  simp only [Bool.and_eq_true, beq_iff_eq] at h
  exact ⟨h.1, h.2.1, h.2.2⟩

theorem tens_three {w : World} {g : Nat} {S D S' D' S0 D0 : Option Addr} {sn sc dn dc sn' sc' dn' dc' sn0 sc0 dn0 dc0 : Nat} {cs cd s d t k : List Int}
    (hg : w.heap[g]? = some (.cells #[.slice S0 sn0 sc0, .slice D0 dn0 dc0, .slice S sn sc, .slice D dn dc, .slice S' sn' sc', .slice D' dn' dc'] 27 (0, 0)))
    (h0 : Ten w (.agg #[.slice S0 sn0 sc0, .slice D0 dn0 dc0]) cs cd) (h : Ten w (.agg #[.slice S sn sc, .slice D dn dc]) s d) (h' : Ten w (.agg #[.slice S' sn' sc', .slice D' dn' dc']) t k) : Tens w (some ⟨g, 0, none⟩) 3 [(cs, cd), (s, d), (t, k)] :=
  ⟨rfl, by omega, fun j x hx => by
    have c0 : w.cell? ⟨g, 0, none⟩ = _ := cell_of_row _ _ 0 _ _ _ hg
    have c1 : w.cell? ⟨g, 1, none⟩ = _ := cell_of_row _ _ 1 _ _ _ hg
    have c2 : w.cell? ⟨g, 2, none⟩ = _ := cell_of_row _ _ 2 _ _ _ hg
    have c3 : w.cell? ⟨g, 3, none⟩ = _ := cell_of_row _ _ 3 _ _ _ hg
    have c4 : w.cell? ⟨g, 4, none⟩ = _ := cell_of_row _ _ 4 _ _ _ hg
    have c5 : w.cell? ⟨g, 5, none⟩ = _ := cell_of_row _ _ 5 _ _ _ hg
    match j, hx with
    | 0, hx => simp at hx; subst hx; exact ⟨_, S0, sn0, sc0, D0, dn0, dc0, rfl, block_lt_of_cell c0, c0, c1, h0⟩
    | 1, hx => simp at hx; subst hx; exact ⟨_, S, sn, sc, D, dn, dc, rfl, block_lt_of_cell c0, c2, c3, h⟩
    | 2, hx => simp at hx; subst hx; exact ⟨_, S', sn', sc', D', dn', dc', rfl, block_lt_of_cell c0, c4, c5, h'⟩
    | j + 3, hx => simp at hx⟩
theorem allR_three {cs cd s d t k : List Int} : allR (cs, cd) [(cs, cd), (s, d), (t, k)] = if (tenRight cs cd && (tenRight s d && s == cs && (tenRight t k && t == cs))) = true then 0 else 13 := by simp [allR]
theorem right_three {cs cd s d t k : List Int} (h : (tenRight cs cd && (tenRight s d && s == cs && (tenRight t k && t == cs))) = true) : tenRight cs cd = true ∧ tenRight s d = true ∧ tenRight t k = true ∧ s = cs ∧ t = cs := by
  simp only [Bool.and_eq_true, beq_iff_eq] at h
  exact ⟨h.1, h.2.1.1, h.2.2.1, h.2.1.2, h.2.2.2⟩
theorem pickR_ok {cs cd s d t k : List Int} (h : (tenRight cs cd && (tenRight s d && s == cs && (tenRight t k && t == cs))) = true) : pickR cs cd s d t k = (0, s, pick3 cd d k) := by rw [pickR, if_pos h]
theorem pickR_shape {cs cd s d t k : List Int} (h : (tenRight cs cd && (tenRight s d && s == cs && (tenRight t k && t == cs))) = false) : pickR cs cd s d t k = refused 13 := by rw [pickR, h]; rfl

end Go.Proofs.Ytiigbkjkmfjhcaa
