/- Mathematics of the laws FoldOrders, FoldParts. No Go in it. -/
import Derived.Test.YtiigbkjkmfjhcaaFd
namespace Go.Proofs.Ytiigbkjkmfjhcaa
open Go.RowKit

/-! Orders. -/
theorem perm_range {n : Nat} {l : List Nat} (hd : l.Nodup) (hb : ∀ x ∈ l, x < n) (hl : l.length = n) : l.Perm (List.range n) := by
  rw [List.perm_iff_count]
  intro q
  have hr : (List.range n).Nodup := List.nodup_range
  by_cases hq : q < n
  · have hm : q ∈ l := by
      by_cases hm : q ∈ l
      · exact hm
      · exfalso
        have := pigeon n (q :: l) (List.nodup_cons.2 ⟨hm, hd⟩) (fun x hx => by
          rcases List.mem_cons.1 hx with rfl | hx
          · exact hq
          · exact hb x hx)
        rw [List.length_cons] at this; omega
    have h1 : List.count q l ≤ 1 := List.nodup_iff_count.1 hd q
    have h2 : 0 < List.count q l := List.count_pos_iff.2 hm
    have h3 : List.count q (List.range n) ≤ 1 := List.nodup_iff_count.1 hr q
    have h4 : 0 < List.count q (List.range n) := List.count_pos_iff.2 (List.mem_range.2 hq)
    omega
  · rw [List.count_eq_zero.2 (fun hm => hq (hb q hm)), List.count_eq_zero.2 (fun hm => hq (List.mem_range.1 hm))]
theorem map_getD : ∀ (d : List Int), (List.range d.length).map (fun i => d.getD i 0) = d := fun d => by
  apply List.ext_getElem?
  intro i
  rcases Nat.lt_or_ge i d.length with h | h
  · rw [List.getElem?_map, List.getElem?_range h]
    simp [List.getD_eq_getElem?_getD, List.getElem?_eq_getElem h]
  · rw [List.getElem?_eq_none (by simpa using h), List.getElem?_eq_none h]
theorem turn_perm {s d a : List Int} (h : tenRight s d = true) (g : TuOk s a) : (turnD s d a).Perm d := by
  obtain ⟨hr2, hsz⟩ := turn_right g (right_of h)
  have hdl := len_right h
  have hN : (Sh.size (turnS s a)).toNat = d.length := by rw [hsz]; omega
  have e : turnD s d a = ((List.range d.length).map fun i : Nat => (Sh.index s (turnP s.length a (Sh.placeOf (turnS s a) i))).toNat).map fun j => d.getD j 0 := by
    rw [turnD, gen, hN, List.map_map]; rfl
  rw [e]
  refine List.Perm.trans (List.Perm.map _ (perm_range (n := d.length) ?_ ?_ (by simp))) (by rw [map_getD])
  · rw [List.nodup_iff_pairwise_ne, List.pairwise_iff_getElem]
    intro i j hi hj hij
    simp only [List.length_map, List.length_range] at hi hj
    simp only [List.getElem_map, List.getElem_range]
    intro heq
    have hiz : (i : Int) < Sh.size (turnS s a) := by omega
    have hjz : (j : Int) < Sh.size (turnS s a) := by omega
    obtain ⟨hli, hwi⟩ := turn_within g hiz
    obtain ⟨hlj, hwj⟩ := turn_within g hjz
    have h1 := index_lt (right_of h) hli hwi
    have h2 := index_lt (right_of h) hlj hwj
    have h3 := index_inj (right_of h) hli hwi hlj hwj (by omega)
    obtain ⟨_, hpi, _, _⟩ := placeOf_of hiz
    obtain ⟨_, hpj, _, _⟩ := placeOf_of hjz
    rw [turnS_length] at hpi hpj
    have h4 : Sh.placeOf (turnS s a) i = Sh.placeOf (turnS s a) j := by
      apply List.ext_getElem?
      intro k
      rcases Nat.lt_or_ge k a.length with hk | hk
      · obtain ⟨x, hx⟩ := getElem_of hk
        obtain ⟨y, hy⟩ := getElem_of (l := Sh.placeOf (turnS s a) i) (k := k) (by omega)
        obtain ⟨z, hz⟩ := getElem_of (l := Sh.placeOf (turnS s a) j) (k := k) (by omega)
        have e1 := setAll_at (f := List.replicate s.length 0) g (p := Sh.placeOf (turnS s a) i) hpi (by simp) hk (Nat.le_refl _) hx hy
        have e2 := setAll_at (f := List.replicate s.length 0) g (p := Sh.placeOf (turnS s a) j) hpj (by simp) hk (Nat.le_refl _) hx hz
        rw [turnP] at h3
        rw [h3, turnP, e2] at e1
        injection e1 with e1
        rw [hy, hz, e1]
      · rw [List.getElem?_eq_none (by omega), List.getElem?_eq_none (by omega)]
    have := placeOf_inj hiz hjz h4
    omega
  · intro x hx
    rw [List.mem_map] at hx
    obtain ⟨i, hi, rfl⟩ := hx
    have hi := List.mem_range.1 hi
    obtain ⟨hl, hw⟩ := turn_within g (i := i) (by omega)
    have := index_lt (right_of h) hl hw
    omega
theorem into_all {s axes : List Int} {n : Nat} (h : rest axes s = []) (hn : ∀ i, i < n → (i : Int) < Sh.size s) : into s axes n 0 = List.range n := by
  unfold into
  rw [List.filter_eq_self]
  intro i hi
  have hi := List.mem_range.1 hi
  have := (fold_within (s := s) (axes := axes) (by rw [h]; decide) (hn i hi)).2.2.2
  rw [h] at this
  have e : (Sh.size []).toNat = 1 := by decide
  rw [e] at this
  simp; omega
theorem fold_all {how : Int} {s d axes : List Int} (h : tenRight s d = true) (hz : rest axes s = []) : foldD how s d axes = [d.foldl (putF how) (noneF how)] := by
  have hs : (Sh.size (rest axes s)).toNat = 1 := by rw [hz]; decide
  have hl := foldD_length how s d axes
  have h0 := foldD_at (how := how) (s := s) (d := d) (axes := axes) (j := 0) (by omega)
  rw [into_all hz (fun i hi => by have := len_right h; omega), map_getD] at h0
  apply List.ext_getElem?
  intro j
  cases j with
  | zero => rw [h0]; rfl
  | succ j => rw [List.getElem?_eq_none (by omega), List.getElem?_eq_none (by simp)]
theorem fold_turned {how : Int} {s d a : List Int} (h : tenRight s d = true) (g : TuOk s a) (hz : rest [0, 1, 2] s = []) (hz2 : rest [0, 1, 2] (turnS s a) = []) : foldD how (turnS s a) (turnD s d a) [0, 1, 2] = foldD how s d [0, 1, 2] := by
  have ht : tenRight (turnS s a) (turnD s d a) = true := by
    obtain ⟨hr2, hsz⟩ := turn_right g (right_of h)
    have := Sh.size_bd (turnS s a)
    simp only [tenRight, hr2, Bool.true_and, decide_eq_true_eq, turnD, gen_length]
    omega
  rw [fold_all ht hz2, fold_all h hz, foldl_put_perm (turn_perm h g)]
theorem rest_nil (s : List Int) : rest [] s = s := by
  have : ∀ (s : List Int) (k : Nat), restAt [] k s = s := by
    intro s
    induction s with
    | nil => intro k; rfl
    | cons x s ih => intro k; rw [restAt, if_neg (by simp), ih]
  exact this s 0
theorem fold_none {how : Int} {s d : List Int} (hh : howOk how = true) (h : tenRight s d = true) (hd : ∀ x ∈ d, Fits x) : foldD how s d [] = d := by
  have hl := len_right h
  refine fold_same hh hd (by rw [rest_nil]; omega) fun i hi => ?_
  rw [foldIx, rest_nil, rest_nil, index_placeOf (by omega)]
  rfl
theorem rest_three {p m q : Int} : rest [1] [p, m, q] = [p, q] := by simp [rest, restAt]
theorem rest_allthree {p m q : Int} : rest [0, 1, 2] [p, m, q] = [] := by simp [rest, restAt]
theorem fold_mid {how : Int} {p q : Int} {d : List Int} (hh : howOk how = true) (h : tenRight [p, 1, q] d = true) (hd : ∀ x ∈ d, Fits x) : Sh.right [p, q] = true ∧ foldD how [p, 1, q] d [1] = d := by
  have hr := Sh.right_iff.1 (right_of h)
  have hr2 : Sh.right [p, q] = true := Sh.right_iff.2 ⟨by simp, fun x hx => hr.2.1 x (by simp at hx ⊢; omega), by have := hr.2.2; simpa [Sh.pr] using this⟩
  have hsz : Sh.size [p, 1, q] = Sh.size [p, q] := by rw [Sh.size_of (right_of h), Sh.size_of hr2]; simp [Sh.pr]
  refine ⟨hr2, fold_same hh hd (by rw [rest_three, ← hsz]; have := len_right h; omega) fun i hi => ?_⟩
  have hiz : (i : Int) < Sh.size [p, 1, q] := by have := len_right h; omega
  obtain ⟨hpl, hl, hw, _⟩ := placeOf_of hiz
  have hfw := fold_within (s := [p, 1, q]) (axes := [1]) (by rw [rest_three]; exact hr2) hiz
  have hix := index_placeOf hiz
  rw [Sh.index_of (right_of h) hl hw, Sh.hor_lin hl] at hix
  have h3 := hfw.2.2.1
  rw [rest_three] at hfw h3
  rw [Sh.index_of hr2 hfw.1 hfw.2.1, Sh.hor_lin hfw.1] at h3
  match hpp : Sh.placeOf [p, 1, q] i, hl with
  | [x, y, z], _ =>
    rw [hpp] at hix h3 hw
    have hy := Sh.within_at hw (k := 1) (d := 1) (x := y) rfl rfl
    obtain rfl : y = 0 := by omega
    rw [rest_three] at h3
    simp only [Sh.lin, Sh.pd, Int.mul_one, Int.one_mul, Int.zero_mul] at hix h3
    omega
end Go.Proofs.Ytiigbkjkmfjhcaa
