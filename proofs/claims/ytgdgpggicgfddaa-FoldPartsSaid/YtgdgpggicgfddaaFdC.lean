/- Mathematics of the law FoldParts. No Go in it. -/
import Derived.Test.YtgdgpggicgfddaaFdB
namespace Go.Proofs.Ytgdgpggicgfddaa
open Go.RowKit

theorem restAt_high {axes : List Int} : ∀ {xs : List Int} {k : Nat}, (∀ a ∈ axes, a < k) → restAt axes k xs = xs
  | [], _, _ => rfl
  | x :: xs, k, h => by
    rw [restAt, if_neg (fun hm => by have := h _ hm; omega), restAt_high (fun a ha => by have := h a ha; omega)]
theorem rest01 (x y : Int) (r : List Int) : rest [0, 1] (x :: y :: r) = r := by
  rw [rest, restAt, if_pos (by simp), restAt, if_pos (by simp), restAt_high (fun a ha => by simp at ha; omega)]
theorem rest1 (x y : Int) (r : List Int) : rest [1] (x :: y :: r) = x :: r := by
  rw [rest, restAt, if_neg (by simp), restAt, if_pos (by simp), restAt_high (fun a ha => by simp at ha; omega)]
theorem rest0 (x : Int) (r : List Int) : rest [0] (x :: r) = r := by
  rw [rest, restAt, if_pos (by simp), restAt_high (fun a ha => by simp at ha; omega)]

/-- The numbers below n rows of M that stand at j. -/
theorem col_list {M j : Nat} (hj : j < M) : ∀ n : Nat, (List.range (n * M)).filter (fun i => decide (i % M = j)) = (List.range n).map fun x => x * M + j
  | 0 => by simp
  | n + 1 => by
    rw [Nat.add_mul, Nat.one_mul, List.range_add, List.filter_append, col_list hj n, List.range_succ, List.map_append]
    congr 1
    have h1 : ((List.range M).map fun x => n * M + x).filter (fun i => decide (i % M = j)) = ((List.range M).filter fun x => decide (x = j)).map fun x => n * M + x := by
      rw [List.filter_map]
      congr 1
      apply List.filter_congr
      intro x hx
      have hx := List.mem_range.1 hx
      simp only [Function.comp]
      rw [Nat.mul_comm n M, Nat.mul_add_mod, Nat.mod_eq_of_lt hx]
    rw [h1]
    have h2 : ∀ m, j < m → (List.range m).filter (fun x => decide (x = j)) = [j] := by
      intro m
      induction m with
      | zero => intro h; omega
      | succ m ih =>
        intro hm
        rw [List.range_succ, List.filter_append]
        rcases Nat.lt_or_ge j m with h | h
        · rw [ih h]
          have : ¬ m = j := by omega
          simp [this]
        · obtain rfl : j = m := by omega
          have : (List.range j).filter (fun i => decide (i = j)) = [] := by
            rw [List.filter_eq_nil_iff]
            intro a ha
            have := List.mem_range.1 ha
            simp; omega
          rw [this]; simp
    rw [h2 M hj]; rfl

section
variable {r : List Int} {M : Nat}
theorem dims_pos {s : List Int} {i : Nat} (h : (i : Int) < Sh.size s) : ∀ x ∈ s, 1 ≤ x ∧ x ≤ 32 := (Sh.size_pos (by omega) h).2
/-- The number of what is left of a place. -/
theorem tail_index (hr : Sh.right r = true) (hM : Sh.pd r = M) (hp : ∀ x ∈ r, 1 ≤ x ∧ x ≤ 32) (i : Nat) : Sh.index r (Sh.place r i) = ((i % M : Nat) : Int) := by
  rw [Sh.index_of hr (Sh.place_length _ _) (Sh.within_place hp _), Sh.hor_lin (Sh.place_length _ _), Sh.lin_place r (fun x hx => ⟨by have := (hp x hx).1; omega, (hp x hx).2⟩), hM]
  omega
theorem ix01 {x y : Int} (hr : Sh.right r = true) (hM : Sh.pd r = M) {i : Nat} (hi : (i : Int) < Sh.size (x :: y :: r)) : foldIx (x :: y :: r) [0, 1] i = i % M := by
  have hp := dims_pos hi
  rw [foldIx, (placeOf_of hi).1, Sh.place, Sh.place, rest01, rest01, tail_index hr hM (fun z hz => hp z (by simp [hz]))]
  omega
theorem ix0 {x : Int} (hr : Sh.right r = true) (hM : Sh.pd r = M) {i : Nat} (hi : (i : Int) < Sh.size (x :: r)) : foldIx (x :: r) [0] i = i % M := by
  have hp := dims_pos hi
  rw [foldIx, (placeOf_of hi).1, Sh.place, rest0, rest0, tail_index hr hM (fun z hz => hp z (by simp [hz]))]
  omega
theorem into01 {x y : Int} (hr : Sh.right r = true) (hM : Sh.pd r = M) {n j : Nat} (hj : j < M) (hn : ((n * M : Nat) : Int) ≤ Sh.size (x :: y :: r)) : into (x :: y :: r) [0, 1] (n * M) j = (List.range n).map fun q => q * M + j := by
  rw [← col_list hj n]
  unfold into
  apply List.filter_congr
  intro i hi
  have hi := List.mem_range.1 hi
  rw [ix01 hr hM (by omega)]
theorem into0 {x : Int} (hr : Sh.right r = true) (hM : Sh.pd r = M) {n j : Nat} (hj : j < M) (hn : ((n * M : Nat) : Int) ≤ Sh.size (x :: r)) : into (x :: r) [0] (n * M) j = (List.range n).map fun q => q * M + j := by
  rw [← col_list hj n]
  unfold into
  apply List.filter_congr
  intro i hi
  have hi := List.mem_range.1 hi
  rw [ix0 hr hM (by omega)]
theorem size_of_pd {s : List Int} (h : Sh.right s = true) : Sh.size s = Sh.pd s := by rw [Sh.size_of h, Sh.pr_pd]
/-- A place of three by four rows, its number. -/
theorem lin_two (x y : Int) (hM : Sh.pd r = M) (i : Nat) (hd : ∀ z ∈ r, 0 ≤ z ∧ z ≤ 32) (a b : Int) : Sh.lin (x :: y :: r) (a :: b :: Sh.place r i) = a * (y * M) + (b * M + ((i % M : Nat) : Int)) := by
  rw [Sh.lin, Sh.lin, Sh.pd, hM, Sh.lin_place r hd, hM]
  congr 1
theorem ix1 (hs : Sh.right (3 :: 4 :: r) = true) (hr3 : Sh.right (3 :: r) = true) (hM : Sh.pd r = M) {i : Nat} (hi : i < 12 * M) : foldIx (3 :: 4 :: r) [1] i = i / (4 * M) * M + i % M := by
  have hsz : (i : Int) < Sh.size (3 :: 4 :: r) := by rw [size_of_pd hs, Sh.pd, Sh.pd, hM]; omega
  have hp := dims_pos hsz
  have hpr : ∀ z ∈ r, 1 ≤ z ∧ z ≤ 32 := fun z hz => hp z (by simp [hz])
  obtain ⟨hw1, hw2, hw3, _⟩ := fold_within (s := 3 :: 4 :: r) (axes := [1]) (by rw [rest1]; exact hr3) hsz
  rw [rest1] at hw1 hw2 hw3
  rw [(placeOf_of hsz).1, Sh.place, Sh.place, rest1] at hw1 hw2 hw3
  rw [Sh.index_of hr3 hw1 hw2, Sh.hor_lin hw1, Sh.lin, hM, Sh.lin_place r (fun x hx => ⟨by have := (hpr x hx).1; omega, (hpr x hx).2⟩), hM, Sh.pd, hM] at hw3
  have hM0 : 0 < M := by omega
  have e : (i : Int) / (4 * (M : Int)) % 3 = ((i / (4 * M) : Nat) : Int) := by
    have h1 : (i : Int) / (4 * (M : Int)) = ((i / (4 * M) : Nat) : Int) := by simp
    rw [h1]
    have h2 : i / (4 * M) < 3 := by rw [Nat.div_lt_iff_lt_mul (by omega)]; omega
    generalize i / (4 * M) = t at h2 ⊢
    omega
  rw [e] at hw3
  have h4 : (i : Int) % (M : Int) = ((i % M : Nat) : Int) := by simp
  rw [h4] at hw3
  have h5 : ((i / (4 * M) : Nat) : Int) * (M : Int) = ((i / (4 * M) * M : Nat) : Int) := by simp
  rw [h5] at hw3
  omega
theorem into1 (hs : Sh.right (3 :: 4 :: r) = true) (hr3 : Sh.right (3 :: r) = true) (hM : Sh.pd r = M) {x j : Nat} (hj : j < M) (hx : x < 3) : into (3 :: 4 :: r) [1] (12 * M) (x * M + j) = [(4 * x) * M + j, (4 * x + 1) * M + j, (4 * x + 2) * M + j, (4 * x + 3) * M + j] := by
  have h1 : into (3 :: 4 :: r) [1] (12 * M) (x * M + j) = ((List.range (12 * M)).filter (fun i => decide (i % M = j))).filter fun i => decide (i / (4 * M) = x) := by
    rw [List.filter_filter]
    unfold into
    apply List.filter_congr
    intro i hi
    have hi := List.mem_range.1 hi
    rw [ix1 hs hr3 hM hi]
    have h2 : i % M < M := Nat.mod_lt _ (by omega)
    have key : i / (4 * M) * M + i % M = x * M + j ↔ i / (4 * M) = x ∧ i % M = j := by
      constructor
      · intro h
        have h3 : (i / (4 * M) * M + i % M) / M = (x * M + j) / M := by rw [h]
        have h4 : (i / (4 * M) * M + i % M) % M = (x * M + j) % M := by rw [h]
        rw [Nat.mul_comm (i / (4 * M)) M, Nat.mul_comm x M, Nat.mul_add_div (by omega), Nat.mul_add_div (by omega), Nat.div_eq_of_lt h2, Nat.div_eq_of_lt hj] at h3
        rw [Nat.mul_comm (i / (4 * M)) M, Nat.mul_comm x M, Nat.mul_add_mod, Nat.mul_add_mod, Nat.mod_mod, Nat.mod_eq_of_lt hj] at h4
        omega
      · rintro ⟨h3, h4⟩; rw [h3, h4]
    by_cases hk : i / (4 * M) = x ∧ i % M = j
    · simp [hk.1, hk.2]
    · have h5 := fun h => hk (key.1 h)
      rw [decide_eq_false h5]
      by_cases h6 : i / (4 * M) = x
      · have h7 : ¬ i % M = j := fun h => hk ⟨h6, h⟩
        simp [h7]
      · simp [h6]
  rw [h1, col_list hj 12, List.filter_map]
  have h2 : ((fun i => decide (i / (4 * M) = x)) ∘ fun q => q * M + j) = fun q : Nat => decide (q / 4 = x) := by
    funext q
    simp only [Function.comp]
    rw [Nat.mul_comm 4 M, ← Nat.div_div_eq_div_mul, Nat.mul_comm q M, Nat.mul_add_div (by omega), Nat.div_eq_of_lt hj, Nat.add_zero]
  rw [h2]
  have hx3 : x = 0 ∨ x = 1 ∨ x = 2 := by omega
  rcases hx3 with rfl | rfl | rfl
  · rw [show (List.range 12).filter (fun q : Nat => decide (q / 4 = 0)) = [0, 1, 2, 3] by decide]; simp
  · rw [show (List.range 12).filter (fun q : Nat => decide (q / 4 = 1)) = [4, 5, 6, 7] by decide]; simp
  · rw [show (List.range 12).filter (fun q : Nat => decide (q / 4 = 2)) = [8, 9, 10, 11] by decide]; simp

theorem fold01_at {how x y : Int} {d : List Int} {n : Nat} (hr : Sh.right r = true) (hM : Sh.pd r = M) (hd : d.length = n * M) (hn : ((n * M : Nat) : Int) = Sh.size (x :: y :: r)) {j : Nat} (hj : j < M) :
    (foldD how (x :: y :: r) d [0, 1])[j]? = some (((List.range n).map fun q => d.getD (q * M + j) 0).foldl (putF how) (noneF how)) := by
  have hsz : (Sh.size (rest [0, 1] (x :: y :: r))).toNat = M := by rw [rest01, size_of_pd hr, hM]; omega
  rw [foldD_at (by omega), hd, into01 hr hM hj (by omega), List.map_map]
  rfl
theorem fold0_at {how x : Int} {d : List Int} {n : Nat} (hr : Sh.right r = true) (hM : Sh.pd r = M) (hd : d.length = n * M) (hn : ((n * M : Nat) : Int) = Sh.size (x :: r)) {j : Nat} (hj : j < M) :
    (foldD how (x :: r) d [0])[j]? = some (((List.range n).map fun q => d.getD (q * M + j) 0).foldl (putF how) (noneF how)) := by
  have hsz : (Sh.size (rest [0] (x :: r))).toNat = M := by rw [rest0, size_of_pd hr, hM]; omega
  rw [foldD_at (by omega), hd, into0 hr hM hj (by omega), List.map_map]
  rfl
theorem fold1_at {how : Int} {d : List Int} (hs : Sh.right (3 :: 4 :: r) = true) (hr3 : Sh.right (3 :: r) = true) (hM : Sh.pd r = M) (hd : d.length = 12 * M) {x j : Nat} (hj : j < M) (hx : x < 3) :
    (foldD how (3 :: 4 :: r) d [1])[x * M + j]? = some ([d.getD ((4 * x) * M + j) 0, d.getD ((4 * x + 1) * M + j) 0, d.getD ((4 * x + 2) * M + j) 0, d.getD ((4 * x + 3) * M + j) 0].foldl (putF how) (noneF how)) := by
  have hsz : (Sh.size (rest [1] (3 :: 4 :: r))).toNat = 3 * M := by rw [rest1, size_of_pd hr3, Sh.pd, hM]; omega
  have hlt : x * M + j < 3 * M := by
    have : x * M ≤ 2 * M := Nat.mul_le_mul_right M (by omega)
    omega
  rw [foldD_at (by omega), hd, into1 hs hr3 hM hj hx]
  rfl
/-- Folded along one axis and then along the other: along both. -/
theorem parts_eq {how : Int} {d : List Int} (hh : howOk how = true) (hs : Sh.right (3 :: 4 :: r) = true) (hr3 : Sh.right (3 :: r) = true) (hr : Sh.right r = true) (hM : Sh.pd r = M) (hd : d.length = 12 * M) (hf : ∀ x ∈ d, Fits x) :
    foldD how (3 :: r) (foldD how (3 :: 4 :: r) d [1]) [0] = foldD how (3 :: 4 :: r) d [0, 1] := by
  have hsz : (Sh.size r).toNat = M := by rw [size_of_pd hr, hM]; omega
  have hda : (foldD how (3 :: 4 :: r) d [1]).length = 3 * M := by rw [foldD_length, rest1, size_of_pd hr3, Sh.pd, hM]; omega
  apply List.ext_getElem?
  intro j
  rcases Nat.lt_or_ge j M with hj | hj
  · rw [fold0_at (n := 3) hr hM hda (by rw [size_of_pd hr3, Sh.pd, hM]; omega) hj, fold01_at (n := 12) hr hM hd (by rw [size_of_pd hs, Sh.pd, Sh.pd, hM]; omega) hj]
    have key : ∀ x, x < 3 → (foldD how (3 :: 4 :: r) d [1]).getD (x * M + j) 0 = [d.getD ((4 * x) * M + j) 0, d.getD ((4 * x + 1) * M + j) 0, d.getD ((4 * x + 2) * M + j) 0, d.getD ((4 * x + 3) * M + j) 0].foldl (putF how) (noneF how) := fun x hx => by
      rw [List.getD_eq_getElem?_getD, fold1_at hs hr3 hM hd hj hx]; rfl
    have e3 : (List.range 3).map (fun q => (foldD how (3 :: 4 :: r) d [1]).getD (q * M + j) 0) = [(foldD how (3 :: 4 :: r) d [1]).getD (0 * M + j) 0, (foldD how (3 :: 4 :: r) d [1]).getD (1 * M + j) 0, (foldD how (3 :: 4 :: r) d [1]).getD (2 * M + j) 0] := rfl
    have fd : ∀ k, Fits (d.getD k 0) := fun k => getD_fits hf k
    rw [e3, key 0 (by omega), key 1 (by omega), key 2 (by omega)]
    have e12 : (List.range 12).map (fun q => d.getD (q * M + j) 0) = [d.getD ((4 * 0) * M + j) 0, d.getD ((4 * 0 + 1) * M + j) 0, d.getD ((4 * 0 + 2) * M + j) 0, d.getD ((4 * 0 + 3) * M + j) 0] ++ ([d.getD ((4 * 1) * M + j) 0, d.getD ((4 * 1 + 1) * M + j) 0, d.getD ((4 * 1 + 2) * M + j) 0, d.getD ((4 * 1 + 3) * M + j) 0] ++ [d.getD ((4 * 2) * M + j) 0, d.getD ((4 * 2 + 1) * M + j) 0, d.getD ((4 * 2 + 2) * M + j) 0, d.getD ((4 * 2 + 3) * M + j) 0]) := rfl
    rw [e12, List.foldl_append, List.foldl_append]
    have four : ∀ (a b c e : Int), Fits a → Fits b → Fits c → Fits e → ∀ x ∈ [a, b, c, e], Fits x := fun a b c e h1 h2 h3 h4 x hx => by
      simp at hx; rcases hx with rfl | rfl | rfl | rfl <;> assumption
    have ff : ∀ (l : List Int) (z : Int), (∀ x ∈ l, Fits x) → Fits z → Fits (l.foldl (putF how) z) := by
      intro l
      induction l with
      | nil => intro z _ hz; exact hz
      | cons x l ih => intro z hl hz; exact ih _ (fun y hy => hl y (by simp [hy])) (putF_fits how hz (hl x (by simp)))
    have g0 := four _ _ _ _ (fd ((4 * 0) * M + j)) (fd ((4 * 0 + 1) * M + j)) (fd ((4 * 0 + 2) * M + j)) (fd ((4 * 0 + 3) * M + j))
    have g1 := four _ _ _ _ (fd ((4 * 1) * M + j)) (fd ((4 * 1 + 1) * M + j)) (fd ((4 * 1 + 2) * M + j)) (fd ((4 * 1 + 3) * M + j))
    have g2 := four _ _ _ _ (fd ((4 * 2) * M + j)) (fd ((4 * 2 + 1) * M + j)) (fd ((4 * 2 + 2) * M + j)) (fd ((4 * 2 + 3) * M + j))
    rw [foldl_put_none hh _ _ g2 (ff _ _ g1 (ff _ _ g0 (noneF_fits how))), foldl_put_none hh _ _ g1 (ff _ _ g0 (noneF_fits how))]
    rw [show ∀ a b c : Int, [a, b, c].foldl (putF how) (noneF how) = putF how (putF how (putF how (noneF how) a) b) c from fun _ _ _ => rfl, putF_none hh (ff _ _ g0 (noneF_fits how))]
  · rw [List.getElem?_eq_none (by rw [foldD_length, rest0]; omega), List.getElem?_eq_none (by rw [foldD_length, rest01]; omega)]
/-- The first row, cut out. -/
theorem cut_head {d : List Int} (h : tenRight (3 :: 4 :: r) d = true) (hM : Sh.pd r = M) :
    cutR (3 :: 4 :: r) d (List.replicate (3 :: 4 :: r).length 0) (1 :: 4 :: r) = (0, 1 :: 4 :: r, cutD (3 :: 4 :: r) d (List.replicate (3 :: 4 :: r).length 0) (1 :: 4 :: r)) ∧ tenRight (1 :: 4 :: r) (cutD (3 :: 4 :: r) d (List.replicate (3 :: 4 :: r).length 0) (1 :: 4 :: r)) = true ∧ (cutD (3 :: 4 :: r) d (List.replicate (3 :: 4 :: r).length 0) (1 :: 4 :: r)).length = 4 * M ∧
    ∀ i : Nat, i < 4 * M → (cutD (3 :: 4 :: r) d (List.replicate (3 :: 4 :: r).length 0) (1 :: 4 :: r)).getD i 0 = d.getD i 0 := by
  have hs := right_of h
  have hr1 : Sh.right (1 :: 4 :: r) = true := right_less (s := 3 :: 4 :: r) (ax := 0) (x := 3) (y := 1) hs rfl (by omega) (by omega)
  have hok : cutOk (3 :: 4 :: r) (List.replicate (3 :: 4 :: r).length 0) (1 :: 4 :: r) = true := by
    have := cut_ok_ax (s := 3 :: 4 :: r) (ax := 0) (x := 3) (h := 0) (y := 1) hs rfl (by omega) (by omega) (by omega)
    rwa [set_same_ (by rw [List.getElem?_replicate, if_pos (by simp)])] at this
  have hsz : Sh.size (1 :: 4 :: r) = 4 * (M : Int) := by rw [size_of_pd hr1, Sh.pd, Sh.pd, hM]; omega
  refine ⟨cutR_ok h hok, cut_right hr1, by rw [cutD_length, hsz]; omega, fun i hi => ?_⟩
  have hiz : (i : Int) < Sh.size (1 :: 4 :: r) := by omega
  obtain ⟨hpl, hl, _, _⟩ := placeOf_of hiz
  obtain ⟨hw1, hw2⟩ := cut_within hok hiz
  rw [List.getD_eq_getElem?_getD, cutD, gen_at (by omega), Option.getD_some, num]
  have hd := (Sh.right_iff.1 hs).2.1
  rw [addP_zero (by rw [hl]; rfl)] at hw1 hw2 ⊢
  rw [Sh.index_of hs hw1 hw2, Sh.hor_lin hw1, hpl, Sh.place, Sh.place, lin_two 3 4 hM i (fun z hz => hd z (by simp [hz]))]
  have hdg := Sh.digits (i : Int) (M : Int) 4 (by omega)
  rw [hM]
  have e1 : (i : Int) % (4 * (M : Int)) = i := Int.emod_eq_of_lt (by omega) (by omega)
  rw [e1] at hdg
  have e2 : (i : Int) % (M : Int) = ((i % M : Nat) : Int) := by simp
  rw [e2] at hdg
  rw [hdg, Int.emod_one, Int.zero_mul, Int.zero_add, Int.toNat_natCast]
/-- The others, cut out. -/
theorem cut_tail {d : List Int} (h : tenRight (3 :: 4 :: r) d = true) (hM : Sh.pd r = M) :
    cutR (3 :: 4 :: r) d ((List.replicate (3 :: 4 :: r).length 0 : List Int).set 0 1) (2 :: 4 :: r) = (0, 2 :: 4 :: r, cutD (3 :: 4 :: r) d ((List.replicate (3 :: 4 :: r).length 0 : List Int).set 0 1) (2 :: 4 :: r)) ∧ tenRight (2 :: 4 :: r) (cutD (3 :: 4 :: r) d ((List.replicate (3 :: 4 :: r).length 0 : List Int).set 0 1) (2 :: 4 :: r)) = true ∧ (cutD (3 :: 4 :: r) d ((List.replicate (3 :: 4 :: r).length 0 : List Int).set 0 1) (2 :: 4 :: r)).length = 8 * M ∧
    ∀ i : Nat, i < 8 * M → (cutD (3 :: 4 :: r) d ((List.replicate (3 :: 4 :: r).length 0 : List Int).set 0 1) (2 :: 4 :: r)).getD i 0 = d.getD (4 * M + i) 0 := by
  have hs := right_of h
  have hr1 : Sh.right (2 :: 4 :: r) = true := right_less (s := 3 :: 4 :: r) (ax := 0) (x := 3) (y := 2) hs rfl (by omega) (by omega)
  have hok := cut_ok_ax (s := 3 :: 4 :: r) (ax := 0) (x := 3) (h := 1) (y := 2) hs rfl (by omega) (by omega) (by omega)
  rw [show (3 :: 4 :: r).set 0 2 = 2 :: 4 :: r from rfl] at hok
  have hsz : Sh.size (2 :: 4 :: r) = 8 * (M : Int) := by rw [size_of_pd hr1, Sh.pd, Sh.pd, hM]; omega
  refine ⟨cutR_ok h hok, cut_right hr1, by rw [cutD_length, hsz]; omega, fun i hi => ?_⟩
  have hiz : (i : Int) < Sh.size (2 :: 4 :: r) := by omega
  obtain ⟨hpl, hl, _, _⟩ := placeOf_of hiz
  obtain ⟨hw1, hw2⟩ := cut_within hok hiz
  rw [List.getD_eq_getElem?_getD, cutD, gen_at (by omega), Option.getD_some, num]
  have hd := (Sh.right_iff.1 hs).2.1
  rw [addP_ax (by rw [hl]; rfl)] at hw1 hw2 ⊢
  rw [Sh.index_of hs hw1 hw2, Sh.hor_lin hw1, hpl, Sh.place, Sh.place]
  have e0 : addAx ((i : Int) / Sh.pd (4 :: r) % 2 :: (i : Int) / Sh.pd r % 4 :: Sh.place r i) 0 1 = ((i : Int) / Sh.pd (4 :: r) % 2 + 1) :: (i : Int) / Sh.pd r % 4 :: Sh.place r i := rfl
  rw [e0, lin_two 3 4 hM i (fun z hz => hd z (by simp [hz]))]
  have hdg := Sh.digits (i : Int) (M : Int) 4 (by omega)
  have hdg2 := Sh.digits (i : Int) (4 * (M : Int)) 2 (by omega)
  have e1 : (i : Int) % (2 * (4 * (M : Int))) = i := Int.emod_eq_of_lt (by omega) (by omega)
  rw [e1] at hdg2
  have e2 : (i : Int) % (M : Int) = ((i % M : Nat) : Int) := by simp
  rw [e2] at hdg
  rw [hM, Sh.pd, hM, hdg, Int.add_mul, Int.one_mul]
  congr 1
  omega
/-- A fold of two parts is the fold of their folds. -/
theorem parts_join {how : Int} {d : List Int} (hh : howOk how = true) (h : tenRight (3 :: 4 :: r) d = true) (hr : Sh.right r = true) (hM : Sh.pd r = M) (hf : ∀ x ∈ d, Fits x) {dl dr : List Int}
    (hl : dl.length = 4 * M) (hl2 : ∀ i : Nat, i < 4 * M → dl.getD i 0 = d.getD i 0) (hq : dr.length = 8 * M) (hq2 : ∀ i : Nat, i < 8 * M → dr.getD i 0 = d.getD (4 * M + i) 0) {j : Nat} (hj : j < M) :
    ∃ a b c, (foldD how (1 :: 4 :: r) dl [0, 1])[j]? = some a ∧ (foldD how (2 :: 4 :: r) dr [0, 1])[j]? = some b ∧ (foldD how (3 :: 4 :: r) d [0, 1])[j]? = some c ∧ putF how a b = c ∧ putF how (noneF how) c = c := by
  have hs := right_of h
  have hr1 : Sh.right (1 :: 4 :: r) = true := right_less (s := 3 :: 4 :: r) (ax := 0) (x := 3) (y := 1) hs rfl (by omega) (by omega)
  have hr2 : Sh.right (2 :: 4 :: r) = true := right_less (s := 3 :: 4 :: r) (ax := 0) (x := 3) (y := 2) hs rfl (by omega) (by omega)
  have hd : d.length = 12 * M := by
    have h1 := len_right h
    rw [size_of_pd hs, Sh.pd, Sh.pd, hM] at h1
    omega
  have fd : ∀ k, Fits (d.getD k 0) := fun k => getD_fits hf k
  have ff : ∀ (l : List Int) (z : Int), (∀ x ∈ l, Fits x) → Fits z → Fits (l.foldl (putF how) z) := by
    intro l
    induction l with
    | nil => intro z _ hz; exact hz
    | cons x l ih => intro z hl hz; exact ih _ (fun y hy => hl y (by simp [hy])) (putF_fits how hz (hl x (by simp)))
  have fm : ∀ (l : List Nat) (g : Nat → Nat), ∀ x ∈ l.map fun q => d.getD (g q) 0, Fits x := fun l g x hx => by
    rw [List.mem_map] at hx
    obtain ⟨q, _, rfl⟩ := hx
    exact fd _
  have e1 : (List.range 4).map (fun q => dl.getD (q * M + j) 0) = (List.range 4).map fun q => d.getD (q * M + j) 0 :=
    List.map_congr_left fun q hq => hl2 _ (by
      have hq := List.mem_range.1 hq
      have : q * M ≤ 3 * M := Nat.mul_le_mul_right M (by omega)
      omega)
  have e2 : (List.range 8).map (fun q => dr.getD (q * M + j) 0) = (List.range 8).map fun q => d.getD ((4 + q) * M + j) 0 :=
    List.map_congr_left fun q hq => by
      have hq := List.mem_range.1 hq
      have : q * M ≤ 7 * M := Nat.mul_le_mul_right M (by omega)
      rw [hq2 _ (by omega), Nat.add_mul]
      congr 1
      omega
  have e3 : (List.range 12).map (fun q => d.getD (q * M + j) 0) = ((List.range 4).map fun q => d.getD (q * M + j) 0) ++ (List.range 8).map fun q => d.getD ((4 + q) * M + j) 0 := rfl
  refine ⟨_, _, _, fold01_at (n := 4) hr hM hl (by rw [size_of_pd hr1, Sh.pd, Sh.pd, hM]; omega) hj, fold01_at (n := 8) hr hM hq (by rw [size_of_pd hr2, Sh.pd, Sh.pd, hM]; omega) hj, fold01_at (n := 12) hr hM hd (by rw [size_of_pd hs, Sh.pd, Sh.pd, hM]; omega) hj, ?_, ?_⟩
  · rw [e1, e2, e3, List.foldl_append]
    exact (foldl_put_none hh _ _ (fm _ fun q => (4 + q) * M + j) (ff _ _ (fm _ fun q => q * M + j) (noneF_fits how))).symm
  · exact putF_none hh (ff _ _ (fm _ fun q => q * M + j) (noneF_fits how))
end
end Go.Proofs.Ytgdgpggicgfddaa
