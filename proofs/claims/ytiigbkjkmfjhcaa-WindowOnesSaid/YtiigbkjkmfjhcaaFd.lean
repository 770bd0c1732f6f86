/- Numbers that are folded: plain mathematics of chapter 6. No Go in it. -/
import Derived.Test.YtiigbkjkmfjhcaaAxB
namespace Go.Proofs.Ytiigbkjkmfjhcaa
open Go.RowKit

def howOk (how : Int) : Bool := decide (1 ≤ how) && decide (how ≤ 4)
theorem howOk_iff {how : Int} : howOk how = true ↔ 1 ≤ how ∧ how ≤ 4 := by simp [howOk]
def noneF (how : Int) : Int := if how = 2 then 1 else if how = 3 then 9223372036854775807 else if how = 4 then -9223372036854775808 else 0
def putF (how a b : Int) : Int := if how = 1 then wrap64 (a + b) else if how = 2 then wrap64 (a * b) else if how = 3 then (if b < a then b else a) else if how = 4 then (if b > a then b else a) else 0
theorem noneF_fits (how : Int) : Fits (noneF how) := by unfold noneF; unfold Fits; split; omega; split; omega; split <;> omega
theorem putF_fits (how : Int) {a b : Int} (ha : Fits a) (hb : Fits b) : Fits (putF how a b) := by
  have h0 : Fits 0 := ⟨by omega, by omega⟩
  unfold putF
  repeat' split
  all_goals first | exact fits_wrap _ | assumption
theorem wrap_add_l (x y : Int) : wrap64 (wrap64 x + y) = wrap64 (x + y) := by unfold wrap64; omega
theorem wrap_add_r (x y : Int) : wrap64 (x + wrap64 y) = wrap64 (x + y) := by unfold wrap64; omega
theorem wrap_cong {x y : Int} (h : (x - y) % 18446744073709551616 = 0) : wrap64 x = wrap64 y := by unfold wrap64; omega
theorem wrap_sub (x : Int) : ∃ k : Int, wrap64 x = x + k * 18446744073709551616 := ⟨(wrap64 x - x) / 18446744073709551616, by unfold wrap64; omega⟩
theorem wrap_mul_l (x y : Int) : wrap64 (wrap64 x * y) = wrap64 (x * y) := by
  obtain ⟨k, hk⟩ := wrap_sub x
  rw [hk]
  refine wrap_cong ?_
  rw [Int.add_mul, show x * y + k * 18446744073709551616 * y - x * y = k * y * 18446744073709551616 by rw [Int.mul_assoc k, Int.mul_comm 18446744073709551616, ← Int.mul_assoc]; omega]
  exact Int.mul_emod_left _ _
theorem wrap_mul_r (x y : Int) : wrap64 (x * wrap64 y) = wrap64 (x * y) := by rw [Int.mul_comm, wrap_mul_l, Int.mul_comm]
theorem putF_comm (how a b : Int) : putF how a b = putF how b a := by
  unfold putF
  rw [Int.add_comm a b, Int.mul_comm a b]
  repeat' split
  all_goals omega
theorem putF_assoc (how a b c : Int) : putF how (putF how a b) c = putF how a (putF how b c) := by
  unfold putF
  by_cases h1 : how = 1
  · simp only [if_pos h1]; rw [wrap_add_l, wrap_add_r, Int.add_assoc]
  by_cases h2 : how = 2
  · simp only [if_neg h1, if_pos h2]; rw [wrap_mul_l, wrap_mul_r, Int.mul_assoc]
  by_cases h3 : how = 3
  · simp only [if_neg h1, if_neg h2, if_pos h3]
    repeat' split
    all_goals omega
  by_cases h4 : how = 4
  · simp only [if_neg h1, if_neg h2, if_neg h3, if_pos h4]
    repeat' split
    all_goals omega
  · simp only [if_neg h1, if_neg h2, if_neg h3, if_neg h4]
theorem putF_none {how x : Int} (h : howOk how = true) (hx : Fits x) : putF how (noneF how) x = x := by
  rw [howOk_iff] at h
  unfold Fits at hx
  have : how = 1 ∨ how = 2 ∨ how = 3 ∨ how = 4 := by omega
  rcases this with rfl | rfl | rfl | rfl
  · simp [putF, noneF]; exact wrap_fits hx
  · simp [putF, noneF]; exact wrap_fits hx
  · simp [putF, noneF]; omega
  · simp [putF, noneF]; omega

/-- The ways that are left. -/
def restAt (axes : List Int) : Nat → List Int → List Int
  | _, [] => []
  | k, x :: xs => if (k : Int) ∈ axes then restAt axes (k + 1) xs else x :: restAt axes (k + 1) xs
def rest (axes xs : List Int) : List Int := restAt axes 0 xs
theorem restAt_append (axes : List Int) : ∀ (xs ys : List Int) (k : Nat), restAt axes k (xs ++ ys) = restAt axes k xs ++ restAt axes (k + xs.length) ys
  | [], ys, k => by simp [restAt]
  | x :: xs, ys, k => by
    rw [List.cons_append, restAt, restAt, restAt_append axes xs ys (k + 1), List.length_cons, show k + 1 + xs.length = k + (xs.length + 1) by omega]
    split <;> rfl
theorem rest_take {axes xs : List Int} {k : Nat} {x : Int} (h : xs[k]? = some x) : rest axes (xs.take (k + 1)) = rest axes (xs.take k) ++ (if (k : Int) ∈ axes then [] else [x]) := by
  have hk : (xs.take k).length = k := by have := (List.getElem?_eq_some_iff.1 h).1; simp; omega
  rw [rest, List.take_add_one, h, restAt_append, hk, rest]
  congr 1
  simp [restAt]
theorem rest_length_le (axes : List Int) : ∀ (xs : List Int) (k : Nat), (restAt axes k xs).length ≤ xs.length
  | [], k => by simp [restAt]
  | x :: xs, k => by
    rw [restAt]
    have := rest_length_le axes xs (k + 1)
    split <;> simp <;> omega
theorem rest_len_eq (axes : List Int) : ∀ (xs ys : List Int) (k : Nat), xs.length = ys.length → (restAt axes k xs).length = (restAt axes k ys).length
  | [], [], k, _ => rfl
  | [], _ :: _, _, h => by simp at h
  | _ :: _, [], _, h => by simp at h
  | x :: xs, y :: ys, k, h => by
    rw [restAt, restAt]
    have := rest_len_eq axes xs ys (k + 1) (by simpa using h)
    split <;> simp [this]
theorem rest_within (axes : List Int) : ∀ (s p : List Int) (k : Nat), s.length = p.length → Sh.within s p = true → Sh.within (restAt axes k s) (restAt axes k p) = true
  | [], [], k, _, _ => by simp [restAt, Sh.within]
  | [], _ :: _, _, h, _ => by simp at h
  | _ :: _, [], _, h, _ => by simp at h
  | x :: s, y :: p, k, hl, hw => by
    rw [Sh.within_iff] at hw
    have ih := rest_within axes s p (k + 1) (by simpa using hl) (by rw [Sh.within_iff]; exact fun z hz => hw z (by simp [hz]))
    rw [restAt, restAt]
    split
    · exact ih
    · rw [Sh.within_iff] at ih ⊢
      intro z hz
      rw [List.zip_cons_cons, List.mem_cons] at hz
      rcases hz with rfl | hz
      · exact hw (x, y) (by simp)
      · exact ih z hz

/-- Axes of that rank, rising. -/
def RisesAt (a : List Int) (r k : Nat) : Prop := ∀ x, a[k]? = some x → 0 ≤ x ∧ x < r ∧ ∀ z, 0 < k → a[k - 1]? = some z → z < x
def Rises (a : List Int) (r : Nat) : Prop := ∀ k, RisesAt a r k
/-- Where the i-th number goes. -/
def foldIx (s axes : List Int) (i : Nat) : Nat := (Sh.index (rest axes s) (rest axes (Sh.placeOf s i))).toNat
def foldOne (how : Int) (s axes o : List Int) (i : Nat) (x : Int) : List Int := o.set (foldIx s axes i) (putF how (o.getD (foldIx s axes i) 0) x)
def foldUp (how : Int) (s d axes : List Int) (k : Nat) : List Int := (List.range k).foldl (fun o i => foldOne how s axes o i (d.getD i 0)) (List.replicate (Sh.size (rest axes s)).toNat (noneF how))
theorem foldUp_zero (how : Int) (s d axes : List Int) : foldUp how s d axes 0 = List.replicate (Sh.size (rest axes s)).toNat (noneF how) := rfl
theorem foldUp_step {how : Int} {s d axes : List Int} {k : Nat} {x : Int} (h : d[k]? = some x) : foldUp how s d axes (k + 1) = foldOne how s axes (foldUp how s d axes k) k x := by
  rw [foldUp, foldUp, List.range_succ, List.foldl_append]
  simp [List.getD_eq_getElem?_getD, h]
theorem foldUp_length (how : Int) (s d axes : List Int) (k : Nat) : (foldUp how s d axes k).length = (Sh.size (rest axes s)).toNat := by
  induction k with
  | zero => rw [foldUp_zero, List.length_replicate]
  | succ k ih =>
    rw [foldUp, List.range_succ, List.foldl_append]
    simp only [List.foldl_cons, List.foldl_nil, foldOne, List.length_set]
    exact ih
def foldD (how : Int) (s d axes : List Int) : List Int := foldUp how s d axes d.length
open Classical in
noncomputable def foldR (how : Int) (s d axes : List Int) : Int × List Int × List Int :=
  if howOk how then (if tenRight s d then (if Rises axes s.length then (if Sh.right (rest axes s) then (0, rest axes s, foldD how s d axes) else refused 13) else refused 1) else refused 13) else refused 1
theorem foldR_how {how : Int} {s d axes : List Int} (h : howOk how = false) : foldR how s d axes = refused 1 := by rw [foldR, h]; rfl
theorem foldR_shape {how : Int} {s d axes : List Int} (h : howOk how = true) (g : tenRight s d = false) : foldR how s d axes = refused 13 := by rw [foldR, if_pos h, g]; rfl
theorem foldR_arg {how : Int} {s d axes : List Int} (h : howOk how = true) (g : tenRight s d = true) (f : ¬ Rises axes s.length) : foldR how s d axes = refused 1 := by rw [foldR, if_pos h, if_pos g, if_neg f]
theorem foldR_shape2 {how : Int} {s d axes : List Int} (h : howOk how = true) (g : tenRight s d = true) (f : Rises axes s.length) (e : Sh.right (rest axes s) = false) : foldR how s d axes = refused 13 := by rw [foldR, if_pos h, if_pos g, if_pos f, e]; rfl
theorem foldR_ok {how : Int} {s d axes : List Int} (h : howOk how = true) (g : tenRight s d = true) (f : Rises axes s.length) (e : Sh.right (rest axes s) = true) : foldR how s d axes = (0, rest axes s, foldD how s d axes) := by rw [foldR, if_pos h, if_pos g, if_pos f, if_pos e]
/-- The number goes to one that is there. -/
theorem fold_within {s axes : List Int} (hr : Sh.right (rest axes s) = true) {i : Nat} (hi : (i : Int) < Sh.size s) : (rest axes (Sh.placeOf s i)).length = (rest axes s).length ∧ Sh.within (rest axes s) (rest axes (Sh.placeOf s i)) = true ∧ (foldIx s axes i : Int) = Sh.index (rest axes s) (rest axes (Sh.placeOf s i)) ∧ foldIx s axes i < (Sh.size (rest axes s)).toNat := by
  obtain ⟨_, hl, hw, _⟩ := placeOf_of hi
  have h1 : (rest axes (Sh.placeOf s i)).length = (rest axes s).length := rest_len_eq axes _ _ 0 hl
  have h2 := rest_within axes s (Sh.placeOf s i) 0 hl.symm hw
  have h3 := index_lt hr h1 h2
  exact ⟨h1, h2, by rw [foldIx]; omega, by rw [foldIx]; omega⟩
theorem getD_fits {l : List Int} (h : ∀ x ∈ l, Fits x) (k : Nat) : Fits (l.getD k 0) := by
  rw [List.getD_eq_getElem?_getD]
  cases e : l[k]? with
  | none => exact ⟨by simp, by simp⟩
  | some y => exact h y (List.mem_of_getElem? e)
theorem foldUp_succ (how : Int) (s d axes : List Int) (k : Nat) : foldUp how s d axes (k + 1) = foldOne how s axes (foldUp how s d axes k) k (d.getD k 0) := by
  rw [foldUp, foldUp, List.range_succ, List.foldl_append]; rfl
theorem foldUp_fits {how : Int} {s d axes : List Int} (hd : ∀ x ∈ d, Fits x) : ∀ k, ∀ x ∈ foldUp how s d axes k, Fits x
  | 0, x, hx => by
    rw [foldUp_zero] at hx
    rw [List.eq_of_mem_replicate hx]
    exact noneF_fits how
  | k + 1, x, hx => by
    rw [foldUp_succ, foldOne] at hx
    have ih := foldUp_fits (how := how) (s := s) (axes := axes) hd k
    rcases List.mem_or_eq_of_mem_set hx with hx | rfl
    · exact ih x hx
    · exact putF_fits how (getD_fits ih _) (getD_fits hd _)

/-! What one number comes to: all that go there, in order. -/
def into (s axes : List Int) (n j : Nat) : List Nat := (List.range n).filter fun i => foldIx s axes i = j
theorem foldUp_at {how : Int} {s d axes : List Int} {j : Nat} (hj : j < (Sh.size (rest axes s)).toNat) : ∀ k, (foldUp how s d axes k)[j]? = some (((into s axes k j).map fun i => d.getD i 0).foldl (putF how) (noneF how))
  | 0 => by
    rw [foldUp_zero, List.getElem?_replicate, if_pos hj]; rfl
  | k + 1 => by
    have ih := foldUp_at (how := how) (d := d) hj k
    rw [foldUp_succ, foldOne, List.getElem?_set, into, List.range_succ, List.filter_append]
    by_cases h : foldIx s axes k = j
    · subst h
      rw [if_pos rfl, if_pos (by rw [foldUp_length]; exact hj), List.getD_eq_getElem?_getD, ih]
      simp [into, List.foldl_append]
    · rw [if_neg h, ih]
      simp [into, h]
theorem foldD_at {how : Int} {s d axes : List Int} {j : Nat} (hj : j < (Sh.size (rest axes s)).toNat) : (foldD how s d axes)[j]? = some (((into s axes d.length j).map fun i => d.getD i 0).foldl (putF how) (noneF how)) := foldUp_at hj _
theorem foldD_length (how : Int) (s d axes : List Int) : (foldD how s d axes).length = (Sh.size (rest axes s)).toNat := foldUp_length ..
theorem fold_right {how : Int} {s d axes : List Int} (hr : Sh.right (rest axes s) = true) : tenRight (rest axes s) (foldD how s d axes) = true := by
  have := Sh.size_bd (rest axes s)
  simp only [tenRight, hr, Bool.true_and, decide_eq_true_eq, foldD_length]
  omega
/-- Each number by itself. -/
theorem fold_same {how : Int} {s d axes : List Int} (hh : howOk how = true) (hd : ∀ x ∈ d, Fits x) (hl : d.length = (Sh.size (rest axes s)).toNat) (h : ∀ i, i < d.length → foldIx s axes i = i) : foldD how s d axes = d := by
  apply List.ext_getElem?
  intro j
  rcases Nat.lt_or_ge j d.length with hj | hj
  · rw [foldD_at (by omega)]
    have e : into s axes d.length j = [j] := by
      have h1 : into s axes d.length j = (List.range d.length).filter fun i => i = j := by
        unfold into
        apply List.filter_congr
        intro i hi
        rw [h i (List.mem_range.1 hi)]
      rw [h1]
      have : ∀ n, j < n → (List.range n).filter (fun i => decide (i = j)) = [j] := by
        intro n
        induction n with
        | zero => intro h; omega
        | succ n ih =>
          intro hn
          rw [List.range_succ, List.filter_append]
          rcases Nat.lt_or_ge j n with h | h
          · rw [ih h]
            have : ¬ n = j := by omega
            simp [this]
          · obtain rfl : j = n := by omega
            have : (List.range j).filter (fun i => decide (i = j)) = [] := by
              rw [List.filter_eq_nil_iff]
              intro a ha
              have := List.mem_range.1 ha
              simp; omega
            rw [this]; simp
      exact this _ hj
    rw [e, List.getElem?_eq_getElem hj]
    simp only [List.map_cons, List.map_nil, List.foldl_cons, List.foldl_nil]
    rw [List.getD_eq_getElem?_getD, List.getElem?_eq_getElem hj]
    simp only [Option.getD_some]
    rw [putF_none hh (hd _ (List.getElem_mem hj))]
  · rw [List.getElem?_eq_none (by rw [foldD_length]; omega), List.getElem?_eq_none hj]
/-- All at once: the order makes no difference. -/
theorem foldl_put_perm {how : Int} {l l' : List Int} (h : l.Perm l') (z : Int) : l.foldl (putF how) z = l'.foldl (putF how) z := by
  induction h generalizing z with
  | nil => rfl
  | cons x _ ih => exact ih _
  | swap x y l =>
    simp only [List.foldl_cons]
    rw [putF_assoc, putF_comm how y x, ← putF_assoc]
  | trans _ _ ih1 ih2 => exact (ih1 z).trans (ih2 z)
/-- A row folded on to what is there is what is there by the row's fold. -/
theorem foldl_put_none {how : Int} (hh : howOk how = true) : ∀ (l : List Int) (z : Int), (∀ x ∈ l, Fits x) → Fits z → l.foldl (putF how) z = putF how z (l.foldl (putF how) (noneF how))
  | [], z, _, hz => by rw [List.foldl_nil, List.foldl_nil, putF_comm, putF_none hh hz]
  | x :: l, z, hl, hz => by
    have hx := hl x (by simp)
    have hl' := fun y hy => hl y (List.mem_cons_of_mem x hy)
    rw [List.foldl_cons, List.foldl_cons, foldl_put_none hh l _ hl' (putF_fits how hz hx), foldl_put_none hh l (putF how (noneF how) x) hl' (putF_fits how (noneF_fits how) hx), putF_none hh hx, putF_assoc]
end Go.Proofs.Ytiigbkjkmfjhcaa
