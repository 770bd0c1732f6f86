/- Shapes as plain mathematics, second part: places and numbers, there and back; one step along an axis. -/
import Derived.Test.YthhfjbhopenchaaShapeMath
namespace Go.Proofs.Ythhfjbhopenchaa.Sh

/-- The sum of each place times its stride. -/
def lin : List Int → List Int → Int
  | _ :: r, x :: q => x * pd r + lin r q
  | _, _ => 0
/-- The same as a loop reckons it. -/
def sm (ps ws : List Int) : Int := (ps.zip ws).foldl (fun a x => a + x.1 * x.2) 0
theorem sm_take {ps ws : List Int} {k : Nat} {x y : Int} (h : ps[k]? = some x) (g : ws[k]? = some y) :
    sm (ps.take (k + 1)) (ws.take (k + 1)) = sm (ps.take k) (ws.take k) + x * y := by
  rw [sm, zip_take_succ h g, List.foldl_append]; rfl
theorem foldl_sm (s p : List Int) : ∀ a : Int, p.length = s.length → (p.zip (strides s)).foldl (fun a x => a + x.1 * x.2) a = a + lin s p := by
  induction s generalizing p with
  | nil => intro a h; cases p <;> simp [strides, lin]
  | cons d r ih =>
    intro a h
    cases p with
    | nil => simp at h
    | cons x q =>
      rw [strides, List.zip_cons_cons, List.foldl_cons, ih q _ (by simpa using h), lin]
      show a + x * pd r + lin r q = _
      omega
theorem sm_lin {s p : List Int} (h : p.length = s.length) : sm p (strides s) = lin s p := by rw [sm, foldl_sm s p 0 h]; simp
theorem foldl_hor_lin (s p : List Int) : ∀ a : Int, p.length = s.length → (s.zip p).foldl (fun a x => a * x.1 + x.2) a = a * pd s + lin s p := by
  induction s generalizing p with
  | nil => intro a h; cases p <;> simp [pd, lin]
  | cons d r ih =>
    intro a h
    cases p with
    | nil => simp at h
    | cons x q =>
      rw [List.zip_cons_cons, List.foldl_cons, ih q _ (by simpa using h), lin, pd]
      show (a * d + x) * pd r + lin r q = _
      rw [Int.add_mul, Int.mul_assoc]; omega
theorem hor_lin {s p : List Int} (h : p.length = s.length) : hor s p = lin s p := by rw [hor, foldl_hor_lin s p 0 h]; simp

theorem digits (i P d : Int) (hP : 0 ≤ P) : i / P % d * P + i % P = i % (d * P) := by
  have e : i / (d * P) = i / P / d := by rw [Int.mul_comm, Int.ediv_ediv_of_nonneg hP]
  rw [Int.emod_def i (d * P), e, Int.emod_def (i / P) d, Int.emod_def i P, Int.sub_mul]
  have h1 : d * (i / P / d) * P = d * P * (i / P / d) := by rw [Int.mul_assoc, Int.mul_assoc, Int.mul_comm (i / P / d) P]
  have h2 : i / P * P = P * (i / P) := Int.mul_comm _ _
  omega
theorem lin_place (s : List Int) (hd : ∀ x ∈ s, 0 ≤ x ∧ x ≤ 32) (i : Int) : lin s (place s i) = i % pd s := by
  induction s with
  | nil => simp [lin, pd, Int.emod_one]
  | cons d r ih =>
    have hr : ∀ x ∈ r, 0 ≤ x ∧ x ≤ 32 := fun x hx => hd x (by simp [hx])
    rw [place, lin, ih hr, pd, digits _ _ _ (pd_nonneg hr)]
theorem lin_place_of {s : List Int} {i : Int} (h0 : 0 ≤ i) (h : i < size s) : lin s (place s i) = i := by
  obtain ⟨hr, _⟩ := size_pos h0 h
  rw [size_of hr, pr_pd] at h
  rw [lin_place s (right_iff.1 hr).2.1, Int.emod_eq_of_lt h0 h]
theorem within_iff {s p : List Int} : within s p = true ↔ ∀ x ∈ s.zip p, 0 ≤ x.2 ∧ x.2 < x.1 := by
  rw [within, List.all_eq_true]
  constructor <;> intro h x hx <;> simpa using h x hx
theorem within_place {s : List Int} (h : ∀ x ∈ s, 1 ≤ x ∧ x ≤ 32) (i : Int) : within s (place s i) = true := by
  rw [within_iff]
  induction s with
  | nil => simp [place]
  | cons d r ih =>
    intro x hx
    rw [place, List.zip_cons_cons, List.mem_cons] at hx
    rcases hx with rfl | hx
    · have := h d (by simp)
      exact ⟨Int.emod_nonneg _ (by omega), Int.emod_lt_of_pos _ (by omega)⟩
    · exact ih (fun x hx => h x (by simp [hx])) x hx
theorem index_place {s : List Int} {i : Int} (h0 : 0 ≤ i) (h : i < size s) : index s (place s i) = i := by
  obtain ⟨hr, hd⟩ := size_pos h0 h
  rw [index_of hr (place_length s i) (within_place hd i), hor_lin (place_length s i), lin_place_of h0 h]
theorem placeOf_place {s : List Int} {i : Int} (h0 : 0 ≤ i) (h : i < size s) : placeOf s i = place s i := by rw [placeOf, if_pos ⟨h0, h⟩]
theorem placeOf_none {s : List Int} {i : Int} (h : size s ≤ i) : placeOf s i = [] := by rw [placeOf, if_neg (by omega)]

/-- Partial sums lie between 0 and the whole. -/
theorem sm_le {ps ws : List Int} (hp : ∀ x ∈ ps.zip ws, 0 ≤ x.1 * x.2) (k : Nat) : 0 ≤ sm (ps.take k) (ws.take k) ∧ sm (ps.take k) (ws.take k) ≤ sm ps ws := by
  have mono : ∀ (l : List (Int × Int)) (a : Int), (∀ x ∈ l, 0 ≤ x.1 * x.2) → a ≤ l.foldl (fun a x => a + x.1 * x.2) a := by
    intro l
    induction l with
    | nil => intro a _; simp
    | cons x l ih =>
      intro a h
      have h1 := h x (by simp)
      exact Int.le_trans (by show a ≤ a + x.1 * x.2; omega) (ih (a + x.1 * x.2) (fun y hy => h y (by simp [hy])))
  have e : (ps.take k).zip (ws.take k) = (ps.zip ws).take k := by simp [List.zip, List.take_zipWith]
  have e2 : sm ps ws = (((ps.zip ws).take k) ++ ((ps.zip ws).drop k)).foldl (fun a x => a + x.1 * x.2) 0 := by rw [List.take_append_drop]; rfl
  rw [e2, sm, e, List.foldl_append]
  exact ⟨mono _ _ fun x hx => hp x (List.mem_of_mem_take hx), mono _ _ fun x hx => hp x (List.mem_of_mem_drop hx)⟩
theorem place_nonneg {s : List Int} (h : ∀ x ∈ s, 1 ≤ x ∧ x ≤ 32) (i : Int) : ∀ x ∈ (place s i).zip (strides s), 0 ≤ x.1 * x.2 := by
  induction s with
  | nil => simp [place]
  | cons d r ih =>
    have hr : ∀ x ∈ r, 1 ≤ x ∧ x ≤ 32 := fun x hx => h x (by simp [hx])
    intro x hx
    rw [place, strides, List.zip_cons_cons, List.mem_cons] at hx
    rcases hx with rfl | hx
    · have := h d (by simp)
      exact Int.mul_nonneg (Int.emod_nonneg _ (by omega)) (pd_nonneg fun x hx => ⟨by have := hr x hx; omega, (hr x hx).2⟩)
    · exact ih hr x hx

/-- One place further along axis a is its stride further. -/
theorem lin_set {s p : List Int} {a : Nat} {x w : Int} (hx : p[a]? = some x) (hw : (strides s)[a]? = some w) (hl : p.length = s.length) (y : Int) :
    lin s (p.set a y) = lin s p + (y - x) * w := by
  induction s generalizing p a with
  | nil => simp [strides] at hw
  | cons d r ih =>
    cases p with
    | nil => simp at hx
    | cons z q =>
      cases a with
      | zero =>
        simp [strides] at hx hw
        subst hx; subst hw
        rw [List.set_cons_zero, lin, lin, Int.sub_mul]; omega
      | succ a =>
        rw [List.set_cons_succ, lin, lin, ih (by simpa using hx) (by simpa [strides] using hw) (by simpa using hl)]
        omega
theorem within_set {s p : List Int} {a : Nat} {d y : Int} (h : within s p = true) (hd : s[a]? = some d) (hy : 0 ≤ y ∧ y < d) : within s (p.set a y) = true := by
  rw [within_iff] at *
  intro x hx
  obtain ⟨j, hj⟩ := List.getElem?_of_mem hx
  rw [List.getElem?_zip_eq_some] at hj
  obtain ⟨h1, h2⟩ := hj
  rw [List.getElem?_set] at h2
  split at h2
  · subst_vars
    split at h2
    · rw [h1] at hd; injection hd with hd; injection h2 with h2; subst hd; subst h2; exact hy
    · cases h2
  · exact h x (List.mem_of_getElem? (List.getElem?_zip_eq_some.2 ⟨h1, h2⟩))

theorem pd_append (a b : List Int) : pd (a ++ b) = pd a * pd b := by
  induction a with
  | nil => simp [pd]
  | cons x a ih => rw [List.cons_append, pd, pd, ih, Int.mul_assoc]
/-- An axis of one put in changes no number of numbers. -/
theorem size_insert {s : List Int} (hr : right s = true) (hl : s.length ≤ 3) (k : Nat) : size (s.take k ++ [1] ++ s.drop k) = size s := by
  have h := right_iff.1 hr
  have e : pr (s.take k ++ [1] ++ s.drop k) = pr s := by
    rw [pr_pd, pr_pd, pd_append, pd_append]
    simp only [pd, Int.mul_one]
    rw [← pd_append, List.take_append_drop]
  have hr' : right (s.take k ++ [1] ++ s.drop k) = true := by
    refine right_iff.2 ⟨by simp; omega, ?_, by rw [e]; exact h.2.2⟩
    intro x hx
    simp only [List.mem_append, List.mem_singleton] at hx
    rcases hx with (hx | rfl) | hx
    · exact h.2.1 x (List.mem_of_mem_take hx)
    · omega
    · exact h.2.1 x (List.mem_of_mem_drop hx)
  rw [size_of hr', size_of hr, e]
/-- One place further along an axis that has one: the number is the stride further. -/
theorem index_step {s : List Int} {i : Int} {k : Nat} {d x w : Int} (h0 : 0 ≤ i) (h : i < size s) (hd : s[k]? = some d) (hx : (place s i)[k]? = some x) (hw : (strides s)[k]? = some w) (hlt : x + 1 < d) :
    index s ((place s i).set k (x + 1)) = i + w := by
  obtain ⟨hr, hp⟩ := size_pos h0 h
  have hx0 := within_at (within_place hp i) hd hx
  rw [index_of hr (by rw [List.length_set, place_length]) (within_set (within_place hp i) hd ⟨by omega, hlt⟩),
    hor_lin (by rw [List.length_set, place_length]), lin_set hx hw (place_length s i), lin_place_of h0 h]
  have : (x + 1 - x) * w = w := by rw [show x + 1 - x = 1 from by omega, Int.one_mul]
  omega
theorem index_past {s p : List Int} {k : Nat} {d x : Int} (hd : s[k]? = some d) (hx : p[k]? = some x) (hge : d ≤ x + 1) : index s (p.set k (x + 1)) = -1 := by
  refine index_out (k := k) (x := x + 1) hd ?_ (by omega)
  rw [List.getElem?_set]
  have hk : k < p.length := (List.getElem?_eq_some_iff.1 hx).1
  simp [hk]

/-- What an Iota holds. -/
def iota (s : List Int) (a : Nat) : List Int := (List.range (size s).toNat).map fun (i : Nat) => (place s (i : Int)).getD a 0
theorem iota_length (s : List Int) (a : Nat) : (iota s a).length = (size s).toNat := by simp [iota]
theorem iota_at {s : List Int} {a i : Nat} (h : (i : Int) < size s) : (iota s a)[i]? = some ((place s (i : Int)).getD a 0) := by
  rw [iota, List.getElem?_map, List.getElem?_range (by omega)]; rfl
end Go.Proofs.Ythhfjbhopenchaa.Sh
