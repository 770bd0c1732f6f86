/- Shapes as plain mathematics: no program is named. -/
import Derived.WalkKit
import Derived.PlainAid
namespace Go.Proofs.Ythhfjbhopenchaa.Sh

/-- The product from the front, as the loops reckon it. -/
def pr (l : List Int) : Int := l.foldl (· * ·) 1
def inDim (x : Int) : Bool := decide (0 ≤ x) && decide (x ≤ 32)
def right (s : List Int) : Bool := decide (s.length ≤ 4) && s.all inDim && decide (pr s ≤ 4096)
def size (s : List Int) : Int := if right s then pr s else 0

theorem pr_nil : pr [] = 1 := rfl
theorem pr_snoc (l : List Int) (x : Int) : pr (l ++ [x]) = pr l * x := by simp [pr]
theorem pr_take (l : List Int) {k : Nat} {x : Int} (h : l[k]? = some x) : pr (l.take (k + 1)) = pr (l.take k) * x := by
  rw [List.take_add_one, h]; exact pr_snoc _ _
theorem foldl_bd (l : List Int) (h : ∀ x ∈ l, 0 ≤ x ∧ x ≤ 32) : ∀ a : Int, 0 ≤ a → 0 ≤ l.foldl (· * ·) a ∧ l.foldl (· * ·) a ≤ a * 32 ^ l.length := by
  induction l with
  | nil => intro a ha; simp; exact ha
  | cons x l ih =>
    intro a ha
    have hx := h x (by simp)
    have hl := ih (fun y hy => h y (by simp [hy])) (a * x) (Int.mul_nonneg ha hx.1)
    refine ⟨hl.1, Int.le_trans hl.2 ?_⟩
    have e : a * (32 : Int) ^ (x :: l).length = a * 32 * 32 ^ l.length := by rw [List.length_cons, Int.pow_succ, Int.mul_comm (32 ^ l.length) 32, ← Int.mul_assoc]
    rw [e]
    exact Int.mul_le_mul_of_nonneg_right (Int.mul_le_mul_of_nonneg_left hx.2 ha) (Int.pow_nonneg (by omega))
theorem pr_bd (l : List Int) (h : ∀ x ∈ l, 0 ≤ x ∧ x ≤ 32) : 0 ≤ pr l ∧ pr l ≤ 32 ^ l.length := by
  have := foldl_bd l h 1 (by omega); simpa [pr] using this
/-- Behind k numbers, k at most 3, the product times one more is small. -/
theorem pr_small (l : List Int) (h : ∀ x ∈ l, 0 ≤ x ∧ x ≤ 32) (hl : l.length ≤ 4) : 0 ≤ pr l ∧ pr l ≤ 1048576 := by
  have hb := pr_bd l h
  refine ⟨hb.1, Int.le_trans hb.2 ?_⟩
  have : l.length = 0 ∨ l.length = 1 ∨ l.length = 2 ∨ l.length = 3 ∨ l.length = 4 := by omega
  rcases this with e | e | e | e | e <;> rw [e] <;> decide
theorem inDim_iff {x : Int} : inDim x = true ↔ 0 ≤ x ∧ x ≤ 32 := by simp [inDim]
theorem all_iff {l : List Int} : l.all inDim = true ↔ ∀ x ∈ l, 0 ≤ x ∧ x ≤ 32 := by simp [List.all_eq_true, inDim_iff]
theorem right_iff {s : List Int} : right s = true ↔ s.length ≤ 4 ∧ (∀ x ∈ s, 0 ≤ x ∧ x ≤ 32) ∧ pr s ≤ 4096 := by
  simp only [right, Bool.and_eq_true, decide_eq_true_eq, all_iff, and_assoc]
theorem not_right_long {s : List Int} (h : ¬ s.length ≤ 4) : right s = false := by simp [right, h]
theorem not_right_dim {s : List Int} {k : Nat} {x : Int} (h : s[k]? = some x) (hx : ¬ (0 ≤ x ∧ x ≤ 32)) : right s = false := by
  cases e : right s with
  | false => rfl
  | true => exact absurd ((right_iff.1 e).2.1 x (List.mem_of_getElem? h)) hx
theorem not_right_big {s : List Int} (h : ¬ pr s ≤ 4096) : right s = false := by simp [right, h]
theorem right_small {s : List Int} (h : s.length ≤ 4) (hd : ∀ x ∈ s, 0 ≤ x ∧ x ≤ 32) : right s = decide (pr s ≤ 4096) := by
  by_cases hbig : pr s ≤ 4096
  · rw [right_iff.2 ⟨h, hd, hbig⟩]; simp [hbig]
  · rw [not_right_big hbig]; simp [hbig]
theorem size_of {s : List Int} (h : right s = true) : size s = pr s := by simp [size, h]
theorem size_not {s : List Int} (h : right s = false) : size s = 0 := by simp [size, h]
theorem size_bd (s : List Int) : 0 ≤ size s ∧ size s ≤ 4096 := by
  unfold size
  split
  · rename_i h; have h := right_iff.1 h; exact ⟨(pr_bd s h.2.1).1, h.2.2⟩
  · omega

/-- The product from behind. -/
def pd : List Int → Int
  | [] => 1
  | d :: r => d * pd r
theorem foldl_pd (s : List Int) : ∀ a : Int, s.foldl (· * ·) a = a * pd s := by
  induction s with
  | nil => intro a; simp [pd]
  | cons d r ih => intro a; rw [List.foldl_cons, ih, pd, Int.mul_assoc]
theorem pr_pd (s : List Int) : pr s = pd s := by rw [pr, foldl_pd]; simp
theorem pd_drop {s : List Int} {k : Nat} {d : Int} (h : s[k]? = some d) : pd (s.drop k) = d * pd (s.drop (k + 1)) := by
  obtain ⟨hk, rfl⟩ := List.getElem?_eq_some_iff.1 h
  rw [List.drop_eq_getElem_cons hk]; rfl
theorem pd_nonneg {s : List Int} (h : ∀ x ∈ s, 0 ≤ x ∧ x ≤ 32) : 0 ≤ pd s := by
  have := (pr_bd s h).1; rwa [pr_pd] at this
theorem pd_small {s : List Int} (h : ∀ x ∈ s, 0 ≤ x ∧ x ≤ 32) (hl : s.length ≤ 4) (k : Nat) : 0 ≤ pd (s.drop k) ∧ pd (s.drop k) ≤ 1048576 := by
  have := pr_small (s.drop k) (fun x hx => h x (List.mem_of_mem_drop hx)) (by simp; omega)
  rwa [pr_pd] at this

def strides : List Int → List Int
  | [] => []
  | _ :: r => pd r :: strides r
def place : List Int → Int → List Int
  | [], _ => []
  | d :: r, i => ((i / pd r) % d) :: place r i
theorem strides_length (s : List Int) : (strides s).length = s.length := by
  induction s with
  | nil => rfl
  | cons d r ih => simp [strides, ih]
theorem place_length (s : List Int) (i : Int) : (place s i).length = s.length := by
  induction s with
  | nil => rfl
  | cons d r ih => simp [place, ih]
theorem strides_at {s : List Int} {k : Nat} {d : Int} (h : s[k]? = some d) : (strides s)[k]? = some (pd (s.drop (k + 1))) := by
  induction s generalizing k with
  | nil => simp at h
  | cons e r ih =>
    cases k with
    | zero => simp [strides]
    | succ k => simpa [strides] using ih (by simpa using h)
theorem place_at {s : List Int} {i : Int} {k : Nat} {d : Int} (h : s[k]? = some d) : (place s i)[k]? = some ((i / pd (s.drop (k + 1))) % d) := by
  induction s generalizing k with
  | nil => simp at h
  | cons e r ih =>
    cases k with
    | zero => simp at h; subst h; simp [place]
    | succ k => simpa [place] using ih (by simpa using h)
/-- One axis further to the front: what is left of the number. -/
theorem left_step {s : List Int} {i : Int} {k : Nat} {d : Int} (h : s[k]? = some d) (hd : ∀ x ∈ s, 0 ≤ x ∧ x ≤ 32) :
    i / pd (s.drop (k + 1)) / d = i / pd (s.drop k) := by
  rw [Int.ediv_ediv_of_nonneg (pd_nonneg fun x hx => hd x (List.mem_of_mem_drop hx)), pd_drop h, Int.mul_comm]

/-- The number of a place, as the loops reckon it. -/
def hor (s p : List Int) : Int := (s.zip p).foldl (fun a x => a * x.1 + x.2) 0
def within (s p : List Int) : Bool := (s.zip p).all fun x => decide (0 ≤ x.2) && decide (x.2 < x.1)
def index (s p : List Int) : Int := if right s && decide (p.length = s.length) && within s p then hor s p else -1
theorem zip_take_succ {s p : List Int} {k : Nat} {d x : Int} (h : s[k]? = some d) (g : p[k]? = some x) :
    (s.take (k + 1)).zip (p.take (k + 1)) = (s.take k).zip (p.take k) ++ [(d, x)] := by
  obtain ⟨hk, rfl⟩ := List.getElem?_eq_some_iff.1 h
  obtain ⟨hp, rfl⟩ := List.getElem?_eq_some_iff.1 g
  rw [List.take_add_one, List.take_add_one, h, g, List.zip_append (by simp; omega)]
  rfl
theorem hor_take {s p : List Int} {k : Nat} {d x : Int} (h : s[k]? = some d) (g : p[k]? = some x) :
    hor (s.take (k + 1)) (p.take (k + 1)) = hor (s.take k) (p.take k) * d + x := by
  rw [hor, zip_take_succ h g, List.foldl_append]; rfl
theorem within_take {s p : List Int} {k : Nat} {d x : Int} (h : s[k]? = some d) (g : p[k]? = some x) :
    within (s.take (k + 1)) (p.take (k + 1)) = (within (s.take k) (p.take k) && (decide (0 ≤ x) && decide (x < d))) := by
  rw [within, zip_take_succ h g, List.all_append]; simp [within]
theorem within_mono {s p : List Int} (h : within s p = true) (k : Nat) : within (s.take k) (p.take k) = true := by
  rw [within] at *
  have e : (s.take k).zip (p.take k) = (s.zip p).take k := by simp [List.zip, List.take_zipWith]
  rw [e]
  rw [List.all_eq_true] at *
  exact fun x hx => h x (List.mem_of_mem_take hx)
theorem within_at {s p : List Int} (h : within s p = true) {k : Nat} {d x : Int} (hd : s[k]? = some d) (hx : p[k]? = some x) : 0 ≤ x ∧ x < d := by
  have := within_mono h (k + 1)
  rw [within_take hd hx] at this
  simp only [Bool.and_eq_true, decide_eq_true_eq] at this
  exact this.2
theorem foldl_hor : ∀ (l : List (Int × Int)) (a b : Int), 0 ≤ a → a + 1 ≤ b → (∀ x ∈ l, 0 ≤ x.2 ∧ x.2 < x.1) →
    0 ≤ l.foldl (fun a x => a * x.1 + x.2) a ∧ l.foldl (fun a x => a * x.1 + x.2) a + 1 ≤ (l.map (·.1)).foldl (· * ·) b := by
  intro l
  induction l with
  | nil => intro a b ha hb _; exact ⟨ha, hb⟩
  | cons x l ih =>
    intro a b ha hb h
    obtain ⟨h1, h2⟩ := h x (by simp)
    refine ih _ _ (Int.add_nonneg (Int.mul_nonneg ha (by omega)) h1) ?_ (fun y hy => h y (by simp [hy]))
    have : (a + 1) * x.1 ≤ b * x.1 := Int.mul_le_mul_of_nonneg_right hb (by omega)
    rw [Int.add_mul] at this
    show a * x.1 + x.2 + 1 ≤ b * x.1
    omega
theorem map_fst_zip : ∀ (s p : List Int), s.length = p.length → (s.zip p).map (·.1) = s := by
  intro s
  induction s with
  | nil => intro p _; simp
  | cons d r ih =>
    intro p h
    cases p with
    | nil => simp at h
    | cons x q => simp; exact ih q (by simpa using h)
theorem hor_bd {s p : List Int} (h : within s p = true) (hl : s.length = p.length) : 0 ≤ hor s p ∧ hor s p + 1 ≤ pr s := by
  have := foldl_hor (s.zip p) 0 1 (by omega) (by omega) (by
    rw [within, List.all_eq_true] at h
    intro x hx
    simpa using h x hx)
  rwa [map_fst_zip s p hl] at this
theorem hor_small {s p : List Int} (hr : right s = true) (hl : s.length = p.length) (k : Nat) (h : within (s.take k) (p.take k) = true) :
    0 ≤ hor (s.take k) (p.take k) ∧ hor (s.take k) (p.take k) ≤ 1048576 := by
  have hr := right_iff.1 hr
  have hb := hor_bd h (by simp [hl])
  have := pr_small (s.take k) (fun x hx => hr.2.1 x (List.mem_of_mem_take hx)) (by simp; omega)
  omega
theorem index_of {s p : List Int} (hr : right s = true) (hl : p.length = s.length) (h : within s p = true) : index s p = hor s p := by simp [index, hr, hl, h]
theorem index_right {s p : List Int} (hr : right s = false) : index s p = -1 := by simp [index, hr]
theorem index_len {s p : List Int} (hl : ¬ p.length = s.length) : index s p = -1 := by simp [index, hl]
theorem index_out {s p : List Int} {k : Nat} {d x : Int} (hd : s[k]? = some d) (hx : p[k]? = some x) (h : ¬ (0 ≤ x ∧ x < d)) : index s p = -1 := by
  have : within s p = false := by
    cases e : within s p with
    | false => rfl
    | true => exact absurd (within_at e hd hx) h
  simp [index, this]

/-- The place that stands at number i; none where there is no such number. -/
def placeOf (s : List Int) (i : Int) : List Int := if 0 ≤ i ∧ i < size s then place s i else []
theorem pos_of_pd {s : List Int} (h : ∀ x ∈ s, 0 ≤ x ∧ x ≤ 32) (hp : 0 < pd s) : ∀ x ∈ s, 1 ≤ x := by
  induction s with
  | nil => simp
  | cons d r ih =>
    have hd := h d (by simp)
    have hr := pd_nonneg (s := r) fun x hx => h x (by simp [hx])
    rw [pd] at hp
    have hd0 : d ≠ 0 := by rintro rfl; simp at hp
    have hr0 : pd r ≠ 0 := by intro e; rw [e] at hp; simp at hp
    intro x hx
    rcases List.mem_cons.1 hx with rfl | hx
    · omega
    · exact ih (fun x hx => h x (by simp [hx])) (by omega) x hx
theorem size_pos {s : List Int} {i : Int} (h0 : 0 ≤ i) (h : i < size s) : right s = true ∧ ∀ x ∈ s, 1 ≤ x ∧ x ≤ 32 := by
  cases hr : right s with
  | false => rw [size_not hr] at h; omega
  | true =>
    have hd := (right_iff.1 hr).2.1
    rw [size_of hr, pr_pd] at h
    have hp := pos_of_pd hd (by omega)
    exact ⟨rfl, fun x hx => ⟨hp x hx, (hd x hx).2⟩⟩
end Go.Proofs.Ythhfjbhopenchaa.Sh
