/- Number by number: plain mathematics of chapter 4. No Go in it. -/
import Derived.Test.YtiigbkjkmfjhcaaTenD
namespace Go.Proofs.Ytiigbkjkmfjhcaa
open Go.RowKit

theorem fits_wrap (z : Int) : Fits (wrap64 z) := by unfold wrap64 Fits; omega
theorem wrap_fits {z : Int} (h : Fits z) : wrap64 z = z := by unfold wrap64; unfold Fits at h; omega

/-- One number by an op. -/
def stepF (op a b : Int) : Int :=
  if op = 4 then wrap64 (-a) else if op = 5 then (if a = 0 then 1 else 0) else if op = 6 then wrap64 (a + b) else if op = 7 then wrap64 (a - b)
  else if op = 8 then wrap64 (a * b) else if op = 9 then (if b < a then b else a) else if op = 10 then (if b > a then b else a) else if op = 11 then (if a < b then 1 else 0) else 0
theorem stepF_fits (op : Int) {a b : Int} (ha : Fits a) (hb : Fits b) : Fits (stepF op a b) := by
  have h0 : Fits 0 := ⟨by omega, by omega⟩
  have h1 : Fits 1 := ⟨by omega, by omega⟩
  unfold stepF
  repeat' split
  all_goals first | exact fits_wrap _ | assumption

/-- What a call on tensors comes to: its refusal, and the tensor. Here: a refusal, and no tensor. -/

def refused (e : Int) : Int × List Int × List Int := (e, [], [])
def oneR (op : Int) (s d : List Int) : Int × List Int × List Int :=
  if op ≠ 4 ∧ op ≠ 5 then refused 1 else if tenRight s d then (0, s, d.map fun x => stepF op x 0) else refused 13
def twoR (op : Int) (s d t k : List Int) : Int × List Int × List Int :=
  if op < 6 ∨ 11 < op then refused 1 else if tenRight s d && (tenRight t k && t == s) then (0, s, List.zipWith (stepF op) d k) else refused 13
def pick3 : List Int → List Int → List Int → List Int
  | z :: c, x :: a, y :: b => (if z = 0 then y else x) :: pick3 c a b
  | _, _, _ => []
def pickR (cs cd s d t k : List Int) : Int × List Int × List Int :=
  if tenRight cs cd && (tenRight s d && s == cs && (tenRight t k && t == cs)) then (0, s, pick3 cd d k) else refused 13

/-- The first j of one list, the others of another. -/
def mix (t o : List Int) (j : Nat) : List Int := t.take j ++ o.drop j
theorem mix_zero (t o : List Int) : mix t o 0 = o := by simp [mix]
theorem mix_full {t o : List Int} (h : t.length = o.length) : mix t o o.length = t := by simp [mix, ← h]
theorem mix_length {t o : List Int} (h : t.length = o.length) (j : Nat) : (mix t o j).length = o.length := by simp [mix]; omega
theorem mix_set {t o : List Int} (h : t.length = o.length) {j : Nat} {x : Int} (hx : t[j]? = some x) : (mix t o j).set j x = mix t o (j + 1) := by
  have hj : j < t.length := (List.getElem?_eq_some_iff.1 hx).1
  have hl : (t.take j).length = j := by simp; omega
  apply List.ext_getElem?
  intro i
  unfold mix
  rw [List.getElem?_set]
  by_cases hi : j = i
  · subst hi
    rw [if_pos rfl, if_pos (by simp; omega), List.getElem?_append_left (by simp; omega), List.getElem?_take, if_pos (by omega), hx]
  · rw [if_neg hi]
    by_cases hlt : i < j
    · rw [List.getElem?_append_left (by omega), List.getElem?_append_left (by simp; omega), List.getElem?_take, List.getElem?_take, if_pos hlt, if_pos (by omega)]
    · have hl2 : (t.take (j + 1)).length = j + 1 := by simp; omega
      rw [List.getElem?_append_right (by omega), List.getElem?_append_right (by omega), hl, hl2, List.getElem?_drop, List.getElem?_drop]
      congr 1; omega
theorem mix_at {t o : List Int} (h : t.length = o.length) {j : Nat} (hj : j < o.length) : (mix t o j)[j]? = o[j]? := by
  have hl : (t.take j).length = j := by simp; omega
  unfold mix
  rw [List.getElem?_append_right (by omega), hl, List.getElem?_drop]
  congr 1; omega

theorem mix_rep {t : List Int} {n : Nat} {c : Int} (h : t.length = n) {j : Nat} (hj : j < n) : (mix t (List.replicate n c) j)[j]? = some c := by
  rw [mix_at (by simpa using h) (by simpa using hj), List.getElem?_replicate, if_pos hj]
theorem mix_end {t : List Int} {n : Nat} {c : Int} (h : t.length = n) : mix t (List.replicate n c) n = t := by
  have := mix_full (t := t) (o := List.replicate n c) (by simpa using h)
  rwa [List.length_replicate] at this
theorem mix_step {t : List Int} {n : Nat} {c x : Int} (h : t.length = n) {j : Nat} (hx : t[j]? = some x) : (mix t (List.replicate n c) j).set j x = mix t (List.replicate n c) (j + 1) := mix_set (by simpa using h) hx
theorem map_at {d : List Int} {f : Int → Int} {j : Nat} {x : Int} (h : d[j]? = some x) : (d.map f)[j]? = some (f x) := by simp [h]
theorem zip_at {d k : List Int} {f : Int → Int → Int} {j : Nat} {x y : Int} (h : d[j]? = some x) (g : k[j]? = some y) : (List.zipWith f d k)[j]? = some (f x y) := by
  rw [List.getElem?_zipWith, h, g]
theorem pick3_length : ∀ (c a b : List Int), a.length = c.length → b.length = c.length → (pick3 c a b).length = c.length
  | [], _, _, _, _ => by simp [pick3]
  | z :: c, [], _, h, _ => by simp at h
  | z :: c, x :: a, [], _, h => by simp at h
  | z :: c, x :: a, y :: b, h, g => by simp [pick3, pick3_length c a b (by simpa using h) (by simpa using g)]
theorem pick3_at : ∀ {c a b : List Int} {j : Nat} {z x y : Int}, c[j]? = some z → a[j]? = some x → b[j]? = some y → (pick3 c a b)[j]? = some (if z = 0 then y else x)
  | [], _, _, _, _, _, _, h, _, _ => by simp at h
  | _ :: _, [], _, _, _, _, _, _, h, _ => by simp at h
  | _ :: _, _ :: _, [], _, _, _, _, _, _, h => by simp at h
  | _ :: c, _ :: a, _ :: b, 0, _, _, _, h, g, f => by simp at h g f; subst h; subst g; subst f; simp [pick3]
  | _ :: c, _ :: a, _ :: b, j + 1, _, _, _, h, g, f => by simp at h g f; simp [pick3, pick3_at h g f]

theorem step_back {x y : Int} (hx : Fits x) : stepF 7 (stepF 6 x y) y = x := by
  unfold Fits at hx
  simp [stepF, wrap64]; omega
theorem step_minmax (x y : Int) : stepF 6 (stepF 9 x y) (stepF 10 x y) = stepF 6 x y := by
  simp [stepF]
  by_cases h : y < x
  · rw [if_pos h, if_neg (by omega)]; congr 1; omega
  · rw [if_neg h]
    by_cases g : x < y
    · rw [if_pos g]
    · rw [if_neg g]; congr 1; omega
theorem step_neg {x : Int} (hx : Fits x) : stepF 4 (stepF 4 x 0) 0 = x := by
  unfold Fits at hx
  simp [stepF, wrap64]; omega
theorem zip_back : ∀ {d k : List Int}, (∀ x ∈ d, Fits x) → k.length = d.length → List.zipWith (stepF 7) (List.zipWith (stepF 6) d k) k = d
  | [], [], _, _ => rfl
  | [], _ :: _, _, h => by simp at h
  | _ :: _, [], _, h => by simp at h
  | x :: d, y :: k, hf, h => by
    simp only [List.zipWith_cons_cons]
    rw [step_back (hf x (by simp)), zip_back (fun z hz => hf z (by simp [hz])) (by simpa using h)]
theorem zip_minmax : ∀ (d k : List Int), List.zipWith (stepF 6) (List.zipWith (stepF 9) d k) (List.zipWith (stepF 10) d k) = List.zipWith (stepF 6) d k
  | [], _ => by simp
  | _ :: _, [] => by simp
  | x :: d, y :: k => by simp only [List.zipWith_cons_cons]; rw [step_minmax, zip_minmax d k]
theorem map_neg : ∀ {d : List Int}, (∀ x ∈ d, Fits x) → (d.map fun x => stepF 4 x 0).map (fun x => stepF 4 x 0) = d
  | [], _ => rfl
  | x :: d, hf => by
    simp only [List.map_cons]
    rw [step_neg (hf x (by simp)), map_neg (fun z hz => hf z (by simp [hz]))]
theorem pick_none : ∀ {d k : List Int}, k.length = d.length → pick3 (List.replicate d.length 0) d k = k
  | [], [], _ => rfl
  | [], _ :: _, h => by simp at h
  | _ :: _, [], h => by simp at h
  | x :: d, y :: k, h => by
    rw [List.length_cons, List.replicate_succ, pick3, pick_none (by simpa using h)]; simp
theorem pick_all {z : Int} (hz : z ≠ 0) : ∀ {d k : List Int}, k.length = d.length → pick3 (List.replicate d.length z) d k = d
  | [], [], _ => rfl
  | [], _ :: _, h => by simp at h
  | _ :: _, [], h => by simp at h
  | x :: d, y :: k, h => by
    rw [List.length_cons, List.replicate_succ, pick3, pick_all hz (by simpa using h)]; simp [hz]

theorem len_right {s d : List Int} (h : tenRight s d = true) : (d.length : Int) = Sh.size s := by
  simp only [tenRight, Bool.and_eq_true, decide_eq_true_eq] at h
  exact h.2
theorem right_of {s d : List Int} (h : tenRight s d = true) : Sh.right s = true := by
  simp only [tenRight, Bool.and_eq_true, decide_eq_true_eq] at h
  exact h.1
theorem right_len {s d : List Int} (h : tenRight s d = true) : s.length ≤ 4 ∧ d.length ≤ 4096 := by
  have h2 := Sh.size_bd s
  have h3 := len_right h
  exact ⟨(Sh.right_iff.1 (right_of h)).1, by omega⟩
theorem same_len {s d k : List Int} (h : tenRight s d = true) (g : tenRight s k = true) : k.length = d.length := by
  have h1 := len_right h
  have h2 := len_right g
  omega
theorem right_same {s d k : List Int} (h : tenRight s d = true) (hl : k.length = d.length) : tenRight s k = true := by
  simp only [tenRight, Bool.and_eq_true, decide_eq_true_eq] at h ⊢
  exact ⟨h.1, by rw [hl]; exact h.2⟩
theorem oneR_ok {op : Int} {s d : List Int} (ho : op = 4 ∨ op = 5) (h : tenRight s d = true) : oneR op s d = (0, s, d.map fun x => stepF op x 0) := by
  rw [oneR, if_neg (by omega), if_pos h]
theorem oneR_arg {op : Int} {s d : List Int} (ho : op ≠ 4 ∧ op ≠ 5) : oneR op s d = refused 1 := by rw [oneR, if_pos ho]
theorem oneR_shape {op : Int} {s d : List Int} (ho : op = 4 ∨ op = 5) (h : tenRight s d = false) : oneR op s d = refused 13 := by
  rw [oneR, if_neg (by omega), h]; rfl
theorem twoR_arg {op : Int} {s d t k : List Int} (ho : op < 6 ∨ 11 < op) : twoR op s d t k = refused 1 := by rw [twoR, if_pos ho]
theorem twoR_ok {op : Int} {s d t k : List Int} (ho : 6 ≤ op ∧ op ≤ 11) (h : (tenRight s d && (tenRight t k && t == s)) = true) : twoR op s d t k = (0, s, List.zipWith (stepF op) d k) := by
  rw [twoR, if_neg (by omega), if_pos h]
theorem twoR_shape {op : Int} {s d t k : List Int} (ho : 6 ≤ op ∧ op ≤ 11) (h : (tenRight s d && (tenRight t k && t == s)) = false) : twoR op s d t k = refused 13 := by
  rw [twoR, if_neg (by omega), h]; rfl
end Go.Proofs.Ytiigbkjkmfjhcaa
