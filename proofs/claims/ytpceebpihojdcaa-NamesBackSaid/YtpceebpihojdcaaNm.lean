/- Notes by runes: plain mathematics of chapter 9. No Go in it. -/
import Derived.Test.YtpceebpihojdcaaKit
namespace Go.Proofs.Ytpceebpihojdcaa
open Go.RowKit

/-- Which place a rune has. -/
def findI : List Int → Int → Nat → Int
  | [], _, _ => -1
  | x :: l, r, k => if x = r then k else findI l r (k + 1)
def findF (l : List Int) (r : Int) : Int := findI l r 0
theorem findI_none {r : Int} : ∀ {l : List Int} {k : Nat}, r ∉ l → findI l r k = -1
  | [], _, _ => rfl
  | x :: l, k, h => by
    rw [findI, if_neg (fun e => h (by simp [e])), findI_none (fun hm => h (List.mem_cons_of_mem _ hm))]
theorem findF_none {l : List Int} {r : Int} (h : r ∉ l) : findF l r = -1 := findI_none h
theorem findI_at {r : Int} : ∀ {l : List Int} {k j : Nat}, l[j]? = some r → r ∉ l.take j → findI l r k = ((k + j : Nat) : Int)
  | [], _, _, h, _ => by simp at h
  | x :: l, k, 0, h, _ => by simp at h; subst h; rw [findI, if_pos rfl]; rfl
  | x :: l, k, j + 1, h, hn => by
    rw [List.take_succ_cons] at hn
    rw [findI, if_neg (fun e => hn (by simp [e])), findI_at (j := j) (by simpa using h) (fun hm => hn (List.mem_cons_of_mem _ hm))]
    congr 1; omega
theorem findF_at {l : List Int} {r : Int} {j : Nat} (h : l[j]? = some r) (hn : r ∉ l.take j) : findF l r = (j : Int) := by
  have := findI_at (k := 0) h hn
  rwa [Nat.zero_add] at this
theorem findF_bd (l : List Int) (r : Int) : -1 ≤ findF l r ∧ findF l r < l.length := by
  have : ∀ (l : List Int) (k : Nat), -1 ≤ findI l r k ∧ findI l r k < ((k + l.length : Nat) : Int) := by
    intro l
    induction l with
    | nil => intro k; rw [findI]; exact ⟨by omega, by omega⟩
    | cons x l ih =>
      intro k
      rw [findI]
      have := ih (k + 1)
      rw [List.length_cons]
      split <;> omega
  have := this l 0
  rw [Nat.zero_add] at this
  exact this

/-- Signs that are no names. -/
def badR (x : Int) : Prop := x < 33 ∨ x = 65533 ∨ x = 46 ∨ x = 45 ∨ x = 40 ∨ x = 41
def RightAt (l : List Int) (i : Nat) : Prop := ∀ x, l[i]? = some x → ¬ badR x ∧ findF l x = i
def RightN (l : List Int) (n : Int) : Prop := 0 ≤ n ∧ n ≤ 3 ∧ (l.length : Int) = n ∧ ∀ i, RightAt l i
open Classical in
noncomputable def rightB (l : List Int) (n : Int) : Bool := decide (RightN l n)
open Classical in
theorem rightB_yes {l : List Int} {n : Int} (h : RightN l n) : rightB l n = true := decide_eq_true h
open Classical in
theorem rightB_no {l : List Int} {n : Int} (h : ¬ RightN l n) : rightB l n = false := decide_eq_false h

/-- A note, sign by sign. -/
def noteStep (nm out : List Int) (r : Int) : Option (List Int) :=
  if r = 32 then some out else if r = 46 then some (out ++ [-1]) else if findF nm r < 0 then none else if findF nm r ∈ out then none else some (out ++ [findF nm r])
def noteL (nm : List Int) : List Int → List Int → Option (List Int)
  | out, [] => some out
  | out, r :: l => (noteStep nm out r).bind fun o => noteL nm o l
def noteR (nm l : List Int) (rank : Int) : List Int × Bool × Int :=
  if 16 < l.length then ([], false, 14) else
    match noteL nm [] l with
    | none => ([], false, 14)
    | some out => if out = [] then ([], false, 0) else if (out.length : Int) = rank then (out, true, 0) else ([], false, 14)
theorem noteR_long {nm l : List Int} {rank : Int} (h : 16 < l.length) : noteR nm l rank = ([], false, 14) := by rw [noteR, if_pos h]
theorem noteR_bad {nm l : List Int} {rank : Int} (h : l.length ≤ 16) (g : noteL nm [] l = none) : noteR nm l rank = ([], false, 14) := by rw [noteR, if_neg (by omega), g]
theorem noteR_blank {nm l : List Int} {rank : Int} (h : l.length ≤ 16) (g : noteL nm [] l = some []) : noteR nm l rank = ([], false, 0) := by rw [noteR, if_neg (by omega), g]; rfl
theorem noteR_rank {nm l out : List Int} {rank : Int} (h : l.length ≤ 16) (g : noteL nm [] l = some out) (hne : out ≠ []) (hr : (out.length : Int) ≠ rank) : noteR nm l rank = ([], false, 14) := by
  rw [noteR, if_neg (by omega), g]
  show (if out = [] then _ else _) = _
  rw [if_neg hne, if_neg hr]
theorem noteR_ok {nm l out : List Int} {rank : Int} (h : l.length ≤ 16) (g : noteL nm [] l = some out) (hne : out ≠ []) (hr : (out.length : Int) = rank) : noteR nm l rank = (out, true, 0) := by
  rw [noteR, if_neg (by omega), g]
  show (if out = [] then _ else _) = _
  rw [if_neg hne, if_pos hr]
theorem drop_at9 {l : List Int} {j : Nat} {y : Int} (h : l[j]? = some y) : l.drop j = y :: l.drop (j + 1) := by
  obtain ⟨hj, rfl⟩ := List.getElem?_eq_some_iff.1 h
  exact List.drop_eq_getElem_cons hj
/-- What is left to do behind k signs. -/
theorem noteL_blank {nm l out : List Int} {k : Nat} (h : l[k]? = some 32) : noteL nm out (l.drop k) = noteL nm out (l.drop (k + 1)) := by rw [drop_at9 h, noteL, noteStep, if_pos rfl]; rfl
theorem noteL_point {nm l out : List Int} {k : Nat} (h : l[k]? = some 46) : noteL nm out (l.drop k) = noteL nm (out ++ [-1]) (l.drop (k + 1)) := by rw [drop_at9 h, noteL, noteStep, if_neg (by decide), if_pos rfl]; rfl
theorem noteL_none {nm l out : List Int} {k : Nat} {r : Int} (h : l[k]? = some r) (h1 : r ≠ 32) (h2 : r ≠ 46) (h3 : findF nm r < 0) : noteL nm out (l.drop k) = none := by rw [drop_at9 h, noteL, noteStep, if_neg h1, if_neg h2, if_pos h3]; rfl
theorem noteL_twice {nm l out : List Int} {k : Nat} {r : Int} (h : l[k]? = some r) (h1 : r ≠ 32) (h2 : r ≠ 46) (h3 : ¬ findF nm r < 0) (h4 : findF nm r ∈ out) : noteL nm out (l.drop k) = none := by rw [drop_at9 h, noteL, noteStep, if_neg h1, if_neg h2, if_neg h3, if_pos h4]; rfl
theorem noteL_name {nm l out : List Int} {k : Nat} {r : Int} (h : l[k]? = some r) (h1 : r ≠ 32) (h2 : r ≠ 46) (h3 : ¬ findF nm r < 0) (h4 : findF nm r ∉ out) : noteL nm out (l.drop k) = noteL nm (out ++ [findF nm r]) (l.drop (k + 1)) := by rw [drop_at9 h, noteL, noteStep, if_neg h1, if_neg h2, if_neg h3, if_neg h4]; rfl
theorem noteL_end {nm l out : List Int} {k : Nat} (h : l.length ≤ k) : noteL nm out (l.drop k) = some out := by rw [List.drop_eq_nil_of_le h]; rfl
end Go.Proofs.Ytpceebpihojdcaa
