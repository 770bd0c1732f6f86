/- Contracts of package point. -/
import Derived.Test.YtiigbkjkmfjhcaaRef4B
namespace Go.Proofs.Ytiigbkjkmfjhcaa
open Go.RowKit

theorem pTruth_any (b : Bool) (w : World) :
    Calls Try.prog 46 #[.bool b] w fun e w' => e = .returned (.int .i64 (if b = true then 1 else 0)) ∧ w = w' := by
  cases b <;>
  · go_enter Try.func46, Try.ntmps46
    go_wp2
    go_ret
    exact ⟨rfl, rfl⟩
set_option maxRecDepth 100000 in
set_option maxHeartbeats 1600000 in
theorem pStep_any (op a b : Int) (w : World) :
    Calls Try.prog 44 #[.int .i64 op, .int .i64 a, .int .i64 b] w fun e w' => e = .returned (.int .i64 (stepF op a b)) ∧ w = w' := by
  by_cases h4 : op = 4
  · subst h4
    · go_enter Try.func44, Try.ntmps44
      go_wp2
      go_ret
      exact ⟨by simp [stepF], rfl⟩
  by_cases h5 : op = 5
  · subst h5
    clear h4
    by_cases hc : a = 0
    · go_enter Try.func44, Try.ntmps44
      go_wp2
      go_ret
      exact ⟨by simp [stepF, hc], rfl⟩
    · go_enter Try.func44, Try.ntmps44
      go_wp2
      go_ret
      exact ⟨by simp [stepF, hc], rfl⟩
  by_cases h6 : op = 6
  · subst h6
    clear h4 h5
    · go_enter Try.func44, Try.ntmps44
      go_wp2
      go_ret
      exact ⟨by simp [stepF], rfl⟩
  by_cases h7 : op = 7
  · subst h7
    clear h4 h5 h6
    · go_enter Try.func44, Try.ntmps44
      go_wp2
      go_ret
      exact ⟨by simp [stepF], rfl⟩
  by_cases h8 : op = 8
  · subst h8
    clear h4 h5 h6 h7
    · go_enter Try.func44, Try.ntmps44
      go_wp2
      go_ret
      exact ⟨by simp [stepF], rfl⟩
  by_cases h9 : op = 9
  · subst h9
    clear h4 h5 h6 h7 h8
    by_cases hc : b < a
    · go_enter Try.func44, Try.ntmps44
      go_wp2
      go_ret
      exact ⟨by simp [stepF, hc], rfl⟩
    · go_enter Try.func44, Try.ntmps44
      go_wp2
      go_ret
      exact ⟨by simp [stepF]; omega, rfl⟩
  by_cases h10 : op = 10
  · subst h10
    clear h4 h5 h6 h7 h8 h9
    by_cases hc : b > a
    · go_enter Try.func44, Try.ntmps44
      go_wp2
      go_ret
      exact ⟨by simp [stepF, hc], rfl⟩
    · go_enter Try.func44, Try.ntmps44
      go_wp2
      go_ret
      exact ⟨by simp [stepF]; omega, rfl⟩
  by_cases h11 : op = 11
  · subst h11
    clear h4 h5 h6 h7 h8 h9 h10
    by_cases hc : a < b
    · go_enter Try.func44, Try.ntmps44
      go_wp2
      go_ret
      exact ⟨by simp [stepF, hc], rfl⟩
    · go_enter Try.func44, Try.ntmps44
      go_wp2
      go_ret
      exact ⟨by simp [stepF, hc], rfl⟩
  have HX := Lib.hid (show stepF op a b = 0 by simp [stepF, h4, h5, h6, h7, h8, h9, h10, h11])
  go_enter Try.func44, Try.ntmps44
  go_wp2
  go_ret
  exact ⟨by rw [HX.out]; rfl, rfl⟩
/-- Whether two tensors are right and of one shape. -/
def fitB (s d t k : List Int) : Bool := tenRight s d && (tenRight t k && s == t)
theorem fit_comm {s t : List Int} : (s == t) = (t == s) := by
  by_cases h : s = t
  · subst h; rfl
  · rw [beq_eq_false_iff_ne.2 h, beq_eq_false_iff_ne.2 (Ne.symm h)]
theorem fitB_two {s d t k : List Int} : fitB s d t k = (tenRight s d && (tenRight t k && t == s)) := by rw [fitB, fit_comm]

theorem set_same {l : List Int} {j : Nat} {x : Int} (h : l[j]? = some x) : l.set j x = l := by
  apply List.ext_getElem?
  intro i
  rw [List.getElem?_set]
  by_cases hi : j = i
  · subst hi; rw [if_pos rfl, h, if_pos (List.getElem?_eq_some_iff.1 h).1]
  · rw [if_neg hi]

end Go.Proofs.Ytiigbkjkmfjhcaa
