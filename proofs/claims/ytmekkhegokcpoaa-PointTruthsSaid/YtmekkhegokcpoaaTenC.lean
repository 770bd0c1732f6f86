/- Contracts of package tensor: Set, Fill, Iota. -/
import Derived.Test.YtmekkhegokcpoaaTenB
namespace Go.Proofs.Ytmekkhegokcpoaa
open Go.RowKit

theorem tenIx_small {s d p : List Int} (h : 0 ≤ tenIx s d p) : s.length ≤ 4 ∧ d.length ≤ 4096 := by
  unfold tenIx at h
  cases hr : tenRight s d with
  | false => rw [hr] at h; simp at h
  | true =>
    simp only [tenRight, Bool.and_eq_true, decide_eq_true_eq] at hr
    have := Sh.size_bd s
    exact ⟨(Sh.right_iff.1 hr.1).1, by omega⟩

def fillErr (s : List Int) : Int := if Sh.right s then 0 else 13
def fillS (s : List Int) : List Int := if Sh.right s then s else []
def fillD (s : List Int) (x : Int) : List Int := if Sh.right s then List.replicate (Sh.size s).toNat x else []
theorem fillErr_true {s : List Int} (h : Sh.right s = true) : fillErr s = 0 := by simp [fillErr, h]
theorem fillErr_false {s : List Int} (h : Sh.right s = false) : fillErr s = 13 := by simp [fillErr, h]
theorem fillS_true {s : List Int} (h : Sh.right s = true) : fillS s = s := by simp [fillS, h]
theorem fillS_false {s : List Int} (h : Sh.right s = false) : fillS s = [] := by simp [fillS, h]
theorem fillD_true {s : List Int} {x : Int} (h : Sh.right s = true) : fillD s x = List.replicate (Sh.size s).toNat x := by simp [fillD, h]
theorem fillD_false {s : List Int} {x : Int} (h : Sh.right s = false) : fillD s x = [] := by simp [fillD, h]


end Go.Proofs.Ytmekkhegokcpoaa
