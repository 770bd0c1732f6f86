/- A spec that is written is read as itself: plain mathematics of NamesBack. No Go in it. -/
import Derived.Test.YtpceebpihojdcaaUt
import Derived.Test.YtpceebpihojdcaaRef9N
namespace Go.Proofs.Ytpceebpihojdcaa
open Go.RowKit

def nm9 : List Int := [120, 233, 19990]
def sv9 (x : Int) : Int := if x = 0 then 120 else if x = 1 then 233 else if x = 2 then 19990 else 46
theorem four9 {x : Int} (h : -1 ≤ x) (g : x ≤ 2) : x = -1 ∨ x = 0 ∨ x = 1 ∨ x = 2 := by omega
theorem sign_sv9 {x : Int} (h : -1 ≤ x) (g : x ≤ 2) : signT nm9 x = Utf8.encode (sv9 x) := by
  rcases four9 h g with rfl | rfl | rfl | rfl <;> kernel_rfl
theorem text_sv9 (S : List Int) (h : ∀ x ∈ S, -1 ≤ x ∧ x ≤ 2) : textF nm9 S = runesBytes (S.map sv9) := by
  have : ∀ (S : List Int) (o : ByteArray), (∀ x ∈ S, -1 ≤ x ∧ x ≤ 2) → S.foldl (fun o x => o ++ signT nm9 x) o = (S.map sv9).foldl (fun r n => r ++ Utf8.encode n) o := by
    intro S
    induction S with
    | nil => intro o _; rfl
    | cons x S ih =>
      intro o h
      have hx := h x (by simp)
      rw [List.foldl_cons, List.map_cons, List.foldl_cons, sign_sv9 hx.1 hx.2, ih _ (fun y hy => h y (by simp [hy]))]
  exact this S _ h
theorem sv9_bd (x : Int) : 0 ≤ sv9 x ∧ sv9 x < 55296 := by unfold sv9; split; omega; split; omega; split <;> omega

inductive Spec9 : List Int → Prop
  | nil : Spec9 []
  | snoc {S : List Int} {m : Int} : Spec9 S → -1 ≤ m → m ≤ 2 → (m = -1 ∨ m ∉ S) → Spec9 (S ++ [m])
theorem Spec9.bd {S : List Int} (h : Spec9 S) : ∀ x ∈ S, -1 ≤ x ∧ x ≤ 2 := by
  induction h with
  | nil => simp
  | snoc _ h1 h2 _ ih => intro x hx; simp at hx; rcases hx with hx | rfl; exact ih x hx; exact ⟨h1, h2⟩
theorem noteL_append (nm : List Int) : ∀ (l o m : List Int), noteL nm o (l ++ m) = (noteL nm o l).bind fun q => noteL nm q m
  | [], o, m => rfl
  | r :: l, o, m => by
    rw [List.cons_append, noteL, noteL]
    cases noteStep nm o r with
    | none => rfl
    | some q => exact noteL_append nm l q m
theorem step_sv9 {S : List Int} {m : Int} (h1 : -1 ≤ m) (h2 : m ≤ 2) (h3 : m = -1 ∨ m ∉ S) : noteStep nm9 S (sv9 m) = some (S ++ [m]) := by
  rcases four9 h1 h2 with rfl | rfl | rfl | rfl
  · rfl
  all_goals
    have hn := h3.resolve_left (by omega)
    rw [noteStep, if_neg (by decide), if_neg (by decide), if_neg (by decide), if_neg (by exact hn)]
    rfl
/-- The runes of a spec, blanks ahead of each or not. -/
def runs9 (wide : Bool) (l : List Int) : List Int := if wide then l.flatMap (fun r => [32, r]) ++ [32] else l
theorem blank9 (nm o : List Int) : noteL nm o [32] = some o := rfl
theorem note_back9 {S : List Int} (h : Spec9 S) (wide : Bool) : noteL nm9 [] (runs9 wide (S.map sv9)) = some S := by
  cases wide with
  | false =>
    show noteL nm9 [] (S.map sv9) = _
    induction h with
    | nil => rfl
    | snoc _ h1 h2 h3 ih => rw [List.map_append, noteL_append, ih, Option.bind_some]; show (noteStep _ _ _).bind _ = _; rw [step_sv9 h1 h2 h3]; rfl
  | true =>
    show noteL nm9 [] ((S.map sv9).flatMap (fun r => [32, r]) ++ [32]) = _
    rw [noteL_append]
    have : noteL nm9 [] ((S.map sv9).flatMap (fun r => [32, r])) = some S := by
      induction h with
      | nil => rfl
      | snoc _ h1 h2 h3 ih =>
        rw [List.map_append, List.flatMap_append, noteL_append, ih, Option.bind_some]
        show (noteStep _ _ 32).bind (fun q => (noteStep _ q _).bind _) = _
        rw [show ∀ S : List Int, noteStep nm9 S 32 = some S from fun _ => rfl, Option.bind_some, step_sv9 h1 h2 h3]; rfl
    rw [this]; rfl
theorem runs9_bd (wide : Bool) (S : List Int) : ∀ r ∈ runs9 wide (S.map sv9), 0 ≤ r ∧ r < 55296 := by
  intro r hr
  have := sv9_bd
  cases wide with
  | false => simp [runs9] at hr; obtain ⟨x, _, rfl⟩ := hr; exact this x
  | true =>
    simp only [runs9, if_true, List.mem_append, List.mem_flatMap, List.mem_map] at hr
    rcases hr with ⟨_, ⟨x, _, rfl⟩, hr⟩ | hr
    · simp at hr; rcases hr with rfl | rfl; omega; exact this x
    · simp at hr; omega
theorem runs9_len (wide : Bool) (l : List Int) : (runs9 wide l).length ≤ 2 * l.length + 1 := by
  cases wide with
  | false => simp [runs9]; omega
  | true =>
    have : ∀ l : List Int, (l.flatMap (fun r => [32, r])).length = 2 * l.length := by
      intro l; induction l with
      | nil => rfl
      | cons x l ih => rw [List.flatMap_cons, List.length_append, ih, List.length_cons]; simp; omega
    simp only [runs9, if_true, List.length_append, this]
    simp
theorem back9 {S : List Int} (h : Spec9 S) (wide : Bool) {k : Nat} (hk : S.length = k) (h0 : 0 < k) (h4 : k ≤ 4) : noteR nm9 (runesOf (runesBytes (runs9 wide (S.map sv9)))) k = (S, true, 0) := by
  rw [runes_bytes _ (runs9_bd wide S)]
  refine noteR_ok ?_ (note_back9 h wide) (by intro e; subst e; simp at hk; omega) (by rw [hk])
  have := runs9_len wide (S.map sv9)
  rw [List.length_map] at this
  omega
end Go.Proofs.Ytpceebpihojdcaa
