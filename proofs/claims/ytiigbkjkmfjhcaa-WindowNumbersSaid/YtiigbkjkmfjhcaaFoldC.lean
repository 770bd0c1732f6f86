/- Contracts of package fold. -/
import Derived.Test.YtiigbkjkmfjhcaaRef6
import Derived.Test.YtiigbkjkmfjhcaaPointC
import Derived.Test.YtiigbkjkmfjhcaaPlaceO
import Derived.Test.YtiigbkjkmfjhcaaRoom
import Derived.StillTailTactics
namespace Go.Proofs.Ytiigbkjkmfjhcaa
open Go.RowKit

/-! A list without some: what is left, and what is left of the axes. -/
def wo : Nat → List Int → List Int → List Int × List Int
  | _, [], ax => ([], ax)
  | k, x :: l, ax => if ax[0]? = some (k : Int) then wo (k + 1) l (ax.drop 1) else (x :: (wo (k + 1) l ax).1, (wo (k + 1) l ax).2)
def WoAt (l a : List Int) (j : Nat) (acc ax : List Int) : Prop := wo 0 l a = (acc ++ (wo j (l.drop j) ax).1, (wo j (l.drop j) ax).2)
theorem WoAt.start (l a : List Int) : WoAt l a 0 [] a := by simp [WoAt]
theorem drop_at {l : List Int} {j : Nat} {y : Int} (h : l[j]? = some y) : l.drop j = y :: l.drop (j + 1) := by
  obtain ⟨hj, rfl⟩ := List.getElem?_eq_some_iff.1 h
  exact List.drop_eq_getElem_cons hj
theorem WoAt.hit {l a acc ax : List Int} {j : Nat} {y : Int} (h : WoAt l a j acc ax) (hy : l[j]? = some y) (hx : ax[0]? = some (j : Int)) : WoAt l a (j + 1) acc (ax.drop 1) := by
  unfold WoAt at *
  rw [h, drop_at hy, wo, if_pos hx]
theorem WoAt.miss {l a acc ax : List Int} {j : Nat} {y : Int} (h : WoAt l a j acc ax) (hy : l[j]? = some y) (hx : ax[0]? ≠ some (j : Int)) : WoAt l a (j + 1) (acc ++ [y]) ax := by
  unfold WoAt at *
  rw [h, drop_at hy, wo, if_neg hx]
  simp
theorem WoAt.fin {l a acc ax : List Int} {j : Nat} (h : WoAt l a j acc ax) (hj : l.length ≤ j) : wo 0 l a = (acc, ax) := by
  unfold WoAt at h
  rw [h, List.drop_eq_nil_of_le hj]
  simp [wo]

/-- Rising, from k on, below n. -/
def Up : Int → Int → List Int → Prop
  | _, _, [] => True
  | k, n, x :: l => k ≤ x ∧ x < n ∧ Up (x + 1) n l
theorem Up.mem : ∀ {l : List Int} {k n : Int}, Up k n l → ∀ x ∈ l, k ≤ x ∧ x < n
  | [], _, _, _, x, hx => by cases hx
  | y :: l, k, n, h, x, hx => by
    obtain ⟨h1, h2, h3⟩ := h
    rcases List.mem_cons.1 hx with rfl | hx
    · exact ⟨h1, h2⟩
    · have := Up.mem h3 x hx; omega
theorem up_of : ∀ {l : List Int} {k n : Int}, (∀ x, l[0]? = some x → k ≤ x) → (∀ (j : Nat) x, l[j]? = some x → x < n ∧ ∀ z, 0 < j → l[j - 1]? = some z → z < x) → Up k n l
  | [], _, _, _, _ => trivial
  | y :: l, k, n, h0, h => by
    refine ⟨h0 y rfl, (h 0 y rfl).1, up_of (fun x hx => ?_) fun j x hx => ?_⟩
    · have := (h 1 x (by simpa using hx)).2 y (by omega) rfl; omega
    · refine ⟨(h (j + 1) x (by simpa using hx)).1, fun z hj hz => (h (j + 1) x (by simpa using hx)).2 z (by omega) ?_⟩
      obtain ⟨j, rfl⟩ : ∃ i, j = i + 1 := ⟨j - 1, by omega⟩
      simpa using hz
theorem Up.adj : ∀ {l : List Int} {k n : Int}, Up k n l → ∀ (j : Nat) x z, l[j + 1]? = some x → l[j]? = some z → z < x
  | [], _, _, _, j, x, z, hx, _ => by simp at hx
  | y :: l, k, n, h, j, x, z, hx, hz => by
    obtain ⟨_, _, h3⟩ := h
    cases j with
    | zero =>
      simp at hz; subst hz
      have := (h3.mem x (List.mem_of_getElem? (by simpa using hx))).1; omega
    | succ j => exact Up.adj h3 j x z (by simpa using hx) (by simpa using hz)
theorem rises_up {a : List Int} {r : Nat} : Rises a r ↔ Up 0 r a := by
  constructor
  · intro h
    exact up_of (fun x hx => (h 0 x hx).1) fun j x hx => ⟨(h j x hx).2.1, (h j x hx).2.2⟩
  · intro h k x hx
    have hm := h.mem x (List.mem_of_getElem? hx)
    refine ⟨hm.1, hm.2, fun z hk hz => ?_⟩
    obtain ⟨k, rfl⟩ : ∃ i, k = i + 1 := ⟨k - 1, by omega⟩
    exact h.adj k x z hx (by simpa using hz)
theorem restAt_congr {a b : List Int} : ∀ (l : List Int) (k : Nat), (∀ j : Nat, k ≤ j → ((j : Int) ∈ a ↔ (j : Int) ∈ b)) → restAt a k l = restAt b k l
  | [], k, _ => rfl
  | x :: l, k, h => by
    rw [restAt, restAt, restAt_congr l (k + 1) fun j hj => h j (by omega)]
    by_cases hm : (k : Int) ∈ a
    · rw [if_pos hm, if_pos ((h k (by omega)).1 hm)]
    · rw [if_neg hm, if_neg (fun hb => hm ((h k (by omega)).2 hb))]
theorem wo_up : ∀ (l : List Int) (k : Nat) (ax : List Int), ((wo k l ax).2 = [] ↔ Up k ((k + l.length : Nat) : Int) ax) ∧ (Up k ((k + l.length : Nat) : Int) ax → (wo k l ax).1 = restAt ax k l)
  | [], k, ax => by
    constructor
    · cases ax with
      | nil => simp [wo, Up]
      | cons y ax => simp only [wo, Up, List.length_nil, Nat.add_zero]; constructor <;> intro h; cases h; omega
    · intro h; rfl
  | x :: l, k, ax => by
    have el : ((k + (x :: l).length : Nat) : Int) = ((k + 1 + l.length : Nat) : Int) := by rw [List.length_cons]; congr 1; omega
    rw [el]
    by_cases hx : ax[0]? = some (k : Int)
    · match ax, hx with
      | y :: ax, hx =>
        simp at hx; subst hx
        obtain ⟨i1, i2⟩ := wo_up l (k + 1) ax
        have e : wo k (x :: l) ((k : Int) :: ax) = wo (k + 1) l ax := by rw [wo]; exact if_pos rfl
        have eu : Up k ((k + 1 + l.length : Nat) : Int) ((k : Int) :: ax) ↔ Up ((k + 1 : Nat) : Int) ((k + 1 + l.length : Nat) : Int) ax := by
          simp only [Up]
          constructor
          · rintro ⟨_, _, h⟩; simpa using h
          · intro h; exact ⟨by omega, by omega, by simpa using h⟩
        rw [e, eu]
        refine ⟨i1, fun h => (i2 h).trans ?_⟩
        rw [restAt, if_pos (by simp)]
        refine restAt_congr l (k + 1) fun j hj => ?_
        rw [List.mem_cons]
        constructor
        · exact .inr
        · rintro (h | h)
          · omega
          · exact h
    · obtain ⟨i1, i2⟩ := wo_up l (k + 1) ax
      have e : wo k (x :: l) ax = (x :: (wo (k + 1) l ax).1, (wo (k + 1) l ax).2) := by rw [wo, if_neg hx]
      have eu : Up k ((k + 1 + l.length : Nat) : Int) ax ↔ Up ((k + 1 : Nat) : Int) ((k + 1 + l.length : Nat) : Int) ax := by
        cases ax with
        | nil => simp [Up]
        | cons y ax =>
          simp at hx
          simp only [Up]
          constructor
          · rintro ⟨h1, h2, h3⟩; exact ⟨by omega, h2, h3⟩
          · rintro ⟨h1, h2, h3⟩; exact ⟨by omega, h2, h3⟩
      rw [e, eu]
      refine ⟨i1, fun h => ?_⟩
      have hn : ¬ (k : Int) ∈ ax := fun hm => by have := (h.mem _ hm).1; omega
      rw [restAt, if_neg hn]
      show x :: _ = _
      rw [i2 h]
def woL (l a : List Int) : List Int := (wo 0 l a).1
def woOk (l a : List Int) : Bool := decide ((wo 0 l a).2 = [])
theorem wo_yes {l a : List Int} (h : Rises a l.length) : woOk l a = true ∧ woL l a = rest a l := by
  have hu : Up ((0 : Nat) : Int) ((0 + l.length : Nat) : Int) a := by have := rises_up.1 h; simpa using this
  obtain ⟨h1, h2⟩ := wo_up l 0 a
  exact ⟨decide_eq_true (h1.2 hu), h2 hu⟩
theorem wo_no {l a : List Int} (h : ¬ Rises a l.length) : woOk l a = false := by
  obtain ⟨h1, _⟩ := wo_up l 0 a
  exact decide_eq_false fun hc => h (rises_up.2 (by have := h1.1 hc; simpa using this))

set_option maxRecDepth 100000 in
/-- l[1:] -/
theorem run_dropI {w1 : World} {a : Addr} {n c : Nat} {xs : List Int} (hI : Ints w1 (some a) n xs) (h1 : 1 ≤ n) (hnc : n ≤ c) : ∃ A2 : Option Addr, (∀ w, (Instr.slice 23 (.slice (some a) n c) (some (.int .i64 1)) none none).run Try.prog w = .ok (.slice A2 (n - 1) (c - 1)) w) ∧ Ints w1 A2 (n - 1) (xs.drop 1) := by
  have hu : Try.prog.underlying 23 = some (.slice 3) := by kernel_rfl
  have hd := hI.drop (k := 1) h1 hnc
  by_cases hc : c = 1
  · refine ⟨some a, fun w => ?_, by rwa [if_pos hc] at hd⟩
    go_simp
    intro h; omega
  · refine ⟨some (a.add 1), fun w => ?_, by rwa [if_neg hc] at hd⟩
    go_simp
    intro h; omega

theorem fdRight_any (how : Int) (w : World) :
    Calls Try.prog 22 #[.int .i64 how] w fun e w' => e = .returned (.bool (howOk how)) ∧ w = w' := by
  by_cases h1 : 1 ≤ how
  · have d1 : decide (1 ≤ how) = true := by simpa using h1
    go_enter Try.func22, Try.ntmps22
    go_wp2
    go_ret
    exact ⟨ret_bool (by simp [howOk, h1]), rfl⟩
  · have d1 : decide (1 ≤ how) = false := by simpa using h1
    have HX := Lib.hid (show howOk how = false by simp only [howOk, d1, Bool.false_and])
    go_enter Try.func22, Try.ntmps22
    go_wp2
    go_ret
    exact ⟨ret_bool HX.out.symm, rfl⟩
set_option maxRecDepth 100000 in
set_option maxHeartbeats 1600000 in
theorem fdNone_any (how : Int) (w : World) :
    Calls Try.prog 25 #[.int .i64 how] w fun e w' => e = .returned (.int .i64 (noneF how)) ∧ w = w' := by
  by_cases h2 : how = 2
  · subst h2
    go_enter Try.func25, Try.ntmps25
    go_wp2
    go_ret
    exact ⟨by simp [noneF], rfl⟩
  by_cases h3 : how = 3
  · subst h3
    clear h2
    go_enter Try.func25, Try.ntmps25
    go_wp2
    go_ret
    exact ⟨by simp [noneF], rfl⟩
  by_cases h4 : how = 4
  · subst h4
    clear h2 h3
    go_enter Try.func25, Try.ntmps25
    go_wp2
    go_ret
    exact ⟨by simp [noneF], rfl⟩
  have b2 : (how == 2) = false := by simpa using h2
  have b3 : (how == 3) = false := by simpa using h3
  have b4 : (how == 4) = false := by simpa using h4
  have HX := Lib.hid (show noneF how = 0 by simp [noneF, h2, h3, h4])
  clear h2 h3 h4
  go_enter Try.func25, Try.ntmps25
  go_wp2
  go_ret
  exact ⟨by rw [HX.out]; rfl, rfl⟩
set_option maxRecDepth 100000 in
set_option maxHeartbeats 1600000 in
theorem fdStep_any (how a b : Int) (w : World) :
    Calls Try.prog 29 #[.int .i64 how, .int .i64 a, .int .i64 b] w fun e w' => e = .returned (.int .i64 (putF how a b)) ∧ w = w' := by
  by_cases h1 : how = 1
  · subst h1
    have CP := pStep_any 6 a b w
    rw [show stepF 6 a b = putF 1 a b by simp [stepF, putF]] at CP
    go_enter Try.func29, Try.ntmps29
    go_wp2_with fail
    refine CP.mono ?_; rintro e1 w1 ⟨rfl, rfl⟩
    clear CP
    go_wp2
    go_ret
    exact ⟨rfl, rfl⟩
  by_cases h2 : how = 2
  · subst h2
    clear h1
    have CP := pStep_any 8 a b w
    rw [show stepF 8 a b = putF 2 a b by simp [stepF, putF]] at CP
    go_enter Try.func29, Try.ntmps29
    go_wp2_with fail
    refine CP.mono ?_; rintro e1 w1 ⟨rfl, rfl⟩
    clear CP
    go_wp2
    go_ret
    exact ⟨rfl, rfl⟩
  by_cases h3 : how = 3
  · subst h3
    clear h1 h2
    have CP := pStep_any 9 a b w
    rw [show stepF 9 a b = putF 3 a b by simp [stepF, putF]] at CP
    go_enter Try.func29, Try.ntmps29
    go_wp2_with fail
    refine CP.mono ?_; rintro e1 w1 ⟨rfl, rfl⟩
    clear CP
    go_wp2
    go_ret
    exact ⟨rfl, rfl⟩
  by_cases h4 : how = 4
  · subst h4
    clear h1 h2 h3
    have CP := pStep_any 10 a b w
    rw [show stepF 10 a b = putF 4 a b by simp [stepF, putF]] at CP
    go_enter Try.func29, Try.ntmps29
    go_wp2_with fail
    refine CP.mono ?_; rintro e1 w1 ⟨rfl, rfl⟩
    clear CP
    go_wp2
    go_ret
    exact ⟨rfl, rfl⟩
  have b1 : (how == 1) = false := by simpa using h1
  have b2 : (how == 2) = false := by simpa using h2
  have b3 : (how == 3) = false := by simpa using h3
  have b4 : (how == 4) = false := by simpa using h4
  have HX := Lib.hid (show putF how a b = 0 by simp [putF, h1, h2, h3, h4])
  clear h1 h2 h3 h4
  go_enter Try.func29, Try.ntmps29
  go_wp2
  go_ret
  exact ⟨by rw [HX.out]; rfl, rfl⟩
end Go.Proofs.Ytiigbkjkmfjhcaa
