/- The tape of numbers: what it is in memory, and its calls Within, Next. -/
import Derived.Test.YtiigbkjkmfjhcaaRows
import Derived.Test.YtiigbkjkmfjhcaaShape
namespace Go.Proofs.Ytiigbkjkmfjhcaa
open Go.RowKit

theorem tmod_neg {a : Int} (_ha : a < 0) (h : a.tmod 1073741825 < 0) : a.tmod 1073741825 + 1073741824 + 1 = a % 1073741825 := by
  have e := Int.tmod_eq_emod (a := a) (b := 1073741825)
  by_cases hd : 0 ≤ a ∨ (1073741825 : Int) ∣ a
  · rw [if_pos hd] at e; omega
  · rw [if_neg hd] at e; simp at e; omega
theorem tmod_nonneg {a : Int} (_ha : a < 0) (h : ¬ a.tmod 1073741825 < 0) : a.tmod 1073741825 = a % 1073741825 := by
  have e := Int.tmod_eq_emod (a := a) (b := 1073741825)
  by_cases hd : 0 ≤ a ∨ (1073741825 : Int) ∣ a
  · rw [if_pos hd] at e; omega
  · rw [if_neg hd] at e; simp at e; omega

set_option maxRecDepth 100000 in
set_option maxHeartbeats 400000 in
theorem within_any (a : Int) (w : World) (hf : Fits a) :
    Calls Try.prog 21 #[.int .i64 a, .int .i64 0, .int .i64 1073741824] w fun e w' => e = .returned (.int .i64 (a % 1073741825)) ∧ w = w' := by
  obtain ⟨h1, h2⟩ := hf
  by_cases h0 : 0 ≤ a
  · by_cases hb : a ≤ 1073741824
    · go_enter Try.func21, Try.ntmps21
      go_wp2
      go_ret
      exact ⟨ret_int (by omega), rfl⟩
    · go_enter Try.func21, Try.ntmps21
      go_wp2
      go_ret
      exact ⟨ret_int (by omega), rfl⟩
  · have hlt : a < 0 := by omega
    have hm1 : -1073741825 < a.tmod 1073741825 := by
      have e := Int.tmod_eq_emod (a := a) (b := 1073741825)
      by_cases hd : 0 ≤ a ∨ (1073741825 : Int) ∣ a
      · rw [if_pos hd] at e; omega
      · rw [if_neg hd] at e; simp at e; omega
    have hm2 : a.tmod 1073741825 ≤ 0 := by
      have e := Int.tmod_eq_emod (a := a) (b := 1073741825)
      by_cases hd : 0 ≤ a ∨ (1073741825 : Int) ∣ a
      · rw [if_pos hd] at e; omega
      · rw [if_neg hd] at e; simp at e; omega
    by_cases ht : a.tmod 1073741825 < 0
    · have HX := Lib.hid (tmod_neg hlt ht)
      go_enter Try.func21, Try.ntmps21
      go_wp2
      go_ret
      exact ⟨ret_int (by rw [← HX.out]), rfl⟩
    · have HX := Lib.hid (tmod_nonneg hlt ht)
      go_enter Try.func21, Try.ntmps21
      go_wp2
      go_ret
      exact ⟨ret_int (by rw [← HX.out]), rfl⟩

/-- Block g is a tape: a list of numbers that lies elsewhere, and how many were read. -/
def Tape (w : World) (g : Nat) : Prop :=
  ∃ (A : Option Addr) (n c at_ : Nat) (xs : List Int), w.heap[g]? = some (.cells #[.slice A n c, .int .i64 at_] 33 (0, 0)) ∧ at_ ≤ n ∧ Ints w A n xs ∧ ∀ ad, A = some ad → 0 < n → ad.block < g

theorem Tape.lt {w : World} {g : Nat} (h : Tape w g) : g < w.heap.size := by
  obtain ⟨A, n, c, at_, xs, hg, _⟩ := h
  rcases Nat.lt_or_ge g w.heap.size with hlt | hge
  · exact hlt
  · rw [Array.getElem?_eq_none hge] at hg; cases hg
theorem Tape.below {w w' : World} {g : Nat} (h : Tape w g) (hb : Below w.heap.size w w') : Tape w' g := by
  have hl := h.lt
  obtain ⟨A, n, c, at_, xs, hg, ha, hI, hne⟩ := h
  exact ⟨A, n, c, at_, xs, (hb.block g hl).trans hg, ha, hI.below hb, hne⟩
/-- Nothing up to the tape's own block has changed. -/
theorem Tape.over {w w' : World} {g : Nat} (h : Tape w g) (hb : Below (g + 1) w w') : Tape w' g := by
  obtain ⟨A, n, c, at_, xs, hg, ha, hI, hne⟩ := h
  refine ⟨A, n, c, at_, xs, (hb.block g (by omega)).trans hg, ha, ⟨hI.1, hI.2.1, hI.2.2.1, fun hn => ?_⟩, hne⟩
  obtain ⟨ad, e, hl, hc⟩ := hI.2.2.2 hn
  have := hne ad e hn
  exact ⟨ad, e, by have := hb.size; omega, fun j u hu => (hb.cell (by rw [block_of_add]; omega)).trans (hc j u hu)⟩
theorem Tape.drewN {w : World} {g : Nat} (h : Tape w g) (k : Nat) : Tape (w.drewN k) g := h

/-- A call on a tape leaves the tape a tape, and changes nothing else that was there. -/
def Read (w : World) (g : Nat) (w' : World) : Prop := Tape w' g ∧ w.grownBy w' (some g)

set_option maxRecDepth 100000 in
set_option maxHeartbeats 800000 in
theorem next_any {w : World} {g : Nat} (m : Int) (h : Tape w g) (hm : Fits m) :
    Calls Try.prog 14 #[.pointer (some ⟨g, 0, none⟩), .int .i64 m] w fun e w' => (∃ r : Int, e = .returned (.int .i64 r) ∧ 0 ≤ r ∧ (r = 0 ∨ r < m)) ∧ Read w g w' := by
  have hT := h
  obtain ⟨A, n, c, at_, xs, hg, ha, hI, hne⟩ := h
  obtain ⟨hm1, hm2⟩ := hm
  have hle := hI.le
  have hc0 : w.cell? ⟨g, 0, none⟩ = some (.slice A n c) := by rw [cell_of_row w g 0 _ _ _ hg]; rfl
  have hc1 : w.cell? ⟨g, 1, none⟩ = some (.int .i64 at_) := by rw [cell_of_row w g 1 _ _ _ hg]; rfl
  have hQ := Lib.hid hT; clear hT
  have hfz : w.frozen? ⟨g, 1, none⟩ = false := frozen_of_row w g 1 _ _ hg
  have HG := Lib.hid hg; clear hg
  by_cases h1 : at_ = n
  · subst h1
    have hd1 : decide (at_ ≤ at_) = true := by simp
    have hd2 : decide ((at_ : Int) ≤ (at_ : Int)) = true := by simp
    go_enter Try.func14, Try.ntmps14
    go_wp2
    go_quiet (fail)
    go_wp2
    go_ret
    exact ⟨⟨0, rfl, by omega, .inl rfl⟩, hQ.out.drewN _, grown_drewN _ _ _⟩
  · have h2 : at_ < n := by omega
    obtain ⟨ad, x, rfl, hb, hx, hcx, hf⟩ := hI.at_ h2
    have hne' : ad.block ≠ g := by have := hne ad rfl (by omega); omega
    have hd1 : decide (n ≤ at_) = false := by simp; omega
    have hd2 : decide ((n : Int) ≤ (at_ : Int)) = false := by simp; omega
    by_cases hm0 : m < 1
    · have hd3 : decide (m < 1) = true := by simp; omega
      go_enter Try.func14, Try.ntmps14
      go_wp2
      go_quiet (fail)
      go_wp2
      go_ret
      exact ⟨⟨0, rfl, by omega, .inl rfl⟩, hQ.out.drewN _, grown_drewN _ _ _⟩
    · have hd3 : decide (m < 1) = false := by simp; omega
      go_enter Try.func14, Try.ntmps14
      go_wp2
      go_quiet (fail)
      go_wp2
      have hG2 : w.grownBy ((w.drewN nq).setCell ⟨g, 1, none⟩ (.int .i64 (at_ + 1))) (some g) := grown_trans (grown_drewN w nq _) (grown_setCell _ g 1 _)
      have hI2 := hI.grown hG2 (fun ad' e _ => by injection e with e; subst e; intro h'; injection h' with h'; exact hne' h')
      have hg2 : ((w.drewN nq).setCell ⟨g, 1, none⟩ (.int .i64 (at_ + 1))).heap[g]? = some (.cells #[.slice (some ad) n c, .int .i64 ((at_ + 1 : Nat) : Int)] 33 (0, 0)) := heap_setCell_same (w.drewN nq) g 1 _ _ (.int .i64 (at_ + 1)) HG.out
      have hT2 := Lib.hid (p := Tape ((w.drewN nq).setCell ⟨g, 1, none⟩ (.int .i64 (at_ + 1))) g) ⟨some ad, n, c, at_ + 1, xs, hg2, by omega, hI2, hne⟩
      have hcx := hI2.get hx
      clear hQ hI
      generalize hw2 : (w.drewN nq).setCell ⟨g, 1, none⟩ (.int .i64 (at_ + 1)) = w2 at *
      clear hw2
      have hc0 : w2.cell? ⟨g, 0, none⟩ = some (.slice (some ad) n c) := by rw [cell_of_row w2 g 0 _ _ _ hg2]; rfl
      have hc1 : w2.cell? ⟨g, 1, none⟩ = some (.int .i64 ((at_ : Int) + 1)) := by rw [cell_of_row w2 g 1 _ _ _ hg2]; rfl
      have HX := Lib.hid hx
      have HH := Lib.hid hg2
      have HGG := Lib.hid hG2
      clear hx hg2 hd1 hd2 hd3 hG2 HG hfz
      have hr0 : 0 ≤ x % 1073741825 := Int.emod_nonneg _ (by omega)
      have hr1 : x % 1073741825 < 1073741825 := Int.emod_lt_of_pos _ (by omega)
      have hs0 : 0 ≤ x % 1073741825 % m := Int.emod_nonneg _ (by omega)
      have hs1 : x % 1073741825 % m < m := Int.emod_lt_of_pos _ (by omega)
      go_quiet ((go_at_call 21; exact quietS (within_any _ _ hf)))
      go_wp2
      go_ret
      exact ⟨⟨_, rfl, by omega, .inr (by omega)⟩, hT2.out.drewN _, grown_trans HGG.out (grown_drewN _ _ _)⟩

/-- What Shape draws from. -/
def shapeDims : List Int := [1, 2, 3, 4, 5, 0, 7, 2]
theorem dims_at (r : Nat) (h : r < 8) : ∃ x : Int, shapeDims[r]? = some x ∧ 0 ≤ x ∧ x ≤ 7 := by
  have : r = 0 ∨ r = 1 ∨ r = 2 ∨ r = 3 ∨ r = 4 ∨ r = 5 ∨ r = 6 ∨ r = 7 := by omega
  rcases this with rfl | rfl | rfl | rfl | rfl | rfl | rfl | rfl <;> exact ⟨_, rfl, by decide, by decide⟩

set_option maxRecDepth 100000 in
set_option maxHeartbeats 800000 in
theorem tapeShape_any {w : World} {g : Nat} (h : Tape w g) :
    Calls Try.prog 13 #[.pointer (some ⟨g, 0, none⟩)] w fun e w' =>
      (∃ v n xs, e = .returned v ∧ OwnS w' w.heap.size 3 v n xs ∧ n ≤ 3 ∧ ∀ x ∈ xs, 0 ≤ x ∧ x ≤ 7) ∧ Read w g w' := by
  have hgl := h.lt
  go_enter Try.func13, Try.ntmps13
  go_wp2_with fail
  refine (next_any 4 h ⟨by omega, by omega⟩).mono ?_; rintro e w1 ⟨⟨r, rfl, hr0, hr1⟩, hT, hG⟩
  have HG := Lib.hid hG; clear hG h
  go_wp2_with fail
  go_loopw [3, 4] (fun v nn wr => ∃ (j : Nat) (n : Nat) (xs : List Int), nn = .int .i64 j ∧ OwnS wr w.heap.size 3 v n xs ∧ n + j ≤ 3 ∧ (∀ x ∈ xs, 0 ≤ x ∧ x ≤ 7) ∧ Read w g wr) (fun _ nn _ => (intOf nn).toNat)
  case atStart =>
    obtain ⟨j, rfl⟩ := Int.eq_ofNat_of_zero_le hr0
    exact ⟨j, 0, [], rfl, OwnS.nil_ _ _ _, by omega, by simp, hT, HG.out⟩
  case round =>
    clear hT HG
    obtain ⟨j, n, xs, rfl, hO, hnj, hx, hT, hG⟩ := hrel
    have HX := Lib.hid hx; clear hx
    have hsz := hG.size
    by_cases hj : 0 < j
    · have HG := Lib.hid hG; clear hG
      go_wp2_with fail
      refine (next_any 8 (hT.below ((Below.refl _ _).alloc (Nat.le_refl _) _)) ⟨by omega, by omega⟩).mono ?_; rintro e w2 ⟨⟨r, rfl, hr0, hr1⟩, hT2, hG2⟩
      obtain ⟨rn, rfl⟩ := Int.eq_ofNat_of_zero_le hr0
      obtain ⟨x, hxr, hx0, hx7⟩ := dims_at rn (by omega)
      have hlit : Ints (wr.alloc (.cells #[.int .i64 1, .int .i64 2, .int .i64 3, .int .i64 4, .int .i64 5, .int .i64 0, .int .i64 7, .int .i64 2] 3)) (some ⟨wr.heap.size, 0, none⟩) 8 shapeDims := ints_lit _ _ _ _ _ _ rfl rfl (by decide)
      have hgr := hT.lt
      have hlit2 := hlit.grown hG2 (fun ad e _ => by injection e with e; subst e; intro h'; injection h' with h'; simp at h'; omega)
      have hc := hlit2.get hxr
      rw [Addr.add_lit, Nat.zero_add] at hc
      have hO2 := (hO.alloc (.cells #[.int .i64 1, .int .i64 2, .int .i64 3, .int .i64 4, .int .i64 5, .int .i64 0, .int .i64 7, .int .i64 2] 3)).grown hG2 hgl
      have hGa : wr.grownBy w2 (some g) := grown_trans (World.grownBy_alloc wr _ _) hG2
      have hGb := Lib.hid (grown_trans HG.out hGa)
      have hrn : rn < 8 := by omega
      have hs2 := hGa.size
      have HR := Lib.hid hxr
      clear hr0 hr1 hxr hlit hlit2 hG2 hGa hO hT HG
      have hO3 := Lib.hid hO2; clear hO2
      go_wp2_with (at_builtin; refine wpList_append_int rfl _ _ 23 3 rfl Try.underlying23 Try.infoInt w.heap.size _ n xs rfl hO3.out ?c1 x ?c2 _ rfl ?c3 ?_)
      case c1 => omega
      case c2 => exact ⟨by omega, by omega⟩
      case c3 => omega
      intro v' w3 hO4 hB4 hg4
      have hT4 := hT2.over (hB4.mono (by omega))
      have hG4 := grown_over hGb.out hB4
      have HA := Lib.hid (p := ∀ y ∈ xs ++ [x], 0 ≤ y ∧ y ≤ 7) (by
        intro y hy
        rcases List.mem_append.1 hy with hy | hy
        · exact HX.out y hy
        · simp at hy; subst hy; exact ⟨hx0, hx7⟩)
      clear hg4 hB4
      go_wp2
      go_roundw
      case rel => exact ⟨j - 1, n + 1, _, by go_num, hO4, by omega, HA.out, hT4, hG4⟩
      case measure => simp [intOf]; omega
    · have hj0 : j = 0 := by omega
      subst hj0
      go_wp2
      go_ret
      exact ⟨⟨_, n, xs, rfl, hO, by omega, HX.out⟩, hT, hG⟩

theorem fits_bits (op : BinOp) (x y : Int) : Fits (bits op .i64 x y) := bounds_i64 (wf_bits op .i64 x y)

/-- A new tape over a list that came in. -/
theorem tape_new {w : World} {A : Option Addr} {n c : Nat} {xs : List Int} (h : Ints w A n xs) :
    Tape (w.alloc (.cells #[.slice A n c, .int .i64 0] 33)) w.heap.size := by
  refine ⟨A, n, c, 0, xs, heap_alloc_new w _, by omega, h.alloc _, fun ad he hn => ?_⟩
  obtain ⟨ad', he', hb, _⟩ := h.2.2.2 hn
  rw [he] at he'
  injection he' with he'
  subst he'
  exact hb

theorem Ints.read {w w' : World} {g : Nat} {A : Option Addr} {n : Nat} {xs : List Int} (h : Ints w A n xs) (hr : w.grownBy w' (some g)) (hA : ∀ ad, A = some ad → ad.block ≠ g) : Ints w' A n xs :=
  h.grown hr fun ad e _ he => hA ad e (by injection he)

end Go.Proofs.Ytiigbkjkmfjhcaa
