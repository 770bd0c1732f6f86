/- Contracts of the fourth reference, chapter 4: Step, all, One, Two, Pick. -/
import Derived.Test.YtihjobpdphljiaaPt
import Derived.Test.YtihjobpdphljiaaKitReg
namespace Go.Proofs.Ytihjobpdphljiaa
open Go.RowKit

theorem ref4Bit_any (b : Bool) (w : World) :
    Calls Try.prog 37 #[.bool b] w fun e w' => e = .returned (.int .i64 (if b = true then 1 else 0)) ∧ w = w' := by
  cases b <;>
  · go_enter Try.func37, Try.ntmps37
    go_wp2
    go_ret
    exact ⟨rfl, rfl⟩
set_option maxHeartbeats 1600000 in
theorem ref4Step_any (op a b : Int) (w : World) :
    Calls Try.prog 28 #[.int .i64 op, .int .i64 a, .int .i64 b] w fun e w' => e = .returned (.int .i64 (stepF op a b)) ∧ w = w' := by
  by_cases h4 : op = 4
  · subst h4
    · go_enter Try.func28, Try.ntmps28
      go_wp2
      go_ret
      exact ⟨by simp [stepF], rfl⟩
  by_cases h5 : op = 5
  · subst h5
    clear h4
    by_cases hc : a = 0
    · go_enter Try.func28, Try.ntmps28
      go_wp2
      go_ret
      exact ⟨by simp [stepF, hc], rfl⟩
    · go_enter Try.func28, Try.ntmps28
      go_wp2
      go_ret
      exact ⟨by simp [stepF, hc], rfl⟩
  by_cases h6 : op = 6
  · subst h6
    clear h4 h5
    · go_enter Try.func28, Try.ntmps28
      go_wp2
      go_ret
      exact ⟨by simp [stepF], rfl⟩
  by_cases h7 : op = 7
  · subst h7
    clear h4 h5 h6
    · go_enter Try.func28, Try.ntmps28
      go_wp2
      go_ret
      exact ⟨by simp [stepF], rfl⟩
  by_cases h8 : op = 8
  · subst h8
    clear h4 h5 h6 h7
    · go_enter Try.func28, Try.ntmps28
      go_wp2
      go_ret
      exact ⟨by simp [stepF], rfl⟩
  by_cases h9 : op = 9
  · subst h9
    clear h4 h5 h6 h7 h8
    by_cases hc : b < a
    · go_enter Try.func28, Try.ntmps28
      go_wp2
      go_ret
      exact ⟨by simp [stepF, hc], rfl⟩
    · go_enter Try.func28, Try.ntmps28
      go_wp2
      go_ret
      exact ⟨by simp [stepF]; omega, rfl⟩
  by_cases h10 : op = 10
  · subst h10
    clear h4 h5 h6 h7 h8 h9
    by_cases hc : b > a
    · go_enter Try.func28, Try.ntmps28
      go_wp2
      go_ret
      exact ⟨by simp [stepF, hc], rfl⟩
    · go_enter Try.func28, Try.ntmps28
      go_wp2
      go_ret
      exact ⟨by simp [stepF]; omega, rfl⟩
  by_cases h11 : op = 11
  · subst h11
    clear h4 h5 h6 h7 h8 h9 h10
    by_cases hc : a < b
    · go_enter Try.func28, Try.ntmps28
      go_wp2
      go_ret
      exact ⟨by simp [stepF, hc], rfl⟩
    · go_enter Try.func28, Try.ntmps28
      go_wp2
      go_ret
      exact ⟨by simp [stepF, hc], rfl⟩
  have HX := Lib.hid (show stepF op a b = 0 by simp [stepF, h4, h5, h6, h7, h8, h9, h10, h11])
  go_enter Try.func28, Try.ntmps28
  go_wp2
  go_ret
  exact ⟨by rw [HX.out]; rfl, rfl⟩

theorem cell_keep {w w' : World} {p : Addr} {v : Value} (hb : Below w.heap.size w w') (h : w.cell? p = some v) : w'.cell? p = some v := (hb.cell (World.block_lt_of_cell? w p h)).trans h

/-- A list of tensors in memory, two cells each. -/
def Tens (w : World) (A : Option Addr) (n : Nat) (l : List (List Int × List Int)) : Prop :=
  l.length = n ∧ n ≤ 1000000 ∧ ∀ j x, l[j]? = some x → ∃ a S sn sc D dn dc, A = some a ∧ a.block < w.heap.size ∧ w.cell? (a.add (j * 2)) = some (.slice S sn sc) ∧ w.cell? ⟨(a.add (j * 2)).block, (a.add (j * 2)).off + 1, none⟩ = some (.slice D dn dc) ∧ Ten w (.agg #[.slice S sn sc, .slice D dn dc]) x.1 x.2
theorem Tens.below {w w' : World} {A : Option Addr} {n : Nat} {l : List (List Int × List Int)} (h : Tens w A n l) (hb : Below w.heap.size w w') : Tens w' A n l :=
  ⟨h.1, h.2.1, fun j x hx => by
    obtain ⟨a, S, sn, sc, D, dn, dc, e, hbl, h0, h1, ht⟩ := h.2.2 j x hx
    exact ⟨a, S, sn, sc, D, dn, dc, e, by have := hb.size; omega, (hb.cell (by rw [block_of_add]; exact hbl)).trans h0, (hb.cell (by simp only [block_of_add]; exact hbl)).trans h1, ht.below hb⟩⟩

/-- The refusal of a list of tensors: each is right and of the first one's shape. -/
def allR (x0 : List Int × List Int) (l : List (List Int × List Int)) : Int := if l.all (fun y => tenRight y.1 y.2 && y.1 == x0.1) then 0 else 13
theorem allR_bad {x0 y : List Int × List Int} {l : List (List Int × List Int)} {j : Nat} (h : l[j]? = some y) (hb : (tenRight y.1 y.2 && y.1 == x0.1) = false) : allR x0 l = 13 := by
  rw [allR, if_neg]
  rw [List.all_eq_true]
  intro ha
  have := ha y (List.mem_of_getElem? h)
  rw [hb] at this; cases this
theorem allR_good {x0 : List Int × List Int} {l : List (List Int × List Int)} (h : ∀ k y, k < l.length → l[k]? = some y → (tenRight y.1 y.2 && y.1 == x0.1) = true) : allR x0 l = 0 := by
  rw [allR, if_pos]
  rw [List.all_eq_true]
  intro y hy
  obtain ⟨k, hk, e⟩ := List.getElem_of_mem hy
  exact h k y hk (by rw [List.getElem?_eq_getElem hk, e])

set_option maxHeartbeats 1600000 in
theorem ref4All_any {w : World} {A : Option Addr} {n c : Nat} {x0 : List Int × List Int} {l : List (List Int × List Int)} (h : Tens w A n (x0 :: l)) :
    Calls Try.prog 27 #[.slice A n c] w fun e w' => e = .returned (.int .i64 (allR x0 (x0 :: l))) ∧ Below w.heap.size w w' := by
  have hl := h.1
  have hn := h.2.1
  have hb := Below.refl w.heap.size w
  go_enter Try.func27, Try.ntmps27
  go_wp2_with fail
  go_loopw [3] (fun kv wr => ∃ j : Nat, kv = .int .i64 j ∧ j ≤ n ∧ (∀ k y, k < j → (x0 :: l)[k]? = some y → (tenRight y.1 y.2 && y.1 == x0.1) = true) ∧ Below w.heap.size w wr) (fun kv _ => n - (intOf kv).toNat)
  case atStart => exact ⟨0, rfl, by omega, by omega, hb⟩
  case round =>
    clear hb
    obtain ⟨j, rfl, hj, hA, hB⟩ := hrel
    have HA := Lib.hid hA
    have HB := Lib.hid hB
    have HT := Lib.hid (h.below hB)
    clear hA hB
    by_cases hlt : j < n
    · obtain ⟨y, hy⟩ : ∃ y, (x0 :: l)[j]? = some y := ⟨_, List.getElem?_eq_getElem (by omega)⟩
      obtain ⟨a, S, sn, sc, D, dn, dc, rfl, hbl, h0, h1, ht⟩ := HT.out.2.2 j y hy
      obtain ⟨a', S0, sn0, sc0, D0, dn0, dc0, ea, _, g0, g1, gt⟩ := HT.out.2.2 0 x0 rfl
      injection ea with ea
      subst ea
      have hn0 : 0 < n := by omega
      have ez : a.add (0 * 2) = a := by cases a; rfl
      rw [ez] at g0
      clear ez
      obtain ⟨w1, rfl⟩ : ∃ w1 : World, w1 = wr := ⟨_, rfl⟩
      have HY := Lib.hid hy
      have HT1 := Lib.hid ht
      have HT2 := Lib.hid gt
      have C1 := refTensor_any (w := w1.drew) ht
      clear hy ht gt
      go_upto_region 4 with fail
      cases hr : tenRight y.1 y.2 with
      | false =>
        have HR := Lib.hid (show (tenRight y.1 y.2 && y.1 == x0.1) = false by rw [hr]; rfl)
        rw [hr] at C1
        clear hr
        refine wp_region_held_drew (S := (fun w' => w'.cell? (a.add (j * 2)) = some (.slice S sn sc) ∧ w'.cell? ⟨(a.add (j * 2)).block, (a.add (j * 2)).off + 1, none⟩ = some (.slice D dn dc) ∧ w'.cell? a = some (.slice S0 sn0 sc0))) (by kernel_rfl) ?_ (fun hHeld => ?_)
        · exact ⟨h0, h1, g0⟩
        first | (refine takeU (i := 0) (oi := { dst := some 10, op := Op.move (Operand.tmp 0), type := 60, pos := "ref.go:41", after := #[], guard := none }) rfl (by kernel_rfl) (by kernel_rfl) (by kernel_rfl) (fun _ _ _ h => h) ?_ hHeld ?_; (focus rfl)) | (refine takeW (i := 0) (oi := { dst := some 10, op := Op.move (Operand.tmp 0), type := 60, pos := "ref.go:41", after := #[], guard := none }) ?_ rfl (by kernel_rfl) (by kernel_rfl) (by kernel_rfl) (fun _ _ _ h => h) ?_ ?_ hHeld ?_; rotate_left; (focus rfl); (focus (intro wq hSq; obtain ⟨sq0, sq1, sq2⟩ := hSq; (first | (go_simp; done) | (go_simp; with_reducible rfl)))))
        try simp only [Act.put, List.setIfInBounds_toArray, List.set_cons_zero, List.set_cons_succ]
        first | (refine takeU (i := 1) (oi := { dst := some 11, op := Op.move (Operand.tmp 3), type := 3, pos := "ref.go:41", after := #[], guard := none }) rfl (by kernel_rfl) (by kernel_rfl) (by kernel_rfl) (fun _ _ _ h => h) ?_ hHeld ?_; (focus rfl)) | (refine takeW (i := 1) (oi := { dst := some 11, op := Op.move (Operand.tmp 3), type := 3, pos := "ref.go:41", after := #[], guard := none }) ?_ rfl (by kernel_rfl) (by kernel_rfl) (by kernel_rfl) (fun _ _ _ h => h) ?_ ?_ hHeld ?_; rotate_left; (focus rfl); (focus (intro wq hSq; obtain ⟨sq0, sq1, sq2⟩ := hSq; (first | (go_simp; done) | (go_simp; with_reducible rfl)))))
        try simp only [Act.put, List.setIfInBounds_toArray, List.set_cons_zero, List.set_cons_succ]
        first | (refine takeU (i := 2) (oi := { dst := some 12, op := Op.indexAddr 60 (Operand.tmp 10) (Operand.tmp 11), type := 0, pos := "ref.go:41", after := #[{ on := 0, ground := Ground.data }, { on := 1, ground := Ground.data }], guard := none }) rfl (by kernel_rfl) (by kernel_rfl) (by kernel_rfl) (fun _ _ _ h => h) ?_ hHeld ?_; (focus rfl)) | (refine takeW (i := 2) (oi := { dst := some 12, op := Op.indexAddr 60 (Operand.tmp 10) (Operand.tmp 11), type := 0, pos := "ref.go:41", after := #[{ on := 0, ground := Ground.data }, { on := 1, ground := Ground.data }], guard := none }) ?_ rfl (by kernel_rfl) (by kernel_rfl) (by kernel_rfl) (fun _ _ _ h => h) ?_ ?_ hHeld ?_; rotate_left; (focus rfl); (focus (intro wq hSq; obtain ⟨sq0, sq1, sq2⟩ := hSq; (first | (go_simp; done) | (go_simp; with_reducible rfl)))))
        try simp only [Act.put, List.setIfInBounds_toArray, List.set_cons_zero, List.set_cons_succ]
        first | (refine takeU (i := 3) (oi := { dst := some 13, op := Op.load 26 (Operand.tmp 12), type := 26, pos := "ref.go:41", after := #[{ on := 2, ground := Ground.data }], guard := none }) rfl (by kernel_rfl) (by kernel_rfl) (by kernel_rfl) (fun _ _ _ h => h) ?_ hHeld ?_; (focus rfl)) | (refine takeW (i := 3) (oi := { dst := some 13, op := Op.load 26 (Operand.tmp 12), type := 26, pos := "ref.go:41", after := #[{ on := 2, ground := Ground.data }], guard := none }) ?_ rfl (by kernel_rfl) (by kernel_rfl) (by kernel_rfl) (fun _ _ _ h => h) ?_ ?_ hHeld ?_; rotate_left; (focus rfl); (focus (intro wq hSq; obtain ⟨sq0, sq1, sq2⟩ := hSq; (first | (go_simp; done) | (go_simp; with_reducible rfl)))))
        try simp only [Act.put, List.setIfInBounds_toArray, List.set_cons_zero, List.set_cons_succ]
        refine wpAnyH_ready (rs := [4]) (by kernel_rfl) (by simp) ?_
        refine AllReadyH.cons (o := { dst := some 14, op := Op.call { callee := Callee.value (Operand.func 15), args := #[Operand.tmp 13], argTypes := #[26] }, type := 4, pos := "ref.go:41", after := #[{ on := 3, ground := Ground.data }], guard := none }) rfl (fun K hK => ?_) AllReadyH.nil
        first | (refine effU ?_ ?_; (focus rfl)) | (go_simp; (go_at_call 15; refine C1.mono ?_; rintro e w2 ⟨rfl, hb2⟩; have a0 := cell_keep (w := w1.drew) hb2 h0; have a1 := cell_keep (w := w1.drew) hb2 h1; have a2 := cell_keep (w := w1.drew) hb2 g0; have HB2 := Lib.hid (then_drew HB.out 1 |>.trans (hb2.mono HB.out.size))); go_wp2_with fail)
        refine hK.out _ _ ?_ (fun hHeld2 => ?_)
        · first | assumption | (exact ⟨a0, a1, a2⟩)
        clear hK K hHeld
        have hHeld := hHeld2; clear hHeld2
        try simp only [Act.put, List.setIfInBounds_toArray, List.set_cons_zero, List.set_cons_succ]
        first | (refine takeU (i := 5) (oi := { dst := some 15, op := Op.unOp UnOp.not 4 (Operand.tmp 14), type := 4, pos := "ref.go:41", after := #[{ on := 4, ground := Ground.data }], guard := none }) rfl (by kernel_rfl) (by kernel_rfl) (by kernel_rfl) (fun _ _ _ h => h) ?_ hHeld ?_; (focus rfl)) | (refine takeW (i := 5) (oi := { dst := some 15, op := Op.unOp UnOp.not 4 (Operand.tmp 14), type := 4, pos := "ref.go:41", after := #[{ on := 4, ground := Ground.data }], guard := none }) ?_ rfl (by kernel_rfl) (by kernel_rfl) (by kernel_rfl) (fun _ _ _ h => h) ?_ ?_ hHeld ?_; rotate_left; (focus rfl); (focus (intro wq hSq; obtain ⟨sq0, sq1, sq2⟩ := hSq; (first | (go_simp; done) | (go_simp; with_reducible rfl)))))
        try simp only [Act.put, List.setIfInBounds_toArray, List.set_cons_zero, List.set_cons_succ]
        first | (refine takeU (i := 6) (oi := { dst := some 16, op := Op.move (Operand.tmp 15), type := 4, pos := "ref.go:41", after := #[{ on := 5, ground := Ground.data }, { on := 4, ground := Ground.chain }], guard := none }) rfl (by kernel_rfl) (by kernel_rfl) (by kernel_rfl) (fun _ _ _ h => h) ?_ hHeld ?_; (focus rfl)) | (refine takeW (i := 6) (oi := { dst := some 16, op := Op.move (Operand.tmp 15), type := 4, pos := "ref.go:41", after := #[{ on := 5, ground := Ground.data }, { on := 4, ground := Ground.chain }], guard := none }) ?_ rfl (by kernel_rfl) (by kernel_rfl) (by kernel_rfl) (fun _ _ _ h => h) ?_ ?_ hHeld ?_; rotate_left; (focus rfl); (focus (intro wq hSq; obtain ⟨sq0, sq1, sq2⟩ := hSq; (first | (go_simp; done) | (go_simp; with_reducible rfl)))))
        try simp only [Act.put, List.setIfInBounds_toArray, List.set_cons_zero, List.set_cons_succ]
        first | (refine takeU (i := 7) (oi := { dst := some 17, op := Op.move (Operand.tmp 0), type := 60, pos := "ref.go:41", after := #[{ on := 6, ground := Ground.guard }], guard := some (6, false) }) rfl (by kernel_rfl) (by kernel_rfl) (by kernel_rfl) (fun _ _ _ h => h) ?_ hHeld ?_; (focus rfl)) | (refine takeW (i := 7) (oi := { dst := some 17, op := Op.move (Operand.tmp 0), type := 60, pos := "ref.go:41", after := #[{ on := 6, ground := Ground.guard }], guard := some (6, false) }) ?_ rfl (by kernel_rfl) (by kernel_rfl) (by kernel_rfl) (fun _ _ _ h => h) ?_ ?_ hHeld ?_; rotate_left; (focus rfl); (focus (intro wq hSq; obtain ⟨sq0, sq1, sq2⟩ := hSq; (first | (go_simp; done) | (go_simp; with_reducible rfl)))))
        try simp only [Act.put, List.setIfInBounds_toArray, List.set_cons_zero, List.set_cons_succ]
        first | (refine takeU (i := 8) (oi := { dst := some 18, op := Op.move (Operand.tmp 3), type := 3, pos := "ref.go:41", after := #[{ on := 6, ground := Ground.guard }], guard := some (6, false) }) rfl (by kernel_rfl) (by kernel_rfl) (by kernel_rfl) (fun _ _ _ h => h) ?_ hHeld ?_; (focus rfl)) | (refine takeW (i := 8) (oi := { dst := some 18, op := Op.move (Operand.tmp 3), type := 3, pos := "ref.go:41", after := #[{ on := 6, ground := Ground.guard }], guard := some (6, false) }) ?_ rfl (by kernel_rfl) (by kernel_rfl) (by kernel_rfl) (fun _ _ _ h => h) ?_ ?_ hHeld ?_; rotate_left; (focus rfl); (focus (intro wq hSq; obtain ⟨sq0, sq1, sq2⟩ := hSq; (first | (go_simp; done) | (go_simp; with_reducible rfl)))))
        try simp only [Act.put, List.setIfInBounds_toArray, List.set_cons_zero, List.set_cons_succ]
        first | (refine takeU (i := 9) (oi := { dst := some 19, op := Op.indexAddr 60 (Operand.tmp 17) (Operand.tmp 18), type := 0, pos := "ref.go:41", after := #[{ on := 7, ground := Ground.data }, { on := 8, ground := Ground.data }, { on := 6, ground := Ground.guard }], guard := some (6, false) }) rfl (by kernel_rfl) (by kernel_rfl) (by kernel_rfl) (fun _ _ _ h => h) ?_ hHeld ?_; (focus rfl)) | (refine takeW (i := 9) (oi := { dst := some 19, op := Op.indexAddr 60 (Operand.tmp 17) (Operand.tmp 18), type := 0, pos := "ref.go:41", after := #[{ on := 7, ground := Ground.data }, { on := 8, ground := Ground.data }, { on := 6, ground := Ground.guard }], guard := some (6, false) }) ?_ rfl (by kernel_rfl) (by kernel_rfl) (by kernel_rfl) (fun _ _ _ h => h) ?_ ?_ hHeld ?_; rotate_left; (focus rfl); (focus (intro wq hSq; obtain ⟨sq0, sq1, sq2⟩ := hSq; (first | (go_simp; done) | (go_simp; with_reducible rfl)))))
        try simp only [Act.put, List.setIfInBounds_toArray, List.set_cons_zero, List.set_cons_succ]
        first | (refine takeU (i := 10) (oi := { dst := some 20, op := Op.fieldAddr 26 (Operand.tmp 19) 0, type := 0, pos := "ref.go:41", after := #[{ on := 9, ground := Ground.data }, { on := 6, ground := Ground.guard }], guard := some (6, false) }) rfl (by kernel_rfl) (by kernel_rfl) (by kernel_rfl) (fun _ _ _ h => h) ?_ hHeld ?_; (focus rfl)) | (refine takeW (i := 10) (oi := { dst := some 20, op := Op.fieldAddr 26 (Operand.tmp 19) 0, type := 0, pos := "ref.go:41", after := #[{ on := 9, ground := Ground.data }, { on := 6, ground := Ground.guard }], guard := some (6, false) }) ?_ rfl (by kernel_rfl) (by kernel_rfl) (by kernel_rfl) (fun _ _ _ h => h) ?_ ?_ hHeld ?_; rotate_left; (focus rfl); (focus (intro wq hSq; obtain ⟨sq0, sq1, sq2⟩ := hSq; (first | (go_simp; done) | (go_simp; with_reducible rfl)))))
        try simp only [Act.put, List.setIfInBounds_toArray, List.set_cons_zero, List.set_cons_succ]
        first | (refine takeU (i := 11) (oi := { dst := some 21, op := Op.load 22 (Operand.tmp 20), type := 22, pos := "ref.go:41", after := #[{ on := 10, ground := Ground.data }, { on := 6, ground := Ground.guard }], guard := some (6, false) }) rfl (by kernel_rfl) (by kernel_rfl) (by kernel_rfl) (fun _ _ _ h => h) ?_ hHeld ?_; (focus rfl)) | (refine takeW (i := 11) (oi := { dst := some 21, op := Op.load 22 (Operand.tmp 20), type := 22, pos := "ref.go:41", after := #[{ on := 10, ground := Ground.data }, { on := 6, ground := Ground.guard }], guard := some (6, false) }) ?_ rfl (by kernel_rfl) (by kernel_rfl) (by kernel_rfl) (fun _ _ _ h => h) ?_ ?_ hHeld ?_; rotate_left; (focus rfl); (focus (intro wq hSq; obtain ⟨sq0, sq1, sq2⟩ := hSq; (first | (go_simp; done) | (go_simp; with_reducible rfl)))))
        try simp only [Act.put, List.setIfInBounds_toArray, List.set_cons_zero, List.set_cons_succ]
        first | (refine takeU (i := 12) (oi := { dst := some 22, op := Op.move (Operand.tmp 0), type := 60, pos := "ref.go:41", after := #[{ on := 6, ground := Ground.guard }], guard := some (6, false) }) rfl (by kernel_rfl) (by kernel_rfl) (by kernel_rfl) (fun _ _ _ h => h) ?_ hHeld ?_; (focus rfl)) | (refine takeW (i := 12) (oi := { dst := some 22, op := Op.move (Operand.tmp 0), type := 60, pos := "ref.go:41", after := #[{ on := 6, ground := Ground.guard }], guard := some (6, false) }) ?_ rfl (by kernel_rfl) (by kernel_rfl) (by kernel_rfl) (fun _ _ _ h => h) ?_ ?_ hHeld ?_; rotate_left; (focus rfl); (focus (intro wq hSq; obtain ⟨sq0, sq1, sq2⟩ := hSq; (first | (go_simp; done) | (go_simp; with_reducible rfl)))))
        try simp only [Act.put, List.setIfInBounds_toArray, List.set_cons_zero, List.set_cons_succ]
        first | (refine takeU (i := 13) (oi := { dst := some 23, op := Op.indexAddr 60 (Operand.tmp 22) (Operand.const (Value.int IntKind.i64 0)), type := 0, pos := "ref.go:41", after := #[{ on := 12, ground := Ground.data }, { on := 6, ground := Ground.guard }], guard := some (6, false) }) rfl (by kernel_rfl) (by kernel_rfl) (by kernel_rfl) (fun _ _ _ h => h) ?_ hHeld ?_; (focus rfl)) | (refine takeW (i := 13) (oi := { dst := some 23, op := Op.indexAddr 60 (Operand.tmp 22) (Operand.const (Value.int IntKind.i64 0)), type := 0, pos := "ref.go:41", after := #[{ on := 12, ground := Ground.data }, { on := 6, ground := Ground.guard }], guard := some (6, false) }) ?_ rfl (by kernel_rfl) (by kernel_rfl) (by kernel_rfl) (fun _ _ _ h => h) ?_ ?_ hHeld ?_; rotate_left; (focus rfl); (focus (intro wq hSq; obtain ⟨sq0, sq1, sq2⟩ := hSq; (first | (go_simp; done) | (go_simp; with_reducible rfl)))))
        try simp only [Act.put, List.setIfInBounds_toArray, List.set_cons_zero, List.set_cons_succ]
        first | (refine takeU (i := 14) (oi := { dst := some 24, op := Op.fieldAddr 26 (Operand.tmp 23) 0, type := 0, pos := "ref.go:41", after := #[{ on := 13, ground := Ground.data }, { on := 6, ground := Ground.guard }], guard := some (6, false) }) rfl (by kernel_rfl) (by kernel_rfl) (by kernel_rfl) (fun _ _ _ h => h) ?_ hHeld ?_; (focus rfl)) | (refine takeW (i := 14) (oi := { dst := some 24, op := Op.fieldAddr 26 (Operand.tmp 23) 0, type := 0, pos := "ref.go:41", after := #[{ on := 13, ground := Ground.data }, { on := 6, ground := Ground.guard }], guard := some (6, false) }) ?_ rfl (by kernel_rfl) (by kernel_rfl) (by kernel_rfl) (fun _ _ _ h => h) ?_ ?_ hHeld ?_; rotate_left; (focus rfl); (focus (intro wq hSq; obtain ⟨sq0, sq1, sq2⟩ := hSq; (first | (go_simp; done) | (go_simp; with_reducible rfl)))))
        try simp only [Act.put, List.setIfInBounds_toArray, List.set_cons_zero, List.set_cons_succ]
        first | (refine takeU (i := 15) (oi := { dst := some 25, op := Op.load 22 (Operand.tmp 24), type := 22, pos := "ref.go:41", after := #[{ on := 14, ground := Ground.data }, { on := 6, ground := Ground.guard }], guard := some (6, false) }) rfl (by kernel_rfl) (by kernel_rfl) (by kernel_rfl) (fun _ _ _ h => h) ?_ hHeld ?_; (focus rfl)) | (refine takeW (i := 15) (oi := { dst := some 25, op := Op.load 22 (Operand.tmp 24), type := 22, pos := "ref.go:41", after := #[{ on := 14, ground := Ground.data }, { on := 6, ground := Ground.guard }], guard := some (6, false) }) ?_ rfl (by kernel_rfl) (by kernel_rfl) (by kernel_rfl) (fun _ _ _ h => h) ?_ ?_ hHeld ?_; rotate_left; (focus rfl); (focus (intro wq hSq; obtain ⟨sq0, sq1, sq2⟩ := hSq; (first | (go_simp; done) | (go_simp; with_reducible rfl)))))
        try simp only [Act.put, List.setIfInBounds_toArray, List.set_cons_zero, List.set_cons_succ]
        refine wpAnyH_ready (rs := [16]) (by kernel_rfl) (by simp) ?_
        refine AllReadyH.cons (o := { dst := some 26, op := Op.call { callee := Callee.value (Operand.func 16), args := #[Operand.tmp 21, Operand.tmp 25], argTypes := #[22, 22] }, type := 4, pos := "ref.go:41", after := #[{ on := 11, ground := Ground.data }, { on := 15, ground := Ground.data }, { on := 6, ground := Ground.chain }, { on := 6, ground := Ground.guard }], guard := some (6, false) }) rfl (fun K hK => ?_) AllReadyH.nil
        first | (refine effU ?_ ?_; (focus rfl)) | (go_simp; trace_state; sorry; go_wp2_with fail)
        refine hK.out _ _ ?_ (fun hHeld2 => ?_)
        · first | assumption | (skip)
        clear hK K hHeld
        have hHeld := hHeld2; clear hHeld2
        try simp only [Act.put, List.setIfInBounds_toArray, List.set_cons_zero, List.set_cons_succ]
        first | (refine takeU (i := 17) (oi := { dst := some 27, op := Op.unOp UnOp.not 4 (Operand.tmp 26), type := 4, pos := "ref.go:41", after := #[{ on := 16, ground := Ground.data }, { on := 6, ground := Ground.guard }], guard := some (6, false) }) rfl (by kernel_rfl) (by kernel_rfl) (by kernel_rfl) (fun _ _ _ h => h) ?_ hHeld ?_; (focus rfl)) | (refine takeW (i := 17) (oi := { dst := some 27, op := Op.unOp UnOp.not 4 (Operand.tmp 26), type := 4, pos := "ref.go:41", after := #[{ on := 16, ground := Ground.data }, { on := 6, ground := Ground.guard }], guard := some (6, false) }) ?_ rfl (by kernel_rfl) (by kernel_rfl) (by kernel_rfl) (fun _ _ _ h => h) ?_ ?_ hHeld ?_; rotate_left; (focus rfl); (focus (intro wq hSq; obtain ⟨sq0, sq1, sq2⟩ := hSq; (first | (go_simp; done) | (go_simp; with_reducible rfl)))))
        try simp only [Act.put, List.setIfInBounds_toArray, List.set_cons_zero, List.set_cons_succ]
        first | (refine takeU (i := 18) (oi := { dst := some 28, op := Op.pick (Operand.tmp 16) (Operand.const (Value.bool true)) (Operand.tmp 27), type := 4, pos := "ref.go:41", after := #[{ on := 6, ground := Ground.data }, { on := 17, ground := Ground.data }], guard := none }) rfl (by kernel_rfl) (by kernel_rfl) (by kernel_rfl) (fun _ _ _ h => h) ?_ hHeld ?_; (focus rfl)) | (refine takeW (i := 18) (oi := { dst := some 28, op := Op.pick (Operand.tmp 16) (Operand.const (Value.bool true)) (Operand.tmp 27), type := 4, pos := "ref.go:41", after := #[{ on := 6, ground := Ground.data }, { on := 17, ground := Ground.data }], guard := none }) ?_ rfl (by kernel_rfl) (by kernel_rfl) (by kernel_rfl) (fun _ _ _ h => h) ?_ ?_ hHeld ?_; rotate_left; (focus rfl); (focus (intro wq hSq; obtain ⟨sq0, sq1, sq2⟩ := hSq; (first | (go_simp; done) | (go_simp; with_reducible rfl)))))
        try simp only [Act.put, List.setIfInBounds_toArray, List.set_cons_zero, List.set_cons_succ]
        refine wpAnyH_done (by kernel_rfl) ?_ _
        go_wp2
        go_ret
        exact ⟨by rw [allR_bad HY.out HR.out]; rfl, HB2.out⟩
      | true =>
        rw [hr] at C1
        obtain ⟨i1, _⟩ := ten_ints HT1.out
        obtain ⟨i2, _⟩ := ten_ints HT2.out
        have I1 := Lib.hid i1
        have I2 := Lib.hid i2
        clear i1 i2
        cases hq : (y.1 == x0.1) with
        | false =>
          have HR := Lib.hid (show (tenRight y.1 y.2 && y.1 == x0.1) = false by rw [hr, hq]; rfl)
          clear hr
          refine wp_region_held_drew (S := (fun w' => w'.cell? (a.add (j * 2)) = some (.slice S sn sc) ∧ w'.cell? ⟨(a.add (j * 2)).block, (a.add (j * 2)).off + 1, none⟩ = some (.slice D dn dc) ∧ w'.cell? a = some (.slice S0 sn0 sc0))) (by kernel_rfl) ?_ (fun hHeld => ?_)
          · exact ⟨h0, h1, g0⟩
          first | (refine takeU (i := 0) (oi := { dst := some 10, op := Op.move (Operand.tmp 0), type := 60, pos := "ref.go:41", after := #[], guard := none }) rfl (by kernel_rfl) (by kernel_rfl) (by kernel_rfl) (fun _ _ _ h => h) ?_ hHeld ?_; (focus rfl)) | (refine takeW (i := 0) (oi := { dst := some 10, op := Op.move (Operand.tmp 0), type := 60, pos := "ref.go:41", after := #[], guard := none }) ?_ rfl (by kernel_rfl) (by kernel_rfl) (by kernel_rfl) (fun _ _ _ h => h) ?_ ?_ hHeld ?_; rotate_left; (focus rfl); (focus (intro wq hSq; obtain ⟨sq0, sq1, sq2⟩ := hSq; (first | (go_simp; done) | (go_simp; with_reducible rfl)))))
          try simp only [Act.put, List.setIfInBounds_toArray, List.set_cons_zero, List.set_cons_succ]
          first | (refine takeU (i := 1) (oi := { dst := some 11, op := Op.move (Operand.tmp 3), type := 3, pos := "ref.go:41", after := #[], guard := none }) rfl (by kernel_rfl) (by kernel_rfl) (by kernel_rfl) (fun _ _ _ h => h) ?_ hHeld ?_; (focus rfl)) | (refine takeW (i := 1) (oi := { dst := some 11, op := Op.move (Operand.tmp 3), type := 3, pos := "ref.go:41", after := #[], guard := none }) ?_ rfl (by kernel_rfl) (by kernel_rfl) (by kernel_rfl) (fun _ _ _ h => h) ?_ ?_ hHeld ?_; rotate_left; (focus rfl); (focus (intro wq hSq; obtain ⟨sq0, sq1, sq2⟩ := hSq; (first | (go_simp; done) | (go_simp; with_reducible rfl)))))
          try simp only [Act.put, List.setIfInBounds_toArray, List.set_cons_zero, List.set_cons_succ]
          first | (refine takeU (i := 2) (oi := { dst := some 12, op := Op.indexAddr 60 (Operand.tmp 10) (Operand.tmp 11), type := 0, pos := "ref.go:41", after := #[{ on := 0, ground := Ground.data }, { on := 1, ground := Ground.data }], guard := none }) rfl (by kernel_rfl) (by kernel_rfl) (by kernel_rfl) (fun _ _ _ h => h) ?_ hHeld ?_; (focus rfl)) | (refine takeW (i := 2) (oi := { dst := some 12, op := Op.indexAddr 60 (Operand.tmp 10) (Operand.tmp 11), type := 0, pos := "ref.go:41", after := #[{ on := 0, ground := Ground.data }, { on := 1, ground := Ground.data }], guard := none }) ?_ rfl (by kernel_rfl) (by kernel_rfl) (by kernel_rfl) (fun _ _ _ h => h) ?_ ?_ hHeld ?_; rotate_left; (focus rfl); (focus (intro wq hSq; obtain ⟨sq0, sq1, sq2⟩ := hSq; (first | (go_simp; done) | (go_simp; with_reducible rfl)))))
          try simp only [Act.put, List.setIfInBounds_toArray, List.set_cons_zero, List.set_cons_succ]
          first | (refine takeU (i := 3) (oi := { dst := some 13, op := Op.load 26 (Operand.tmp 12), type := 26, pos := "ref.go:41", after := #[{ on := 2, ground := Ground.data }], guard := none }) rfl (by kernel_rfl) (by kernel_rfl) (by kernel_rfl) (fun _ _ _ h => h) ?_ hHeld ?_; (focus rfl)) | (refine takeW (i := 3) (oi := { dst := some 13, op := Op.load 26 (Operand.tmp 12), type := 26, pos := "ref.go:41", after := #[{ on := 2, ground := Ground.data }], guard := none }) ?_ rfl (by kernel_rfl) (by kernel_rfl) (by kernel_rfl) (fun _ _ _ h => h) ?_ ?_ hHeld ?_; rotate_left; (focus rfl); (focus (intro wq hSq; obtain ⟨sq0, sq1, sq2⟩ := hSq; (first | (go_simp; done) | (go_simp; with_reducible rfl)))))
          try simp only [Act.put, List.setIfInBounds_toArray, List.set_cons_zero, List.set_cons_succ]
          refine wpAnyH_ready (rs := [4]) (by kernel_rfl) (by simp) ?_
          refine AllReadyH.cons (o := { dst := some 14, op := Op.call { callee := Callee.value (Operand.func 15), args := #[Operand.tmp 13], argTypes := #[26] }, type := 4, pos := "ref.go:41", after := #[{ on := 3, ground := Ground.data }], guard := none }) rfl (fun K hK => ?_) AllReadyH.nil
          first | (refine effU ?_ ?_; (focus rfl)) | (go_simp; (go_at_call 15; refine C1.mono ?_; rintro e w2 ⟨rfl, hb2⟩; have a0 := cell_keep (w := w1.drew) hb2 h0; have a1 := cell_keep (w := w1.drew) hb2 h1; have a2 := cell_keep (w := w1.drew) hb2 g0; have HB2 := Lib.hid (then_drew HB.out 1 |>.trans (hb2.mono HB.out.size)); have J1 := Lib.hid (I1.out.below (w := w1.drew) hb2); have J2 := Lib.hid (I2.out.below (w := w1.drew) hb2)); go_wp2_with fail)
          refine hK.out _ _ ?_ (fun hHeld2 => ?_)
          · first | assumption | (exact ⟨a0, a1, a2⟩)
          clear hK K hHeld
          have hHeld := hHeld2; clear hHeld2
          try simp only [Act.put, List.setIfInBounds_toArray, List.set_cons_zero, List.set_cons_succ]
          first | (refine takeU (i := 5) (oi := { dst := some 15, op := Op.unOp UnOp.not 4 (Operand.tmp 14), type := 4, pos := "ref.go:41", after := #[{ on := 4, ground := Ground.data }], guard := none }) rfl (by kernel_rfl) (by kernel_rfl) (by kernel_rfl) (fun _ _ _ h => h) ?_ hHeld ?_; (focus rfl)) | (refine takeW (i := 5) (oi := { dst := some 15, op := Op.unOp UnOp.not 4 (Operand.tmp 14), type := 4, pos := "ref.go:41", after := #[{ on := 4, ground := Ground.data }], guard := none }) ?_ rfl (by kernel_rfl) (by kernel_rfl) (by kernel_rfl) (fun _ _ _ h => h) ?_ ?_ hHeld ?_; rotate_left; (focus rfl); (focus (intro wq hSq; obtain ⟨sq0, sq1, sq2⟩ := hSq; (first | (go_simp; done) | (go_simp; with_reducible rfl)))))
          try simp only [Act.put, List.setIfInBounds_toArray, List.set_cons_zero, List.set_cons_succ]
          first | (refine takeU (i := 6) (oi := { dst := some 16, op := Op.move (Operand.tmp 15), type := 4, pos := "ref.go:41", after := #[{ on := 5, ground := Ground.data }, { on := 4, ground := Ground.chain }], guard := none }) rfl (by kernel_rfl) (by kernel_rfl) (by kernel_rfl) (fun _ _ _ h => h) ?_ hHeld ?_; (focus rfl)) | (refine takeW (i := 6) (oi := { dst := some 16, op := Op.move (Operand.tmp 15), type := 4, pos := "ref.go:41", after := #[{ on := 5, ground := Ground.data }, { on := 4, ground := Ground.chain }], guard := none }) ?_ rfl (by kernel_rfl) (by kernel_rfl) (by kernel_rfl) (fun _ _ _ h => h) ?_ ?_ hHeld ?_; rotate_left; (focus rfl); (focus (intro wq hSq; obtain ⟨sq0, sq1, sq2⟩ := hSq; (first | (go_simp; done) | (go_simp; with_reducible rfl)))))
          try simp only [Act.put, List.setIfInBounds_toArray, List.set_cons_zero, List.set_cons_succ]
          first | (refine takeU (i := 7) (oi := { dst := some 17, op := Op.move (Operand.tmp 0), type := 60, pos := "ref.go:41", after := #[{ on := 6, ground := Ground.guard }], guard := some (6, false) }) rfl (by kernel_rfl) (by kernel_rfl) (by kernel_rfl) (fun _ _ _ h => h) ?_ hHeld ?_; (focus rfl)) | (refine takeW (i := 7) (oi := { dst := some 17, op := Op.move (Operand.tmp 0), type := 60, pos := "ref.go:41", after := #[{ on := 6, ground := Ground.guard }], guard := some (6, false) }) ?_ rfl (by kernel_rfl) (by kernel_rfl) (by kernel_rfl) (fun _ _ _ h => h) ?_ ?_ hHeld ?_; rotate_left; (focus rfl); (focus (intro wq hSq; obtain ⟨sq0, sq1, sq2⟩ := hSq; (first | (go_simp; done) | (go_simp; with_reducible rfl)))))
          try simp only [Act.put, List.setIfInBounds_toArray, List.set_cons_zero, List.set_cons_succ]
          first | (refine takeU (i := 8) (oi := { dst := some 18, op := Op.move (Operand.tmp 3), type := 3, pos := "ref.go:41", after := #[{ on := 6, ground := Ground.guard }], guard := some (6, false) }) rfl (by kernel_rfl) (by kernel_rfl) (by kernel_rfl) (fun _ _ _ h => h) ?_ hHeld ?_; (focus rfl)) | (refine takeW (i := 8) (oi := { dst := some 18, op := Op.move (Operand.tmp 3), type := 3, pos := "ref.go:41", after := #[{ on := 6, ground := Ground.guard }], guard := some (6, false) }) ?_ rfl (by kernel_rfl) (by kernel_rfl) (by kernel_rfl) (fun _ _ _ h => h) ?_ ?_ hHeld ?_; rotate_left; (focus rfl); (focus (intro wq hSq; obtain ⟨sq0, sq1, sq2⟩ := hSq; (first | (go_simp; done) | (go_simp; with_reducible rfl)))))
          try simp only [Act.put, List.setIfInBounds_toArray, List.set_cons_zero, List.set_cons_succ]
          first | (refine takeU (i := 9) (oi := { dst := some 19, op := Op.indexAddr 60 (Operand.tmp 17) (Operand.tmp 18), type := 0, pos := "ref.go:41", after := #[{ on := 7, ground := Ground.data }, { on := 8, ground := Ground.data }, { on := 6, ground := Ground.guard }], guard := some (6, false) }) rfl (by kernel_rfl) (by kernel_rfl) (by kernel_rfl) (fun _ _ _ h => h) ?_ hHeld ?_; (focus rfl)) | (refine takeW (i := 9) (oi := { dst := some 19, op := Op.indexAddr 60 (Operand.tmp 17) (Operand.tmp 18), type := 0, pos := "ref.go:41", after := #[{ on := 7, ground := Ground.data }, { on := 8, ground := Ground.data }, { on := 6, ground := Ground.guard }], guard := some (6, false) }) ?_ rfl (by kernel_rfl) (by kernel_rfl) (by kernel_rfl) (fun _ _ _ h => h) ?_ ?_ hHeld ?_; rotate_left; (focus rfl); (focus (intro wq hSq; obtain ⟨sq0, sq1, sq2⟩ := hSq; (first | (go_simp; done) | (go_simp; with_reducible rfl)))))
          try simp only [Act.put, List.setIfInBounds_toArray, List.set_cons_zero, List.set_cons_succ]
          first | (refine takeU (i := 10) (oi := { dst := some 20, op := Op.fieldAddr 26 (Operand.tmp 19) 0, type := 0, pos := "ref.go:41", after := #[{ on := 9, ground := Ground.data }, { on := 6, ground := Ground.guard }], guard := some (6, false) }) rfl (by kernel_rfl) (by kernel_rfl) (by kernel_rfl) (fun _ _ _ h => h) ?_ hHeld ?_; (focus rfl)) | (refine takeW (i := 10) (oi := { dst := some 20, op := Op.fieldAddr 26 (Operand.tmp 19) 0, type := 0, pos := "ref.go:41", after := #[{ on := 9, ground := Ground.data }, { on := 6, ground := Ground.guard }], guard := some (6, false) }) ?_ rfl (by kernel_rfl) (by kernel_rfl) (by kernel_rfl) (fun _ _ _ h => h) ?_ ?_ hHeld ?_; rotate_left; (focus rfl); (focus (intro wq hSq; obtain ⟨sq0, sq1, sq2⟩ := hSq; (first | (go_simp; done) | (go_simp; with_reducible rfl)))))
          try simp only [Act.put, List.setIfInBounds_toArray, List.set_cons_zero, List.set_cons_succ]
          first | (refine takeU (i := 11) (oi := { dst := some 21, op := Op.load 22 (Operand.tmp 20), type := 22, pos := "ref.go:41", after := #[{ on := 10, ground := Ground.data }, { on := 6, ground := Ground.guard }], guard := some (6, false) }) rfl (by kernel_rfl) (by kernel_rfl) (by kernel_rfl) (fun _ _ _ h => h) ?_ hHeld ?_; (focus rfl)) | (refine takeW (i := 11) (oi := { dst := some 21, op := Op.load 22 (Operand.tmp 20), type := 22, pos := "ref.go:41", after := #[{ on := 10, ground := Ground.data }, { on := 6, ground := Ground.guard }], guard := some (6, false) }) ?_ rfl (by kernel_rfl) (by kernel_rfl) (by kernel_rfl) (fun _ _ _ h => h) ?_ ?_ hHeld ?_; rotate_left; (focus rfl); (focus (intro wq hSq; obtain ⟨sq0, sq1, sq2⟩ := hSq; (first | (go_simp; done) | (go_simp; with_reducible rfl)))))
          try simp only [Act.put, List.setIfInBounds_toArray, List.set_cons_zero, List.set_cons_succ]
          first | (refine takeU (i := 12) (oi := { dst := some 22, op := Op.move (Operand.tmp 0), type := 60, pos := "ref.go:41", after := #[{ on := 6, ground := Ground.guard }], guard := some (6, false) }) rfl (by kernel_rfl) (by kernel_rfl) (by kernel_rfl) (fun _ _ _ h => h) ?_ hHeld ?_; (focus rfl)) | (refine takeW (i := 12) (oi := { dst := some 22, op := Op.move (Operand.tmp 0), type := 60, pos := "ref.go:41", after := #[{ on := 6, ground := Ground.guard }], guard := some (6, false) }) ?_ rfl (by kernel_rfl) (by kernel_rfl) (by kernel_rfl) (fun _ _ _ h => h) ?_ ?_ hHeld ?_; rotate_left; (focus rfl); (focus (intro wq hSq; obtain ⟨sq0, sq1, sq2⟩ := hSq; (first | (go_simp; done) | (go_simp; with_reducible rfl)))))
          try simp only [Act.put, List.setIfInBounds_toArray, List.set_cons_zero, List.set_cons_succ]
          first | (refine takeU (i := 13) (oi := { dst := some 23, op := Op.indexAddr 60 (Operand.tmp 22) (Operand.const (Value.int IntKind.i64 0)), type := 0, pos := "ref.go:41", after := #[{ on := 12, ground := Ground.data }, { on := 6, ground := Ground.guard }], guard := some (6, false) }) rfl (by kernel_rfl) (by kernel_rfl) (by kernel_rfl) (fun _ _ _ h => h) ?_ hHeld ?_; (focus rfl)) | (refine takeW (i := 13) (oi := { dst := some 23, op := Op.indexAddr 60 (Operand.tmp 22) (Operand.const (Value.int IntKind.i64 0)), type := 0, pos := "ref.go:41", after := #[{ on := 12, ground := Ground.data }, { on := 6, ground := Ground.guard }], guard := some (6, false) }) ?_ rfl (by kernel_rfl) (by kernel_rfl) (by kernel_rfl) (fun _ _ _ h => h) ?_ ?_ hHeld ?_; rotate_left; (focus rfl); (focus (intro wq hSq; obtain ⟨sq0, sq1, sq2⟩ := hSq; (first | (go_simp; done) | (go_simp; with_reducible rfl)))))
          try simp only [Act.put, List.setIfInBounds_toArray, List.set_cons_zero, List.set_cons_succ]
          first | (refine takeU (i := 14) (oi := { dst := some 24, op := Op.fieldAddr 26 (Operand.tmp 23) 0, type := 0, pos := "ref.go:41", after := #[{ on := 13, ground := Ground.data }, { on := 6, ground := Ground.guard }], guard := some (6, false) }) rfl (by kernel_rfl) (by kernel_rfl) (by kernel_rfl) (fun _ _ _ h => h) ?_ hHeld ?_; (focus rfl)) | (refine takeW (i := 14) (oi := { dst := some 24, op := Op.fieldAddr 26 (Operand.tmp 23) 0, type := 0, pos := "ref.go:41", after := #[{ on := 13, ground := Ground.data }, { on := 6, ground := Ground.guard }], guard := some (6, false) }) ?_ rfl (by kernel_rfl) (by kernel_rfl) (by kernel_rfl) (fun _ _ _ h => h) ?_ ?_ hHeld ?_; rotate_left; (focus rfl); (focus (intro wq hSq; obtain ⟨sq0, sq1, sq2⟩ := hSq; (first | (go_simp; done) | (go_simp; with_reducible rfl)))))
          try simp only [Act.put, List.setIfInBounds_toArray, List.set_cons_zero, List.set_cons_succ]
          first | (refine takeU (i := 15) (oi := { dst := some 25, op := Op.load 22 (Operand.tmp 24), type := 22, pos := "ref.go:41", after := #[{ on := 14, ground := Ground.data }, { on := 6, ground := Ground.guard }], guard := some (6, false) }) rfl (by kernel_rfl) (by kernel_rfl) (by kernel_rfl) (fun _ _ _ h => h) ?_ hHeld ?_; (focus rfl)) | (refine takeW (i := 15) (oi := { dst := some 25, op := Op.load 22 (Operand.tmp 24), type := 22, pos := "ref.go:41", after := #[{ on := 14, ground := Ground.data }, { on := 6, ground := Ground.guard }], guard := some (6, false) }) ?_ rfl (by kernel_rfl) (by kernel_rfl) (by kernel_rfl) (fun _ _ _ h => h) ?_ ?_ hHeld ?_; rotate_left; (focus rfl); (focus (intro wq hSq; obtain ⟨sq0, sq1, sq2⟩ := hSq; (first | (go_simp; done) | (go_simp; with_reducible rfl)))))
          try simp only [Act.put, List.setIfInBounds_toArray, List.set_cons_zero, List.set_cons_succ]
          refine wpAnyH_ready (rs := [16]) (by kernel_rfl) (by simp) ?_
          refine AllReadyH.cons (o := { dst := some 26, op := Op.call { callee := Callee.value (Operand.func 16), args := #[Operand.tmp 21, Operand.tmp 25], argTypes := #[22, 22] }, type := 4, pos := "ref.go:41", after := #[{ on := 11, ground := Ground.data }, { on := 15, ground := Ground.data }, { on := 6, ground := Ground.chain }, { on := 6, ground := Ground.guard }], guard := some (6, false) }) rfl (fun K hK => ?_) AllReadyH.nil
          first | (refine effU ?_ ?_; (focus rfl)) | (go_simp; (go_at_call 16; refine (refInts_any J1.out J2.out).mono ?_; rw [hq]; rintro e w3 ⟨rfl, q3, rfl⟩; have b0 : (w2.drewN q3).cell? (a.add (j * 2)) = some (.slice S sn sc) := a0; have b1 : (w2.drewN q3).cell? ⟨(a.add (j * 2)).block, (a.add (j * 2)).off + 1, none⟩ = some (.slice D dn dc) := a1; have b2 : (w2.drewN q3).cell? a = some (.slice S0 sn0 sc0) := a2); go_wp2_with fail)
          refine hK.out _ _ ?_ (fun hHeld2 => ?_)
          · first | assumption | (exact ⟨b0, b1, b2⟩)
          clear hK K hHeld
          have hHeld := hHeld2; clear hHeld2
          try simp only [Act.put, List.setIfInBounds_toArray, List.set_cons_zero, List.set_cons_succ]
          first | (refine takeU (i := 17) (oi := { dst := some 27, op := Op.unOp UnOp.not 4 (Operand.tmp 26), type := 4, pos := "ref.go:41", after := #[{ on := 16, ground := Ground.data }, { on := 6, ground := Ground.guard }], guard := some (6, false) }) rfl (by kernel_rfl) (by kernel_rfl) (by kernel_rfl) (fun _ _ _ h => h) ?_ hHeld ?_; (focus rfl)) | (refine takeW (i := 17) (oi := { dst := some 27, op := Op.unOp UnOp.not 4 (Operand.tmp 26), type := 4, pos := "ref.go:41", after := #[{ on := 16, ground := Ground.data }, { on := 6, ground := Ground.guard }], guard := some (6, false) }) ?_ rfl (by kernel_rfl) (by kernel_rfl) (by kernel_rfl) (fun _ _ _ h => h) ?_ ?_ hHeld ?_; rotate_left; (focus rfl); (focus (intro wq hSq; obtain ⟨sq0, sq1, sq2⟩ := hSq; (first | (go_simp; done) | (go_simp; with_reducible rfl)))))
          try simp only [Act.put, List.setIfInBounds_toArray, List.set_cons_zero, List.set_cons_succ]
          first | (refine takeU (i := 18) (oi := { dst := some 28, op := Op.pick (Operand.tmp 16) (Operand.const (Value.bool true)) (Operand.tmp 27), type := 4, pos := "ref.go:41", after := #[{ on := 6, ground := Ground.data }, { on := 17, ground := Ground.data }], guard := none }) rfl (by kernel_rfl) (by kernel_rfl) (by kernel_rfl) (fun _ _ _ h => h) ?_ hHeld ?_; (focus rfl)) | (refine takeW (i := 18) (oi := { dst := some 28, op := Op.pick (Operand.tmp 16) (Operand.const (Value.bool true)) (Operand.tmp 27), type := 4, pos := "ref.go:41", after := #[{ on := 6, ground := Ground.data }, { on := 17, ground := Ground.data }], guard := none }) ?_ rfl (by kernel_rfl) (by kernel_rfl) (by kernel_rfl) (fun _ _ _ h => h) ?_ ?_ hHeld ?_; rotate_left; (focus rfl); (focus (intro wq hSq; obtain ⟨sq0, sq1, sq2⟩ := hSq; (first | (go_simp; done) | (go_simp; with_reducible rfl)))))
          try simp only [Act.put, List.setIfInBounds_toArray, List.set_cons_zero, List.set_cons_succ]
          refine wpAnyH_done (by kernel_rfl) ?_ _
          go_wp2
          go_ret
          exact ⟨by rw [allR_bad HY.out HR.out]; rfl, below_drewN HB2.out _⟩
        | true =>
          have HR := Lib.hid (show (tenRight y.1 y.2 && y.1 == x0.1) = true by rw [hr, hq]; rfl)
          clear hr
          refine wp_region_held_drew (S := (fun w' => w'.cell? (a.add (j * 2)) = some (.slice S sn sc) ∧ w'.cell? ⟨(a.add (j * 2)).block, (a.add (j * 2)).off + 1, none⟩ = some (.slice D dn dc) ∧ w'.cell? a = some (.slice S0 sn0 sc0))) (by kernel_rfl) ?_ (fun hHeld => ?_)
          · exact ⟨h0, h1, g0⟩
          first | (refine takeU (i := 0) (oi := { dst := some 10, op := Op.move (Operand.tmp 0), type := 60, pos := "ref.go:41", after := #[], guard := none }) rfl (by kernel_rfl) (by kernel_rfl) (by kernel_rfl) (fun _ _ _ h => h) ?_ hHeld ?_; (focus rfl)) | (refine takeW (i := 0) (oi := { dst := some 10, op := Op.move (Operand.tmp 0), type := 60, pos := "ref.go:41", after := #[], guard := none }) ?_ rfl (by kernel_rfl) (by kernel_rfl) (by kernel_rfl) (fun _ _ _ h => h) ?_ ?_ hHeld ?_; rotate_left; (focus rfl); (focus (intro wq hSq; obtain ⟨sq0, sq1, sq2⟩ := hSq; (first | (go_simp; done) | (go_simp; with_reducible rfl)))))
          try simp only [Act.put, List.setIfInBounds_toArray, List.set_cons_zero, List.set_cons_succ]
          first | (refine takeU (i := 1) (oi := { dst := some 11, op := Op.move (Operand.tmp 3), type := 3, pos := "ref.go:41", after := #[], guard := none }) rfl (by kernel_rfl) (by kernel_rfl) (by kernel_rfl) (fun _ _ _ h => h) ?_ hHeld ?_; (focus rfl)) | (refine takeW (i := 1) (oi := { dst := some 11, op := Op.move (Operand.tmp 3), type := 3, pos := "ref.go:41", after := #[], guard := none }) ?_ rfl (by kernel_rfl) (by kernel_rfl) (by kernel_rfl) (fun _ _ _ h => h) ?_ ?_ hHeld ?_; rotate_left; (focus rfl); (focus (intro wq hSq; obtain ⟨sq0, sq1, sq2⟩ := hSq; (first | (go_simp; done) | (go_simp; with_reducible rfl)))))
          try simp only [Act.put, List.setIfInBounds_toArray, List.set_cons_zero, List.set_cons_succ]
          first | (refine takeU (i := 2) (oi := { dst := some 12, op := Op.indexAddr 60 (Operand.tmp 10) (Operand.tmp 11), type := 0, pos := "ref.go:41", after := #[{ on := 0, ground := Ground.data }, { on := 1, ground := Ground.data }], guard := none }) rfl (by kernel_rfl) (by kernel_rfl) (by kernel_rfl) (fun _ _ _ h => h) ?_ hHeld ?_; (focus rfl)) | (refine takeW (i := 2) (oi := { dst := some 12, op := Op.indexAddr 60 (Operand.tmp 10) (Operand.tmp 11), type := 0, pos := "ref.go:41", after := #[{ on := 0, ground := Ground.data }, { on := 1, ground := Ground.data }], guard := none }) ?_ rfl (by kernel_rfl) (by kernel_rfl) (by kernel_rfl) (fun _ _ _ h => h) ?_ ?_ hHeld ?_; rotate_left; (focus rfl); (focus (intro wq hSq; obtain ⟨sq0, sq1, sq2⟩ := hSq; (first | (go_simp; done) | (go_simp; with_reducible rfl)))))
          try simp only [Act.put, List.setIfInBounds_toArray, List.set_cons_zero, List.set_cons_succ]
          first | (refine takeU (i := 3) (oi := { dst := some 13, op := Op.load 26 (Operand.tmp 12), type := 26, pos := "ref.go:41", after := #[{ on := 2, ground := Ground.data }], guard := none }) rfl (by kernel_rfl) (by kernel_rfl) (by kernel_rfl) (fun _ _ _ h => h) ?_ hHeld ?_; (focus rfl)) | (refine takeW (i := 3) (oi := { dst := some 13, op := Op.load 26 (Operand.tmp 12), type := 26, pos := "ref.go:41", after := #[{ on := 2, ground := Ground.data }], guard := none }) ?_ rfl (by kernel_rfl) (by kernel_rfl) (by kernel_rfl) (fun _ _ _ h => h) ?_ ?_ hHeld ?_; rotate_left; (focus rfl); (focus (intro wq hSq; obtain ⟨sq0, sq1, sq2⟩ := hSq; (first | (go_simp; done) | (go_simp; with_reducible rfl)))))
          try simp only [Act.put, List.setIfInBounds_toArray, List.set_cons_zero, List.set_cons_succ]
          refine wpAnyH_ready (rs := [4]) (by kernel_rfl) (by simp) ?_
          refine AllReadyH.cons (o := { dst := some 14, op := Op.call { callee := Callee.value (Operand.func 15), args := #[Operand.tmp 13], argTypes := #[26] }, type := 4, pos := "ref.go:41", after := #[{ on := 3, ground := Ground.data }], guard := none }) rfl (fun K hK => ?_) AllReadyH.nil
          first | (refine effU ?_ ?_; (focus rfl)) | (go_simp; (go_at_call 15; refine C1.mono ?_; rintro e w2 ⟨rfl, hb2⟩; have a0 := cell_keep (w := w1.drew) hb2 h0; have a1 := cell_keep (w := w1.drew) hb2 h1; have a2 := cell_keep (w := w1.drew) hb2 g0; have HB2 := Lib.hid (then_drew HB.out 1 |>.trans (hb2.mono HB.out.size)); have J1 := Lib.hid (I1.out.below (w := w1.drew) hb2); have J2 := Lib.hid (I2.out.below (w := w1.drew) hb2)); go_wp2_with fail)
          refine hK.out _ _ ?_ (fun hHeld2 => ?_)
          · first | assumption | (exact ⟨a0, a1, a2⟩)
          clear hK K hHeld
          have hHeld := hHeld2; clear hHeld2
          try simp only [Act.put, List.setIfInBounds_toArray, List.set_cons_zero, List.set_cons_succ]
          first | (refine takeU (i := 5) (oi := { dst := some 15, op := Op.unOp UnOp.not 4 (Operand.tmp 14), type := 4, pos := "ref.go:41", after := #[{ on := 4, ground := Ground.data }], guard := none }) rfl (by kernel_rfl) (by kernel_rfl) (by kernel_rfl) (fun _ _ _ h => h) ?_ hHeld ?_; (focus rfl)) | (refine takeW (i := 5) (oi := { dst := some 15, op := Op.unOp UnOp.not 4 (Operand.tmp 14), type := 4, pos := "ref.go:41", after := #[{ on := 4, ground := Ground.data }], guard := none }) ?_ rfl (by kernel_rfl) (by kernel_rfl) (by kernel_rfl) (fun _ _ _ h => h) ?_ ?_ hHeld ?_; rotate_left; (focus rfl); (focus (intro wq hSq; obtain ⟨sq0, sq1, sq2⟩ := hSq; (first | (go_simp; done) | (go_simp; with_reducible rfl)))))
          try simp only [Act.put, List.setIfInBounds_toArray, List.set_cons_zero, List.set_cons_succ]
          first | (refine takeU (i := 6) (oi := { dst := some 16, op := Op.move (Operand.tmp 15), type := 4, pos := "ref.go:41", after := #[{ on := 5, ground := Ground.data }, { on := 4, ground := Ground.chain }], guard := none }) rfl (by kernel_rfl) (by kernel_rfl) (by kernel_rfl) (fun _ _ _ h => h) ?_ hHeld ?_; (focus rfl)) | (refine takeW (i := 6) (oi := { dst := some 16, op := Op.move (Operand.tmp 15), type := 4, pos := "ref.go:41", after := #[{ on := 5, ground := Ground.data }, { on := 4, ground := Ground.chain }], guard := none }) ?_ rfl (by kernel_rfl) (by kernel_rfl) (by kernel_rfl) (fun _ _ _ h => h) ?_ ?_ hHeld ?_; rotate_left; (focus rfl); (focus (intro wq hSq; obtain ⟨sq0, sq1, sq2⟩ := hSq; (first | (go_simp; done) | (go_simp; with_reducible rfl)))))
          try simp only [Act.put, List.setIfInBounds_toArray, List.set_cons_zero, List.set_cons_succ]
          first | (refine takeU (i := 7) (oi := { dst := some 17, op := Op.move (Operand.tmp 0), type := 60, pos := "ref.go:41", after := #[{ on := 6, ground := Ground.guard }], guard := some (6, false) }) rfl (by kernel_rfl) (by kernel_rfl) (by kernel_rfl) (fun _ _ _ h => h) ?_ hHeld ?_; (focus rfl)) | (refine takeW (i := 7) (oi := { dst := some 17, op := Op.move (Operand.tmp 0), type := 60, pos := "ref.go:41", after := #[{ on := 6, ground := Ground.guard }], guard := some (6, false) }) ?_ rfl (by kernel_rfl) (by kernel_rfl) (by kernel_rfl) (fun _ _ _ h => h) ?_ ?_ hHeld ?_; rotate_left; (focus rfl); (focus (intro wq hSq; obtain ⟨sq0, sq1, sq2⟩ := hSq; (first | (go_simp; done) | (go_simp; with_reducible rfl)))))
          try simp only [Act.put, List.setIfInBounds_toArray, List.set_cons_zero, List.set_cons_succ]
          first | (refine takeU (i := 8) (oi := { dst := some 18, op := Op.move (Operand.tmp 3), type := 3, pos := "ref.go:41", after := #[{ on := 6, ground := Ground.guard }], guard := some (6, false) }) rfl (by kernel_rfl) (by kernel_rfl) (by kernel_rfl) (fun _ _ _ h => h) ?_ hHeld ?_; (focus rfl)) | (refine takeW (i := 8) (oi := { dst := some 18, op := Op.move (Operand.tmp 3), type := 3, pos := "ref.go:41", after := #[{ on := 6, ground := Ground.guard }], guard := some (6, false) }) ?_ rfl (by kernel_rfl) (by kernel_rfl) (by kernel_rfl) (fun _ _ _ h => h) ?_ ?_ hHeld ?_; rotate_left; (focus rfl); (focus (intro wq hSq; obtain ⟨sq0, sq1, sq2⟩ := hSq; (first | (go_simp; done) | (go_simp; with_reducible rfl)))))
          try simp only [Act.put, List.setIfInBounds_toArray, List.set_cons_zero, List.set_cons_succ]
          first | (refine takeU (i := 9) (oi := { dst := some 19, op := Op.indexAddr 60 (Operand.tmp 17) (Operand.tmp 18), type := 0, pos := "ref.go:41", after := #[{ on := 7, ground := Ground.data }, { on := 8, ground := Ground.data }, { on := 6, ground := Ground.guard }], guard := some (6, false) }) rfl (by kernel_rfl) (by kernel_rfl) (by kernel_rfl) (fun _ _ _ h => h) ?_ hHeld ?_; (focus rfl)) | (refine takeW (i := 9) (oi := { dst := some 19, op := Op.indexAddr 60 (Operand.tmp 17) (Operand.tmp 18), type := 0, pos := "ref.go:41", after := #[{ on := 7, ground := Ground.data }, { on := 8, ground := Ground.data }, { on := 6, ground := Ground.guard }], guard := some (6, false) }) ?_ rfl (by kernel_rfl) (by kernel_rfl) (by kernel_rfl) (fun _ _ _ h => h) ?_ ?_ hHeld ?_; rotate_left; (focus rfl); (focus (intro wq hSq; obtain ⟨sq0, sq1, sq2⟩ := hSq; (first | (go_simp; done) | (go_simp; with_reducible rfl)))))
          try simp only [Act.put, List.setIfInBounds_toArray, List.set_cons_zero, List.set_cons_succ]
          first | (refine takeU (i := 10) (oi := { dst := some 20, op := Op.fieldAddr 26 (Operand.tmp 19) 0, type := 0, pos := "ref.go:41", after := #[{ on := 9, ground := Ground.data }, { on := 6, ground := Ground.guard }], guard := some (6, false) }) rfl (by kernel_rfl) (by kernel_rfl) (by kernel_rfl) (fun _ _ _ h => h) ?_ hHeld ?_; (focus rfl)) | (refine takeW (i := 10) (oi := { dst := some 20, op := Op.fieldAddr 26 (Operand.tmp 19) 0, type := 0, pos := "ref.go:41", after := #[{ on := 9, ground := Ground.data }, { on := 6, ground := Ground.guard }], guard := some (6, false) }) ?_ rfl (by kernel_rfl) (by kernel_rfl) (by kernel_rfl) (fun _ _ _ h => h) ?_ ?_ hHeld ?_; rotate_left; (focus rfl); (focus (intro wq hSq; obtain ⟨sq0, sq1, sq2⟩ := hSq; (first | (go_simp; done) | (go_simp; with_reducible rfl)))))
          try simp only [Act.put, List.setIfInBounds_toArray, List.set_cons_zero, List.set_cons_succ]
          first | (refine takeU (i := 11) (oi := { dst := some 21, op := Op.load 22 (Operand.tmp 20), type := 22, pos := "ref.go:41", after := #[{ on := 10, ground := Ground.data }, { on := 6, ground := Ground.guard }], guard := some (6, false) }) rfl (by kernel_rfl) (by kernel_rfl) (by kernel_rfl) (fun _ _ _ h => h) ?_ hHeld ?_; (focus rfl)) | (refine takeW (i := 11) (oi := { dst := some 21, op := Op.load 22 (Operand.tmp 20), type := 22, pos := "ref.go:41", after := #[{ on := 10, ground := Ground.data }, { on := 6, ground := Ground.guard }], guard := some (6, false) }) ?_ rfl (by kernel_rfl) (by kernel_rfl) (by kernel_rfl) (fun _ _ _ h => h) ?_ ?_ hHeld ?_; rotate_left; (focus rfl); (focus (intro wq hSq; obtain ⟨sq0, sq1, sq2⟩ := hSq; (first | (go_simp; done) | (go_simp; with_reducible rfl)))))
          try simp only [Act.put, List.setIfInBounds_toArray, List.set_cons_zero, List.set_cons_succ]
          first | (refine takeU (i := 12) (oi := { dst := some 22, op := Op.move (Operand.tmp 0), type := 60, pos := "ref.go:41", after := #[{ on := 6, ground := Ground.guard }], guard := some (6, false) }) rfl (by kernel_rfl) (by kernel_rfl) (by kernel_rfl) (fun _ _ _ h => h) ?_ hHeld ?_; (focus rfl)) | (refine takeW (i := 12) (oi := { dst := some 22, op := Op.move (Operand.tmp 0), type := 60, pos := "ref.go:41", after := #[{ on := 6, ground := Ground.guard }], guard := some (6, false) }) ?_ rfl (by kernel_rfl) (by kernel_rfl) (by kernel_rfl) (fun _ _ _ h => h) ?_ ?_ hHeld ?_; rotate_left; (focus rfl); (focus (intro wq hSq; obtain ⟨sq0, sq1, sq2⟩ := hSq; (first | (go_simp; done) | (go_simp; with_reducible rfl)))))
          try simp only [Act.put, List.setIfInBounds_toArray, List.set_cons_zero, List.set_cons_succ]
          first | (refine takeU (i := 13) (oi := { dst := some 23, op := Op.indexAddr 60 (Operand.tmp 22) (Operand.const (Value.int IntKind.i64 0)), type := 0, pos := "ref.go:41", after := #[{ on := 12, ground := Ground.data }, { on := 6, ground := Ground.guard }], guard := some (6, false) }) rfl (by kernel_rfl) (by kernel_rfl) (by kernel_rfl) (fun _ _ _ h => h) ?_ hHeld ?_; (focus rfl)) | (refine takeW (i := 13) (oi := { dst := some 23, op := Op.indexAddr 60 (Operand.tmp 22) (Operand.const (Value.int IntKind.i64 0)), type := 0, pos := "ref.go:41", after := #[{ on := 12, ground := Ground.data }, { on := 6, ground := Ground.guard }], guard := some (6, false) }) ?_ rfl (by kernel_rfl) (by kernel_rfl) (by kernel_rfl) (fun _ _ _ h => h) ?_ ?_ hHeld ?_; rotate_left; (focus rfl); (focus (intro wq hSq; obtain ⟨sq0, sq1, sq2⟩ := hSq; (first | (go_simp; done) | (go_simp; with_reducible rfl)))))
          try simp only [Act.put, List.setIfInBounds_toArray, List.set_cons_zero, List.set_cons_succ]
          first | (refine takeU (i := 14) (oi := { dst := some 24, op := Op.fieldAddr 26 (Operand.tmp 23) 0, type := 0, pos := "ref.go:41", after := #[{ on := 13, ground := Ground.data }, { on := 6, ground := Ground.guard }], guard := some (6, false) }) rfl (by kernel_rfl) (by kernel_rfl) (by kernel_rfl) (fun _ _ _ h => h) ?_ hHeld ?_; (focus rfl)) | (refine takeW (i := 14) (oi := { dst := some 24, op := Op.fieldAddr 26 (Operand.tmp 23) 0, type := 0, pos := "ref.go:41", after := #[{ on := 13, ground := Ground.data }, { on := 6, ground := Ground.guard }], guard := some (6, false) }) ?_ rfl (by kernel_rfl) (by kernel_rfl) (by kernel_rfl) (fun _ _ _ h => h) ?_ ?_ hHeld ?_; rotate_left; (focus rfl); (focus (intro wq hSq; obtain ⟨sq0, sq1, sq2⟩ := hSq; (first | (go_simp; done) | (go_simp; with_reducible rfl)))))
          try simp only [Act.put, List.setIfInBounds_toArray, List.set_cons_zero, List.set_cons_succ]
          first | (refine takeU (i := 15) (oi := { dst := some 25, op := Op.load 22 (Operand.tmp 24), type := 22, pos := "ref.go:41", after := #[{ on := 14, ground := Ground.data }, { on := 6, ground := Ground.guard }], guard := some (6, false) }) rfl (by kernel_rfl) (by kernel_rfl) (by kernel_rfl) (fun _ _ _ h => h) ?_ hHeld ?_; (focus rfl)) | (refine takeW (i := 15) (oi := { dst := some 25, op := Op.load 22 (Operand.tmp 24), type := 22, pos := "ref.go:41", after := #[{ on := 14, ground := Ground.data }, { on := 6, ground := Ground.guard }], guard := some (6, false) }) ?_ rfl (by kernel_rfl) (by kernel_rfl) (by kernel_rfl) (fun _ _ _ h => h) ?_ ?_ hHeld ?_; rotate_left; (focus rfl); (focus (intro wq hSq; obtain ⟨sq0, sq1, sq2⟩ := hSq; (first | (go_simp; done) | (go_simp; with_reducible rfl)))))
          try simp only [Act.put, List.setIfInBounds_toArray, List.set_cons_zero, List.set_cons_succ]
          refine wpAnyH_ready (rs := [16]) (by kernel_rfl) (by simp) ?_
          refine AllReadyH.cons (o := { dst := some 26, op := Op.call { callee := Callee.value (Operand.func 16), args := #[Operand.tmp 21, Operand.tmp 25], argTypes := #[22, 22] }, type := 4, pos := "ref.go:41", after := #[{ on := 11, ground := Ground.data }, { on := 15, ground := Ground.data }, { on := 6, ground := Ground.chain }, { on := 6, ground := Ground.guard }], guard := some (6, false) }) rfl (fun K hK => ?_) AllReadyH.nil
          first | (refine effU ?_ ?_; (focus rfl)) | (go_simp; (go_at_call 16; refine (refInts_any J1.out J2.out).mono ?_; rw [hq]; rintro e w3 ⟨rfl, q3, rfl⟩; have b0 : (w2.drewN q3).cell? (a.add (j * 2)) = some (.slice S sn sc) := a0; have b1 : (w2.drewN q3).cell? ⟨(a.add (j * 2)).block, (a.add (j * 2)).off + 1, none⟩ = some (.slice D dn dc) := a1; have b2 : (w2.drewN q3).cell? a = some (.slice S0 sn0 sc0) := a2); go_wp2_with fail)
          refine hK.out _ _ ?_ (fun hHeld2 => ?_)
          · first | assumption | (exact ⟨b0, b1, b2⟩)
          clear hK K hHeld
          have hHeld := hHeld2; clear hHeld2
          try simp only [Act.put, List.setIfInBounds_toArray, List.set_cons_zero, List.set_cons_succ]
          first | (refine takeU (i := 17) (oi := { dst := some 27, op := Op.unOp UnOp.not 4 (Operand.tmp 26), type := 4, pos := "ref.go:41", after := #[{ on := 16, ground := Ground.data }, { on := 6, ground := Ground.guard }], guard := some (6, false) }) rfl (by kernel_rfl) (by kernel_rfl) (by kernel_rfl) (fun _ _ _ h => h) ?_ hHeld ?_; (focus rfl)) | (refine takeW (i := 17) (oi := { dst := some 27, op := Op.unOp UnOp.not 4 (Operand.tmp 26), type := 4, pos := "ref.go:41", after := #[{ on := 16, ground := Ground.data }, { on := 6, ground := Ground.guard }], guard := some (6, false) }) ?_ rfl (by kernel_rfl) (by kernel_rfl) (by kernel_rfl) (fun _ _ _ h => h) ?_ ?_ hHeld ?_; rotate_left; (focus rfl); (focus (intro wq hSq; obtain ⟨sq0, sq1, sq2⟩ := hSq; (first | (go_simp; done) | (go_simp; with_reducible rfl)))))
          try simp only [Act.put, List.setIfInBounds_toArray, List.set_cons_zero, List.set_cons_succ]
          first | (refine takeU (i := 18) (oi := { dst := some 28, op := Op.pick (Operand.tmp 16) (Operand.const (Value.bool true)) (Operand.tmp 27), type := 4, pos := "ref.go:41", after := #[{ on := 6, ground := Ground.data }, { on := 17, ground := Ground.data }], guard := none }) rfl (by kernel_rfl) (by kernel_rfl) (by kernel_rfl) (fun _ _ _ h => h) ?_ hHeld ?_; (focus rfl)) | (refine takeW (i := 18) (oi := { dst := some 28, op := Op.pick (Operand.tmp 16) (Operand.const (Value.bool true)) (Operand.tmp 27), type := 4, pos := "ref.go:41", after := #[{ on := 6, ground := Ground.data }, { on := 17, ground := Ground.data }], guard := none }) ?_ rfl (by kernel_rfl) (by kernel_rfl) (by kernel_rfl) (fun _ _ _ h => h) ?_ ?_ hHeld ?_; rotate_left; (focus rfl); (focus (intro wq hSq; obtain ⟨sq0, sq1, sq2⟩ := hSq; (first | (go_simp; done) | (go_simp; with_reducible rfl)))))
          try simp only [Act.put, List.setIfInBounds_toArray, List.set_cons_zero, List.set_cons_succ]
          refine wpAnyH_done (by kernel_rfl) ?_ _
          go_wp2
          go_roundw
          case rel => exact ⟨j + 1, by go_num, by omega, fun k z hk hz => by
            rcases Nat.lt_or_ge k j with h' | h'
            · exact HA.out k z h' hz
            · obtain rfl : k = j := by omega
              rw [HY.out] at hz; injection hz with hz; subst hz; exact HR.out, below_drewN HB2.out _⟩
          case measure => simp [intOf]; omega
    · obtain rfl : j = n := by omega
      have HX := Lib.hid (allR_good (x0 := x0) (l := x0 :: l) (fun k y hk hy => HA.out k y (by omega) hy))
      clear hl
      go_wp2
      go_ret
      exact ⟨by rw [HX.out]; rfl, HB.out⟩

theorem tens_one {w : World} {g : Nat} {S D : Option Addr} {sn sc dn dc : Nat} {s d : List Int} (hg : w.heap[g]? = some (.cells #[.slice S sn sc, .slice D dn dc] 26 (0, 0))) (h : Ten w (.agg #[.slice S sn sc, .slice D dn dc]) s d) :
    Tens w (some ⟨g, 0, none⟩) 1 [(s, d)] :=
  ⟨rfl, by omega, fun j x hx => by
    cases j with
    | zero => simp at hx; subst hx; exact ⟨_, S, sn, sc, D, dn, dc, rfl, block_lt_of_cell (cell0_of hg), cell0_of hg, cell1_of hg, h⟩
    | succ j => simp at hx⟩

/-- All of a tensor's new block, in which each number is being laid: the loop's state. -/
def Laying (W wr : World) (g : Nat) (S D : Option Addr) (sn sc N dc : Nat) (s ds : List Int) : Prop :=
  W.heap.size ≤ g ∧ wr.heap[g]? = some (.cells #[.slice S sn sc, .slice D N dc] 26 (0, 0)) ∧ OwnS wr W.heap.size 3 (.slice S sn sc) sn s ∧ OwnS wr W.heap.size 2 (.slice D N dc) N ds ∧ Below W.heap.size W wr

theorem laying_new {W w1 : World} {S D : Option Addr} {sn sc N dc : Nat} {s ds : List Int} (hb : Below W.heap.size W w1) (hs : OwnS w1 W.heap.size 3 (.slice S sn sc) sn s) (hd : OwnS w1 W.heap.size 2 (.slice D N dc) N ds) :
    Laying W (w1.alloc (.cells #[.slice S sn sc, .slice D N dc] 26)) w1.heap.size S D sn sc N dc s ds :=
  ⟨hb.size, heap_alloc_new w1 _, hs.alloc _, hd.alloc _, hb.alloc hb.size _⟩
theorem Laying.store {W wr : World} {g gb : Nat} {S : Option Addr} {sn sc N dc : Nat} {s ds : List Int} (h : Laying W wr g S (some ⟨gb, 0, none⟩) sn sc N dc s ds) (j : Nat) {x : Int} (hx : Fits x) :
    Laying W (wr.setCell ⟨gb, j, none⟩ (.int .i64 x)) g S (some ⟨gb, 0, none⟩) sn sc N dc s (ds.set j x) := by
  obtain ⟨hg, hgx, hS, hD, hB⟩ := h
  have hO : Own wr W.heap.size 2 gb N dc ds := hD
  obtain ⟨cs, hb⟩ := hO.blk
  have hgw := grown_setCell wr gb j (.int .i64 x)
  exact ⟨hg, (hgw.block _ (block_lt_of_cell (cell0_of hgx)) (fun h' => ne_of_types hgx hb ty_ne.2.2.1.symm (by injection h'))).trans hgx, hS.grownNe hgw (hS.apart hb ty_ne.1), hO.store j hx, hB.setCell (p := ⟨gb, j, none⟩) hO.base_.1 _⟩
theorem Laying.drew {W wr : World} {g : Nat} {S D : Option Addr} {sn sc N dc : Nat} {s ds : List Int} (h : Laying W wr g S D sn sc N dc s ds) (q : Nat) : Laying W (wr.drewN q) g S D sn sc N dc s ds :=
  ⟨h.1, h.2.1, h.2.2.1, h.2.2.2.1, below_drewN h.2.2.2.2 q⟩
theorem Laying.below {W wr w' : World} {g : Nat} {S D : Option Addr} {sn sc N dc : Nat} {s ds : List Int} (h : Laying W wr g S D sn sc N dc s ds) (hb : Below wr.heap.size wr w') : Laying W w' g S D sn sc N dc s ds :=
  ⟨h.1, (hb.block _ (block_lt_of_cell (cell0_of h.2.1))).trans h.2.1, h.2.2.1.below hb, h.2.2.2.1.below hb, h.2.2.2.2.trans (hb.mono h.2.2.2.2.size)⟩

theorem keep_set {wr : World} {p q : Addr} {v u : Value} (h : wr.cell? p = some v) (hne : p.block ≠ q.block) : (wr.setCell q u).drew.cell? p = some v :=
  (World.cell?_setCell_other wr q p u (fun e => hne (by rw [e]))).trans h
theorem Laying.ne {W wr : World} {g gb : Nat} {S : Option Addr} {sn sc N dc : Nat} {s ds : List Int} (h : Laying W wr g S (some ⟨gb, 0, none⟩) sn sc N dc s ds) : g ≠ gb ∧ W.heap.size ≤ gb := by
  obtain ⟨_, hgx, _, hD, _⟩ := h
  have hO : Own wr W.heap.size 2 gb N dc ds := hD
  obtain ⟨cs, hb⟩ := hO.blk
  exact ⟨ne_of_types hgx hb ty_ne.2.2.1.symm, hO.base_.1⟩

end Go.Proofs.Ytihjobpdphljiaa
