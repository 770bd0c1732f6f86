/- TensorSets: the walk. -/
import Derived.Test.YtdgckcckkfgooaaL2Known
import Derived.Test.YtdgckcckkfgooaaL2Made
import Derived.Test.YtdgckcckkfgooaaKitReg
namespace Go.Proofs.Ytdgckcckkfgooaa
open Go.RowKit

theorem OTen.grown_ {w w' : World} {g base : Nat} {v : Value} {s d : List Int} (h : OTen w base v s d) (hr : w.grownBy w' (some g)) (hb : g < base) : OTen w' base v s d := by
  obtain ⟨vs, vd, n, m, rfl, h1, h2⟩ := h
  exact ⟨vs, vd, n, m, rfl, h1.grown hr hb, h2.grown hr hb⟩
theorem tenHas_none {s d : List Int} (h : Sh.size s = 0) : tenHas s d (Sh.placeOf s 0) = false := by
  apply tenHas_false
  have hp : Sh.placeOf s 0 = [] := by rw [Sh.placeOf, if_neg (by omega)]
  rw [hp, tenIx]
  split
  · unfold Sh.index
    split
    · rename_i hc
      simp only [Bool.and_eq_true, decide_eq_true_eq] at hc
      have : s = [] := List.eq_nil_of_length_eq_zero hc.1.2.symm
      subst this
      exact absurd h (by decide)
    · omega
  · omega
theorem tenRight_len {s d : List Int} (h : d.length = (Sh.size s).toNat) (h0 : 0 < d.length) : Sh.right s = true ∧ tenRight s d = true := by
  have hsz := Sh.size_bd s
  have hr : Sh.right s = true := by
    cases hr : Sh.right s with
    | true => rfl
    | false => have := Sh.size_not hr; omega
  exact ⟨hr, by simp only [tenRight, hr, Bool.true_and, decide_eq_true_eq]; omega⟩

theorem same_self (s d : List Int) : (s == s && d == d) = true := by simp
theorem heap_lt {w : World} {g : Nat} {o : Obj} (h : w.heap[g]? = some o) : g < w.heap.size := by
  rcases Nat.lt_or_ge g w.heap.size with hl | hl
  · exact hl
  · rw [Array.getElem?_eq_none hl] at h; cases h

set_option maxRecDepth 100000 in
set_option maxHeartbeats 12800000 in
theorem sets2_walk {w : World} {A0 : Option Addr} {n0 c0 : Nat} {x0 : List Int} (x a : Int) (h0 : Ints w A0 n0 x0) (hx : Fits x) (ha : Fits a) :
    Calls Try.prog 5 #[.slice A0 n0 c0, .int .i64 x, .int .i64 a] w fun e w' => e = .returned (.bool true) ∧ Below w.heap.size w w' := by
  obtain ⟨ha1, ha2⟩ := ha
  have hT := tape_new (c := c0) h0
  have hB : Below w.heap.size w (w.alloc (.cells #[.slice A0 n0 c0, .int .i64 0] 33)) := (Below.refl _ _).alloc (Nat.le_refl _) _
  have hz : (w.alloc (.cells #[.slice A0 n0 c0, .int .i64 0] 33)).heap.size = w.heap.size + 1 := by simp
  go_enter Try.func5, Try.ntmps5
  go_upto_region 2 with fail
  generalize w.alloc (.cells #[.slice A0 n0 c0, .int .i64 0] 33) = wa at *
  have HX := Lib.hid hx
  have HB := Lib.hid hB
  have HZ := Lib.hid hz
  clear hB hz h0 hx
  go_wp2_with fail
  refine (tapeShape_any hT).mono ?_; rintro e w1 ⟨⟨v, n, s, rfl, hO, hn, hxs⟩, hT1, hG1⟩
  obtain ⟨A, c, rfl, hc, hI, hA⟩ := hO.form
  have hxl := hI.len
  have hgl : w.heap.size < w1.heap.size := hT1.lt
  have HG1 := Lib.hid hG1
  have hwb : wa.heap.size ≤ w1.heap.size := hG1.size
  have HXL := Lib.hid hxl
  clear hO hG1 hxs hT hxl hA
  go_wp2_with fail
  refine (tapeTensor_any hT1 hI (by omega)).mono ?_; rintro e w2 ⟨⟨vt, d, rfl, hOT, hdl⟩, hT2, hG2⟩
  obtain ⟨At, nt, ct, Bt, k, et, rfl, hnt, hmt, _, hDt⟩ := hOT.ten
  have hgt := heap_alloc_new w2 (.cells #[.slice At nt ct, .slice Bt k et] 26)
  have hxt := (Below.refl w2.heap.size w2).alloc (Nat.le_refl _) (.cells #[.slice At nt ct, .slice Bt k et] 26)
  have hb2 := below_of_grown (B := w.heap.size) HB.out (by have := HZ.out; omega) (grown_trans HG1.out hG2) (Nat.le_refl _)
  have HBz := Lib.hid (then_ hb2 hxt)
  have HT := Lib.hid (hOT.ten.below hxt)
  have HDL := Lib.hid hdl
  have HKL := Lib.hid hDt.len
  clear hxt hG2 hOT hT2 hdl hI hT1 HB HG1 hDt hb2
  go_upto_region 3 with fail
  generalize w2.alloc (.cells #[.slice At nt ct, .slice Bt k et] 26) = w3 at *
  have HT0 := Lib.hid (cell0_of hgt)
  have HT1 := Lib.hid (cell1_of hgt)
  generalize w2.heap.size = gt at *
  clear hgt
  have hszb := Sh.size_bd s
  have hsl : s.length ≤ 17592186044000 := by have := HXL.out; omega
  have hdl : d.length ≤ 17592186044000 := by have := HDL.out; omega
  have hk4 : k ≤ 4096 := by have := HDL.out; have := HKL.out; omega
  have HSL := Lib.hid hsl
  have HDl := Lib.hid hdl
  clear hszb hsl hdl
  have t0 := HT0.out
  have t1 := HT1.out
  go_wp2_with fail
  refine (tCopy_any HT.out HSL.out HDl.out).mono ?_; rintro e w4 ⟨⟨vw, rfl, hvw⟩, hb4⟩
  obtain ⟨A1, n1, c1, B1, m1, e1, rfl, hnc1, hme1, _, _⟩ := hvw.ten
  have hg4 := heap_alloc_new w4 (.cells #[.slice A1 n1 c1, .slice B1 m1 e1] 26)
  have hx4 := (Below.refl w4.heap.size w4).alloc (Nat.le_refl _) (.cells #[.slice A1 n1 c1, .slice B1 m1 e1] 26)
  have hb5 := then_ hb4 hx4
  replace HT := Lib.hid (HT.out.below hb5)
  have HW := Lib.hid (hvw.ten.below hx4)
  replace HT0 := Lib.hid (box_keep hb5 HT0.out)
  replace HT1 := Lib.hid (box_keep hb5 HT1.out)
  replace HBz := Lib.hid (then_ HBz.out hb5)
  clear hb4 hvw hb5 hx4 t0 t1
  go_upto_region 4 with fail
  generalize w4.alloc (.cells #[.slice A1 n1 c1, .slice B1 m1 e1] 26) = w5 at *
  have HW0 := Lib.hid (cell0_of hg4)
  have HW1 := Lib.hid (cell1_of hg4)
  generalize w4.heap.size = gw at *
  clear hg4
  have t0 := HT0.out
  have t1 := HT1.out
  by_cases hk0 : k = 0
  · subst hk0
    have hsz : Sh.size s = 0 := by have := HDL.out; have := HKL.out; have := Sh.size_bd s; omega
    have HN := Lib.hid (tenHas_none (d := d) hsz)
    clear hsz
    have hkk : ((0 : Int) == 0) = true := rfl
    go_upto_region 6 with fail
    go_cut [12] (fun q wx => q = .bool false ∧ Below w5.heap.size w5 wx)
    case first =>
      go_wp2_with fail
      have hIs := (ten_ints HT.out).1
      have qt0 := fun o => alloc_keep o t0
      have qt1 := fun o => alloc_keep o t1
      have hIz := (hIs.alloc (.cells #[.slice none 0 0, .slice none 0 0] 26)).drew
      have bz : Below w5.heap.size w5 (w5.alloc (.cells #[.slice none 0 0, .slice none 0 0] 26)).drew := ((Below.refl _ _).alloc (Nat.le_refl _) _).drew
      have zz : (w5.alloc (.cells #[.slice none 0 0, .slice none 0 0] 26)).drew.heap[w5.heap.size]? = some (.cells #[.slice none 0 0, .slice none 0 0] 26 (0, 0)) := heap_alloc_new w5 _
      have ng5 : w5.heap.size ≠ gt := Nat.ne_of_gt (block_lt_of_cell t0)
      have BZ := Lib.hid bz
      have ZZ := Lib.hid zz
      clear bz zz
      go_region_held3 (fun w' => w'.cell? ⟨gt, 0, none⟩ = some (.slice At nt ct) ∧ w'.cell? ⟨gt, 1, none⟩ = some (.slice Bt 0 et)) (go_keep)
        (first
          | (go_at_call 9; refine (refPlace_any 0 (by first | exact hIs.drew | exact hIz) ⟨by omega, by omega⟩).mono ?_; rintro e w6 ⟨⟨P, m, q, rfl, hq, hJ⟩, hb6⟩; (first | have hb6' : Below w5.heap.size w5 w6 := (Below.refl w5.heap.size w5).drew.trans hb6 | (have hb6' : Below w5.heap.size w5 w6 := then_ BZ.out hb6; have HZ6 := Lib.hid ((hb6.block w5.heap.size (by simp)).trans ZZ.out))); have c0 := box_keep hb6' t0; have c1 := box_keep hb6' t1; have HT6 := Lib.hid (HT.out.below hb6'); have HB6 := Lib.hid hb6'; have qc0 := fun o => alloc_keep o c0; have qc1 := fun o => alloc_keep o c1; have ng6 : w6.heap.size ≠ gt := Nat.ne_of_gt (block_lt_of_cell c0))
          | (go_at_call 15; have hz6 := HZ6.out; refine (tSet_any x HT6.out hJ HX.out).mono ?_; rw [HN.out]; rintro e w7 ⟨⟨vu, rfl, hvu⟩, hb7⟩; have HB7 := Lib.hid (then_ HB6.out hb7); have d0 := box_keep hb7 c0; have d1 := box_keep hb7 c1; have hz7 := (hb7.block w5.heap.size (heap_lt hz6)).trans hz6; have z0 := cell0_of hz7; have z1 := cell1_of hz7; have y0 := frozen_of_row _ _ 0 _ _ hz7; have y1 := frozen_of_row _ _ 1 _ _ hz7; have HZ7 := Lib.hid hz7; clear hz7; obtain ⟨A3, n3, c3, B3, m3, e3, rfl, hnc3, hme3, _, _⟩ := hvu.ten; have HVU := Lib.hid hvu; clear hvu)
          | (go_at_call 15; refine (tSet_any x HT6.out hJ HX.out).mono ?_; rw [HN.out]; rintro e w7 ⟨⟨vu, rfl, hvu⟩, hb7⟩; have HB7 := Lib.hid (then_ HB6.out hb7); have d0 := box_keep hb7 c0; have d1 := box_keep hb7 c1; obtain ⟨A3, n3, c3, B3, m3, e3, rfl, hnc3, hme3, _, _⟩ := hvu.ten; have HVU := Lib.hid hvu; clear hvu)
          | (go_at_call 15; have bz6 := (Below.refl w6.heap.size w6).alloc (Nat.le_refl _) (.cells #[.slice none 0 0, .slice none 0 0] 26); refine (tSet_any x (HT6.out.below bz6) (hJ.below bz6) HX.out).mono ?_; rw [HN.out]; rintro e w7 ⟨⟨vu, rfl, hvu⟩, hb7⟩; have HB7 := Lib.hid (then_ (then_ HB6.out bz6) hb7); have d0 := box_keep hb7 (alloc_keep _ c0); have d1 := box_keep hb7 (alloc_keep _ c1); have hz7 := (hb7.block w6.heap.size (by simp)).trans (heap_alloc_new w6 _); have z0 := cell0_of hz7; have z1 := cell1_of hz7; have y0 := frozen_of_row _ _ 0 _ _ hz7; have y1 := frozen_of_row _ _ 1 _ _ hz7; have HZ7 := Lib.hid hz7; clear hz7; obtain ⟨A3, n3, c3, B3, m3, e3, rfl, hnc3, hme3, _, _⟩ := hvu.ten; have HVU := Lib.hid hvu; clear hvu))
      all_goals go_wp2_with fail
      all_goals go_meet
      all_goals first | exact ⟨rfl, HB7.out.alloc HB7.out.size _⟩ | exact ⟨rfl, (HB7.out.setCell (p := ⟨w6.heap.size, 0, none⟩) HB6.out.size _).setCell (p := ⟨w6.heap.size, 1, none⟩) HB6.out.size _⟩ | exact ⟨rfl, (HB7.out.setCell (p := ⟨w5.heap.size, 0, none⟩) (Nat.le_refl _) _).setCell (p := ⟨w5.heap.size, 1, none⟩) (Nat.le_refl _) _⟩
    case rest =>
      obtain ⟨rfl, hb6⟩ := hcut
      replace HBz := Lib.hid (then_ HBz.out hb6)
      clear hb6
      go_wp2_with fail
      refine (l2known_any _).mono ?_; rintro e w7 ⟨rfl, hb7⟩
      replace HBz := Lib.hid (then_ HBz.out hb7)
      clear hb7
      go_wp2
      go_ret
      exact ⟨rfl, HBz.out⟩
  · have hk1 : 1 ≤ k := by omega
    have hkk : ((k : Int) == 0) = false := by simp; omega
    have hkk2 : (k == 0) = false := by simp; omega
    clear hk0
    go_upto_region 8 with fail
    go_cut [13] (fun q wx => ∃ j : Nat, q = .int .i64 j ∧ j < k ∧ w5 = wx)
    case first =>
      clear t0 t1
      by_cases h0 : 0 ≤ a
      · have q1 := Int.emod_nonneg a (b := (k : Int)) (by omega)
        have q2 := Int.emod_lt_of_pos a (b := (k : Int)) (by omega)
        have q3 := Int.emod_nonneg (a % k + k) (b := (k : Int)) (by omega)
        have q4 := Int.emod_lt_of_pos (a % k + k) (b := (k : Int)) (by omega)
        go_wp2_with fail
        go_meet
        exact ⟨((a % k + k) % k).toNat, by rw [Int.toNat_of_nonneg q3], by omega, rfl⟩
      · have q := tmod_bd (L := k) (by omega) (by omega : a < 0)
        obtain ⟨q1, q2⟩ := q
        have q3 := Int.emod_nonneg (a.tmod k + k) (b := (k : Int)) (by omega)
        have q4 := Int.emod_lt_of_pos (a.tmod k + k) (b := (k : Int)) (by omega)
        go_wp2_with fail
        go_meet
        exact ⟨((a.tmod k + k) % k).toNat, by rw [Int.toNat_of_nonneg q3]; congr 1; simp, by omega, rfl⟩
    case rest =>
      obtain ⟨j, rfl, hjk, rfl⟩ := hcut
      have hR := tenRight_len HDL.out (by rw [HKL.out]; omega)
      obtain ⟨hr1, hr2⟩ := hR
      have hkz : (k : Int) = Sh.size s := by have := HDL.out; have := HKL.out; have := Sh.size_bd s; omega
      have HKZ := Lib.hid hkz
      have HR2 := Lib.hid hr2
      have hjz : (j : Int) < Sh.size s := by rw [← hkz]; omega
      have hix := tenIx_place hr2 hjz
      have HP := Lib.hid (Sh.placeOf_place (s := s) (i := j) (by omega) hjz)
      have hhas := tenHas_true (s := s) (d := d) (p := Sh.place s j) (by rw [hix]; omega)
      have HHAS := Lib.hid hhas
      have HSS := Lib.hid (setS_true hhas)
      have HSD := Lib.hid (setD_true (x := x) hhas hix)
      clear hr1 hr2 hkz hjz hix hhas
      go_upto_region 9 with fail
      go_cut [14, 15] (fun p q wx => q = .bool true ∧ ∃ (g : Nat) (A3 : Option Addr) (n3 c3 : Nat) (B3 : Option Addr) (e3 : Nat), p = .pointer (some ⟨g, 0, none⟩) ∧ wx.heap[g]? = some (.cells #[.slice A3 n3 c3, .slice B3 k e3] 26 (0, 0)) ∧ Ten wx (.agg #[.slice A3 n3 c3, .slice B3 k e3]) s (d.set j x) ∧ Below w5.heap.size w5 wx)
      case first =>
        go_wp2_with fail
        have hIs := (ten_ints HT.out).1
        have qt0 := fun o => alloc_keep o t0
        have qt1 := fun o => alloc_keep o t1
        have hIz := (hIs.alloc (.cells #[.slice none 0 0, .slice none 0 0] 26)).drew
        have bz : Below w5.heap.size w5 (w5.alloc (.cells #[.slice none 0 0, .slice none 0 0] 26)).drew := ((Below.refl _ _).alloc (Nat.le_refl _) _).drew
        have zz : (w5.alloc (.cells #[.slice none 0 0, .slice none 0 0] 26)).drew.heap[w5.heap.size]? = some (.cells #[.slice none 0 0, .slice none 0 0] 26 (0, 0)) := heap_alloc_new w5 _
        have ng5 : w5.heap.size ≠ gt := Nat.ne_of_gt (block_lt_of_cell t0)
        have BZ := Lib.hid bz
        have ZZ := Lib.hid zz
        clear bz zz
        go_region_held3 (fun w' => w'.cell? ⟨gt, 0, none⟩ = some (.slice At nt ct) ∧ w'.cell? ⟨gt, 1, none⟩ = some (.slice Bt k et)) (go_keep)
          (first
            | (go_at_call 9; refine (refPlace_any (j : Int) (by first | exact hIs.drew | exact hIz) ⟨by omega, by omega⟩).mono ?_; rw [HP.out]; rintro e w6 ⟨⟨P, m, q, rfl, hq, hJ⟩, hb6⟩; (first | have hb6' : Below w5.heap.size w5 w6 := (Below.refl w5.heap.size w5).drew.trans hb6 | (have hb6' : Below w5.heap.size w5 w6 := then_ BZ.out hb6; have HZ6 := Lib.hid ((hb6.block w5.heap.size (by simp)).trans ZZ.out))); have c0 := box_keep hb6' t0; have c1 := box_keep hb6' t1; have HT6 := Lib.hid (HT.out.below hb6'); have HB6 := Lib.hid hb6'; have qc0 := fun o => alloc_keep o c0; have qc1 := fun o => alloc_keep o c1; have ng6 : w6.heap.size ≠ gt := Nat.ne_of_gt (block_lt_of_cell c0))
            | (go_at_call 15; have hz6 := HZ6.out; refine (tSet_any x HT6.out hJ HX.out).mono ?_; rw [HHAS.out, HSS.out, HSD.out]; rintro e w7 ⟨⟨vu, rfl, hvu⟩, hb7⟩; have HB7 := Lib.hid (then_ HB6.out hb7); have d0 := box_keep hb7 c0; have d1 := box_keep hb7 c1; have hz7 := (hb7.block w5.heap.size (heap_lt hz6)).trans hz6; have z0 := cell0_of hz7; have z1 := cell1_of hz7; have y0 := frozen_of_row _ _ 0 _ _ hz7; have y1 := frozen_of_row _ _ 1 _ _ hz7; have HZ7 := Lib.hid hz7; clear hz7; obtain ⟨A3, n3, c3, B3, m3, e3, rfl, hnc3, hme3, _, _⟩ := hvu.ten; have HVU := Lib.hid hvu; clear hvu)
            | (go_at_call 15; refine (tSet_any x HT6.out hJ HX.out).mono ?_; rw [HHAS.out, HSS.out, HSD.out]; rintro e w7 ⟨⟨vu, rfl, hvu⟩, hb7⟩; have HB7 := Lib.hid (then_ HB6.out hb7); have d0 := box_keep hb7 c0; have d1 := box_keep hb7 c1; obtain ⟨A3, n3, c3, B3, m3, e3, rfl, hnc3, hme3, _, _⟩ := hvu.ten; have HVU := Lib.hid hvu; clear hvu)
            | (go_at_call 15; have bz6 := (Below.refl w6.heap.size w6).alloc (Nat.le_refl _) (.cells #[.slice none 0 0, .slice none 0 0] 26); refine (tSet_any x (HT6.out.below bz6) (hJ.below bz6) HX.out).mono ?_; rw [HHAS.out, HSS.out, HSD.out]; rintro e w7 ⟨⟨vu, rfl, hvu⟩, hb7⟩; have HB7 := Lib.hid (then_ (then_ HB6.out bz6) hb7); have d0 := box_keep hb7 (alloc_keep _ c0); have d1 := box_keep hb7 (alloc_keep _ c1); have hz7 := (hb7.block w6.heap.size (by simp)).trans (heap_alloc_new w6 _); have z0 := cell0_of hz7; have z1 := cell1_of hz7; have y0 := frozen_of_row _ _ 0 _ _ hz7; have y1 := frozen_of_row _ _ 1 _ _ hz7; have HZ7 := Lib.hid hz7; clear hz7; obtain ⟨A3, n3, c3, B3, m3, e3, rfl, hnc3, hme3, _, _⟩ := hvu.ten; have HVU := Lib.hid hvu; clear hvu))
        all_goals go_wp2_with fail
        all_goals go_meet
        all_goals
          obtain rfl : m3 = k := by rw [← (ten_ints HVU.out.ten).2.len, List.length_set, HKL.out]
          first
            | exact ⟨rfl, w7.heap.size, A3, n3, c3, B3, e3, rfl, heap_alloc_new w7 _, HVU.out.ten.below ((Below.refl _ _).alloc (Nat.le_refl _) _), HB7.out.alloc HB7.out.size _⟩
            | exact ⟨rfl, w6.heap.size, A3, n3, c3, B3, e3, rfl, block_set2 HZ7.out _ _, (HVU.out.grown_ (grown_trans (grown_setCell w7 w6.heap.size 0 _) (grown_setCell _ w6.heap.size 1 _)) (by simp)).ten, (HB7.out.setCell (p := ⟨w6.heap.size, 0, none⟩) HB6.out.size _).setCell (p := ⟨w6.heap.size, 1, none⟩) HB6.out.size _⟩
            | exact ⟨rfl, w5.heap.size, A3, n3, c3, B3, e3, rfl, block_set2 HZ7.out _ _, (HVU.out.grown_ (grown_trans (grown_setCell w7 w5.heap.size 0 _) (grown_setCell _ w5.heap.size 1 _)) (by have := heap_lt HZ6.out; omega)).ten, (HB7.out.setCell (p := ⟨w5.heap.size, 0, none⟩) (Nat.le_refl _) _).setCell (p := ⟨w5.heap.size, 1, none⟩) (Nat.le_refl _) _⟩
      case rest =>
        obtain ⟨rfl, gu, A3, n3, c3, B3, e3, rfl, hgu, hTU, hb6⟩ := hcut
        replace HT := Lib.hid (HT.out.below hb6)
        replace HW := Lib.hid (HW.out.below hb6)
        replace HT0 := Lib.hid (box_keep hb6 HT0.out)
        replace HT1 := Lib.hid (box_keep hb6 HT1.out)
        replace HW0 := Lib.hid (box_keep hb6 HW0.out)
        replace HW1 := Lib.hid (box_keep hb6 HW1.out)
        replace HBz := Lib.hid (then_ HBz.out hb6)
        have HU := Lib.hid hTU
        have HU0 := Lib.hid (cell0_of hgu)
        have HU1 := Lib.hid (cell1_of hgu)
        have hke : ((k : Int) != (k : Int)) = false := by simp
        clear hb6 hTU hgu t0 t1 HP HHAS HSS HSD
        have t0 := HT0.out
        have t1 := HT1.out
        have v0 := HW0.out
        have v1 := HW1.out
        have u0 := HU0.out
        have u1 := HU1.out
        go_wp2_with fail
        refine (tSame_any HT.out HW.out).mono ?_; rw [same_self]; rintro e w7 ⟨rfl, hb7⟩
        replace HT := Lib.hid (HT.out.below hb7)
        replace HU := Lib.hid (HU.out.below hb7)
        replace HT0 := Lib.hid (box_keep hb7 HT0.out)
        replace HT1 := Lib.hid (box_keep hb7 HT1.out)
        replace HU0 := Lib.hid (box_keep hb7 HU0.out)
        replace HU1 := Lib.hid (box_keep hb7 HU1.out)
        replace HBz := Lib.hid (then_ HBz.out hb7)
        clear hb7 t0 t1 v0 v1 u0 u1 HW HW0 HW1
        have u0 := HU0.out
        have u1 := HU1.out
        go_wp2_with fail
        clear u0 u1
        go_loopw [82] (fun kv wr => ∃ m : Nat, kv = .int .i64 m ∧ m ≤ k ∧ Below w7.heap.size w7 wr) (fun kv _ => k - (intOf kv).toNat)
        case atStart => exact ⟨0, rfl, by omega, Below.refl _ _⟩
        case round =>
          obtain ⟨m, rfl, hm, hbr⟩ := hrel
          have HBr := Lib.hid hbr
          clear hbr
          by_cases hlt : m < k
          · have hmz : (m : Int) < Sh.size s := by rw [← HKZ.out]; omega
            have hru : tenRight s (d.set j x) = true := by rw [← HR2.out]; simp [tenRight]
            have hix := tenIx_place hru hmz
            have HP := Lib.hid (Sh.placeOf_place (s := s) (i := m) (by omega) hmz)
            have HHAS := Lib.hid (tenHas_true (s := s) (d := d.set j x) (p := Sh.place s m) (by rw [hix]; omega))
            obtain ⟨y, hy⟩ : ∃ y, (d.set j x)[m]? = some y := ⟨_, List.getElem?_eq_getElem (by rw [List.length_set, HKL.out]; exact hlt)⟩
            have HGET := Lib.hid (tenGet_true hix hy)
            have HY := Lib.hid hy
            clear hmz hru hix hy
            have u0 := box_keep HBr.out HU0.out
            have u1 := box_keep HBr.out HU1.out
            have HUr := Lib.hid (HU.out.below HBr.out)
            have hIu := (ten_ints HUr.out).1.drew
            go_wp2_with fail
            go_region_held3 (fun w' => w'.cell? ⟨gu, 0, none⟩ = some (.slice A3 n3 c3) ∧ w'.cell? ⟨gu, 1, none⟩ = some (.slice B3 k e3)) (go_keep)
              (first
                | (go_at_call 9; refine (refPlace_any (m : Int) hIu ⟨by omega, by omega⟩).mono ?_; rw [HP.out]; rintro e w8 ⟨⟨P, mm, q, rfl, hq, hJ⟩, hb8⟩; have HB8 := Lib.hid (HBr.out.drew.trans (hb8.mono HBr.out.size)); have c0 := box_keep (w := wr.drew) hb8 u0; have c1 := box_keep (w := wr.drew) hb8 u1; have HU8 := Lib.hid (Ten.below (w := wr.drew) HUr.out hb8))
                | (go_at_call 17; refine (tGet_any HU8.out hJ).mono ?_; rw [HGET.out, HHAS.out]; rintro e w9 ⟨rfl, hb9⟩; have HB9 := Lib.hid (then_ HB8.out hb9); have d0 := box_keep hb9 c0; have d1 := box_keep hb9 c1))
            have t0 := box_keep HB9.out HT0.out
            have t1 := box_keep HB9.out HT1.out
            by_cases hmj : m = j
            · have hyx : y = x := by
                have := HY.out
                rw [hmj, List.getElem?_set, if_pos rfl, if_pos (by rw [HKL.out]; exact hjk)] at this
                injection this with this
                exact this.symm
              subst hyx
              subst hmj
              have e1 : ((m : Int) == (m : Int)) = true := by simp
              have e2 : ((m : Int) != (m : Int)) = false := by simp
              have e3' : (y != y) = false := by simp
              go_wp2_with fail
              go_roundw
              case rel => exact ⟨m + 1, by go_num, by omega, HB9.out⟩
              case measure => simp [intOf]; omega
            · have hyd : d[m]? = some y := by
                have := HY.out
                rwa [List.getElem?_set_ne (by omega)] at this
              have e1 : ((m : Int) == (j : Int)) = false := by simp; omega
              have e2 : ((m : Int) != (j : Int)) = true := by simp; omega
              have e3' : (y != y) = false := by simp
              obtain ⟨bd, bx, rfl, hbl, hbx, hbc, _⟩ := (ten_ints (HT.out.below HB9.out)).2.at_ hlt
              obtain rfl : bx = y := by rw [hyd] at hbx; injection hbx with hbx; exact hbx.symm
              clear hyd hbx
              go_wp2_with fail
              go_roundw
              case rel => exact ⟨m + 1, by go_num, by omega, HB9.out⟩
              case measure => simp [intOf]; omega
          · go_wp2_with fail
            refine (l2known_any _).mono ?_; rintro e w8 ⟨rfl, hb8⟩
            replace HBz := Lib.hid (then_ (then_ HBz.out HBr.out) hb8)
            clear hb8
            go_wp2
            go_ret
            exact ⟨rfl, HBz.out⟩
end Go.Proofs.Ytdgckcckkfgooaa
